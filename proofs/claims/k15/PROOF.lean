import PyProof.Rows.All
import Wide.All
import OpenK.AllK
import Wide.FinOn
import Lean
import PyProof.EqAt
import PyProof.EqKinds
import PyProof.TupleCall
import PySem.Challenge.RW_seekhall_k15_whole_long_sums_and_counts
set_option Elab.async false
set_option linter.all false
set_option maxRecDepth 100000
namespace L2
open PySem PySem.Spec PyProof.Rows
noncomputable abbrev Key := Sum Int Str
noncomputable def keyIs : Key → Value → Bool
  | .inl k, v => Value.isInt k v
  | .inr x, v => Value.isStrOf x v
noncomputable def keyH (w : World) : Key → Int
  | .inl k => hashInt k
  | .inr x => hashStr w x
theorem keyIs_shape : ∀ {k : Key} {v : Value}, keyIs k v = true → (∃ i t, k = Sum.inl i ∧ v = Value.int i t) ∨ (∃ x t, k = Sum.inr x ∧ v = Value.str x t)
  | .inl i, v, h => by
    obtain ⟨t, e⟩ := Value.isInt_shape (k := i) (v := v) h
    exact .inl ⟨i, t, rfl, e⟩
  | .inr x, v, h => by
    obtain ⟨t, e⟩ := Value.isStrOf_shape (x := x) (v := v) h
    exact .inr ⟨x, t, rfl, e⟩
theorem keyIs_int (i : Int) (t : Tok) : keyIs (.inl i) (.int i t) = true := by simp [keyIs, Value.isInt]
theorem keyIs_str (x : Str) (t : Tok) : keyIs (.inr x) (.str x t) = true := by simp [keyIs, Value.isStrOf]
theorem key_ll (a b : Int) : decide ((Sum.inl a : Key) = Sum.inl b) = (a == b) := by
  by_cases e : a = b
  · subst e; simp
  · have h : ¬ (Sum.inl a : Key) = Sum.inl b := fun q => e (Sum.inl.inj q)
    rw [decide_eq_false h]
    exact (beq_eq_false_iff_ne.mpr e).symm
theorem key_rr (a b : Str) : decide ((Sum.inr a : Key) = Sum.inr b) = decide (a = b) := by
  by_cases e : a = b
  · subst e; simp
  · have h : ¬ (Sum.inr a : Key) = Sum.inr b := fun q => e (Sum.inr.inj q)
    rw [decide_eq_false h, decide_eq_false e]
theorem key_lr (a : Int) (b : Str) : decide ((Sum.inl a : Key) = Sum.inr b) = false := decide_eq_false (fun q => nomatch q)
theorem key_rl (a : Str) (b : Int) : decide ((Sum.inr a : Key) = Sum.inl b) = false := decide_eq_false (fun q => nomatch q)
noncomputable def mixKind (prog : Program) (w : World) : PySem.KeyKind prog w Key where
  is := keyIs
  hash := keyH w
  inj := fun v a b ha hb => by
    rcases keyIs_shape ha with ⟨i, t, rfl, rfl⟩ | ⟨x, t, rfl, rfl⟩
    · rcases keyIs_shape hb with ⟨j, u, rfl, e⟩ | ⟨y, u, rfl, e⟩
      · injection e with e1 _; rw [e1]
      · exact nomatch e
    · rcases keyIs_shape hb with ⟨j, u, rfl, e⟩ | ⟨y, u, rfl, e⟩
      · exact nomatch e
      · injection e with e1 _; rw [e1]
  byValue := fun k v h => by
    rcases keyIs_shape h with ⟨i, t, rfl, rfl⟩ | ⟨x, t, rfl, rfl⟩ <;> rfl
  pyHash := fun hv h => by
    rcases keyIs_shape hv with ⟨i, t, rfl, rfl⟩ | ⟨x, t, rfl, rfl⟩
    · exact wpAny_pyHash_int h
    · exact wpAny_pyHash_str h
  eqBool := fun hu hv h => by
    rcases keyIs_shape hu with ⟨i, t, rfl, rfl⟩ | ⟨x, t, rfl, rfl⟩
    · rcases keyIs_shape hv with ⟨j, u, rfl, rfl⟩ | ⟨y, u, rfl, rfl⟩
      · rw [key_ll] at h; exact wpAny_eqBool_int h
      · rw [key_lr] at h; exact SeqAt.EqAt.int_str i t y u _ _ _ _ h
    · rcases keyIs_shape hv with ⟨j, u, rfl, rfl⟩ | ⟨y, u, rfl, rfl⟩
      · rw [key_rl] at h; exact SeqAt.EqAt.str_int x t j u _ _ _ _ h
      · rw [key_rr] at h; exact wpAny_eqBool_str h
  «strs» := fun k x t v h => by
    rcases keyIs_shape h with ⟨i, u, rfl, e⟩ | ⟨y, u, rfl, e⟩
    · exact nomatch e
    · injection e with e1 _
      subst e1
      cases v <;> rfl
theorem mixKind_int (prog : Program) (w : World) (i : Int) (t : Tok) : (mixKind prog w).is (.inl i) (.int i t) = true := keyIs_int i t
theorem mixKind_str (prog : Program) (w : World) (x : Str) (t : Tok) : (mixKind prog w).is (.inr x) (.str x t) = true := keyIs_str x t
end L2
namespace L2
open PySem PySem.Spec PyProof.Rows
inductive V where
  | non | bl (b : Bool) | int (i : Int) | str (x : Str) | byt (b : Array UInt8) | flt (b : UInt64) | ref (a : Addr) | ty (n : String)
  deriving DecidableEq
noncomputable def RelV : V → Value → Prop
  | .non, u => u = Value.none
  | .bl b, u => u = Value.bool b
  | .int i, u => ∃ t, u = Value.int i t
  | .str x, u => ∃ t, u = Value.str x t
  | .byt b, u => ∃ t, u = Value.bytes b t
  | .flt b, u => ∃ t, u = Value.float b t
  | .ref a, u => u = Value.ref a
  | .ty n, u => u = Value.type n
noncomputable abbrev Vals : List V → List Value → Prop := Paired RelV
theorem Vals.length {xs : List V} {us : List Value} (r : Vals xs us) : xs.length = us.length := Paired.length r
theorem Vals.get : ∀ {xs : List V} {us : List Value} {i : Nat} {x : V}, Vals xs us → xs[i]? = some x → ∃ u, us[i]? = some u ∧ RelV x u
  | _, _, _, _, .nil, e => by simp at e
  | _, _, 0, _, .cons r _, e => by simp at e; subst e; exact ⟨_, rfl, r⟩
  | _, _, i + 1, x, .cons _ t, e => by
    obtain ⟨u, h1, h2⟩ := Vals.get (i := i) (x := x) t (by simpa using e)
    exact ⟨u, by simpa using h1, h2⟩
theorem Vals.append : ∀ {xs ys : List V} {us ws : List Value}, Vals xs us → Vals ys ws → Vals (xs ++ ys) (us ++ ws)
  | _, _, _, _, .nil, s => s
  | _, _, _, _, .cons r t, s => .cons r (Vals.append t s)
theorem Vals.take : ∀ {xs : List V} {us : List Value} (n : Nat), Vals xs us → Vals (xs.take n) (us.take n)
  | _, _, 0, _ => .nil
  | _, _, _ + 1, .nil => .nil
  | _, _, n + 1, .cons r t => .cons r (Vals.take n t)
theorem Vals.drop : ∀ {xs : List V} {us : List Value} (n : Nat), Vals xs us → Vals (xs.drop n) (us.drop n)
  | _, _, 0, r => r
  | _, _, _ + 1, .nil => .nil
  | _, _, n + 1, .cons _ t => Vals.drop n t
noncomputable def RelO : Option V → Option Value → Prop
  | some v, some u => RelV v u
  | none, none => True
  | _, _ => False
noncomputable def KV {κ : Type} : List (κ × V) → List (κ × Value) → Prop := Paired fun (p : κ × V) (q : κ × Value) => p.1 = q.1 ∧ RelV p.2 q.2
noncomputable def kV : Key → V
  | .inl i => .int i
  | .inr x => .str x
inductive HO where
  /-- a list -/
  | lst (xs : List V)
  /-- a tuple (never changes) -/
  | tup (xs : List V)
  /-- a dict whose keys are ints and texts; one whose keys are tuples of ints and texts (the empty one is both) -/
  | dK (kvs : List (Key × V)) | dT (kvs : List (List Key × V))
  /-- a set of ints: its members, its size -/
  | set (S : Int → Bool) (n : Nat)
  /-- an instance of the class at C, its dict at dx, its attributes -/
  | ins (C dx : Addr) (fs : List (Str × V))
  /-- the dict of the instance at x -/
  | own (x : Addr)
  /-- the dict of an exception -/
  | xd (fs : List (Str × V))
  /-- a bound method, f of x -/
  | met (f x : Addr)
  /-- a range object lo, lo + 1, .. below hi -/
  | rng (lo hi : Int)
  /-- a thing that is known to the object (the script; a dict while a loop walks it): read, never written while it is so -/
  | frz (o : Obj) (u : HO)
  /-- a code object's table -/
  | tbl (ps : Array Value)
  /-- a def's table of codes made in its body, all of the qualified name q; the codes are its own -/
  | tab (q : Str)
  /-- any other thing, by what is true of its one object (a def of one's own: SetO a S n := HO.ext fun h => ..) -/
  | ext (φ : Heap → Prop)
noncomputable abbrev Hp := Addr → Option HO
noncomputable def upd (H : Hp) (a : Addr) (o : HO) : Hp := fun b => if b = a then some o else H b
theorem upd_same {H : Hp} {a : Addr} {o : HO} : upd H a o a = some o := by unfold upd; rw [if_pos rfl]
theorem upd_ne {H : Hp} {a b : Addr} {o : HO} (h : b ≠ a) : upd H a o b = H b := by unfold upd; rw [if_neg h]
theorem ne_of {H : Hp} {a b : Addr} {o u : HO} (h : H a = some o) (h' : H b = some u) (d : o ≠ u) : a ≠ b := by
  intro e; subst e; rw [h] at h'; exact d (Option.some.inj h')
theorem ne_of_none {H : Hp} {a b : Addr} {o : HO} (h : H a = some o) (h' : H b = none) : a ≠ b := by
  intro e; subst e; rw [h] at h'; cases h'
section
variable (P : Program) (w : World)
noncomputable def CodeO (o : Obj) (q : Str) : Prop := ∃ vs t, o.data = .fields vs ∧ vs[1]? = some (.str q t)
noncomputable def ObjOk (H : Hp) (h : Heap) (a : Addr) : HO → Prop
  | .lst xs => xs.length ≤ sizeLine ∧ ∃ (its : List Value) (n : Nat), Vals xs its ∧ h.get? a = some { cls := .type "list", data := .seq its.toArray n }
  | .tup xs => xs.length ≤ sizeLine ∧ ∃ its : List Value, Vals xs its ∧ IsTup h a its.toArray
  | .dK kvs => kvs.length ≤ sizeLine ∧ (a == sysModules) = false ∧ ∃ vs, KV kvs vs ∧ h.DictOf (mixKind P w) a vs
  | .dT kvs => kvs.length ≤ sizeLine ∧ (a == sysModules) = false ∧ ∃ xs : List (List Key × Addr × Value),
      Paired (fun (p : List Key × V) (q : List Key × Addr × Value) => p.1 = q.1 ∧ H q.2.1 = some (.tup (p.1.map kV)) ∧ RelV p.2 q.2.2) kvs xs ∧
      ∃ o es ep, h.get? a = some o ∧ o.ExactDict ∧ o.data = .dict es ep ∧ es.toList = xs.map (entryOfKey (tupleKind (mixKind P w))) ∧ (xs.map (·.1)).Nodup
  | .set S n => h.SetOf (intKind P w) a S n
  | .ins C dx fs => H dx = some (.own a) ∧ fs.length ≤ 1000 ∧ dx ≠ a ∧ h.get? a = some (PySem.W.instObj C dx) ∧
      ∃ mA, h.Ns1 dx mA ∧ (∀ f, RelO (fs.lookup f) (mA f)) ∧ PySem.Within mA (fs.map (·.1))
  | .own _ => ∃ o, h.get? a = some o
  | .xd fs => ∃ mA, h.Ns1 a mA ∧ ∀ f, RelO (fs.lookup f) (mA f)
  | .rng lo hi => ∃ t u v, h.get? a = some { cls := .type "range", data := .fields #[.int lo t, .int hi u, .int 1 v] }
  | .frz o u => h.get? a = some o ∧ ObjOk H h a u
  | .tbl ps => h.get? a = some { cls := .none, data := .fields ps }
  | .tab q => ∃ ps : Array Value, h.get? a = some { cls := .none, data := .fields ps } ∧ TriplesOk ps.toList ∧ ∀ pos cv, codeAmong pos ps.toList = some cv → ∃ c oc, cv = Value.ref c ∧ c ≠ a ∧ H c = some (.frz oc (.own a)) ∧ CodeO oc q
  | .met f x => h.get? a = some (PySem.W.methodObj (.ref f) (.ref x))
  | .ext φ => φ h ∧ (∃ o, h.get? a = some o) ∧ ∀ h1 h2 : Heap, φ h1 → (∀ o, h1.get? a = some o → h2.get? a = some o) → φ h2
noncomputable def HOk (H : Hp) (h : Heap) : Prop := ∀ a o, H a = some o → ObjOk P w H h a o
end
section
variable {P : Program} {w : World} {H H' : Hp} {h h' : Heap} {a : Addr} {o : HO}
theorem ObjOk.lt (x : ObjOk P w H h a o) : a < h.objs.size := by
  cases o with
  | lst xs => obtain ⟨_, _, _, _, e⟩ := x; exact Heap.lt_size e
  | tup xs => obtain ⟨_, _, _, p⟩ := x; exact p.lt
  | dK kvs => obtain ⟨_, _, _, _, o, _, _, e, _⟩ := x; exact Heap.lt_size e
  | dT kvs => obtain ⟨_, _, _, _, o, _, _, e, _⟩ := x; exact Heap.lt_size e
  | set S n => obtain ⟨o, _, _, _, e, _⟩ := x; exact Heap.lt_size e
  | ins C dx fs => obtain ⟨_, _, _, e, _⟩ := x; exact Heap.lt_size e
  | own y => obtain ⟨_, e⟩ := x; exact Heap.lt_size e
  | xd fs => obtain ⟨_, ⟨_, _, _, e, _⟩, _⟩ := x; exact Heap.lt_size e
  | rng lo hi => obtain ⟨_, _, _, e⟩ := x; exact Heap.lt_size e
  | frz ob u => obtain ⟨e, _⟩ := x; exact Heap.lt_size e
  | tbl ps => exact Heap.lt_size (show h.get? a = some _ from x)
  | tab q => obtain ⟨_, e, _⟩ := x; exact Heap.lt_size e
  | met f y => exact Heap.lt_size (show h.get? a = some _ from x)
  | ext φ => obtain ⟨_, ⟨_, e⟩, _⟩ := x; exact Heap.lt_size e
theorem Paired.mapP {α β : Type} {F G : α → β → Prop} : ∀ {l₁ : List α} {l₂ : List β}, Paired F l₁ l₂ → (∀ a b, F a b → G a b) → Paired G l₁ l₂
  | _, _, .nil, _ => .nil
  | _, _, .cons r t, f => .cons (f _ _ r) (Paired.mapP t f)
theorem ObjOk.stay (x : ObjOk P w H h a o) (k : ∀ b u, (b = a ∨ H b = some (.own a)) → h.get? b = some u → h'.get? b = some u)
    (ho : ∀ b, H b = some (.own a) → H' b = some (.own a)) (ht : ∀ b xs, H b = some (.tup xs) → H' b = some (.tup xs)) (hz : ∀ b o y, H b = some (.frz o (.own y)) → H' b = some (.frz o (.own y)) := by exact fun _ _ _ q => q) : ObjOk P w H' h' a o := by
  induction o with
  | lst xs => obtain ⟨z, its, n, r, e⟩ := x; exact ⟨z, its, n, r, k _ _ (.inl rfl) e⟩
  | tup xs => obtain ⟨z, its, r, ob, e, c⟩ := x; exact ⟨z, its, r, ob, k _ _ (.inl rfl) e, c⟩
  | dK kvs => obtain ⟨z, y, vs, r, ob, es, ep, e, c⟩ := x; exact ⟨z, y, vs, r, ob, es, ep, k _ _ (.inl rfl) e, c⟩
  | dT kvs =>
    obtain ⟨z, y, xs, r, ob, es, ep, e, c⟩ := x
    exact ⟨z, y, xs, Paired.mapP r fun p q z => ⟨z.1, ht _ _ z.2.1, z.2.2⟩, ob, es, ep, k _ _ (.inl rfl) e, c⟩
  | set S n => obtain ⟨ob, es, ep, t, e, c⟩ := x; exact ⟨ob, es, ep, t, k _ _ (.inl rfl) e, c⟩
  | ins C dx fs =>
    obtain ⟨d, z, ne, e, mA, ⟨od, es, ep, e2, c⟩, r⟩ := x
    exact ⟨ho _ d, z, ne, k _ _ (.inl rfl) e, mA, ⟨od, es, ep, k _ _ (.inr d) e2, c⟩, r⟩
  | own y => obtain ⟨ob, e⟩ := x; exact ⟨ob, k _ _ (.inl rfl) e⟩
  | xd fs => obtain ⟨mA, ⟨od, es, ep, e, c⟩, r⟩ := x; exact ⟨mA, ⟨od, es, ep, k _ _ (.inl rfl) e, c⟩, r⟩
  | rng lo hi => obtain ⟨t, u, v, e⟩ := x; exact ⟨t, u, v, k _ _ (.inl rfl) e⟩
  | frz ob u ih => obtain ⟨e, q⟩ := x; exact ⟨k _ _ (.inl rfl) e, ih q⟩
  | tbl ps =>
    have e : h.get? a = some { cls := .none, data := .fields ps } := x
    show h'.get? a = some { cls := .none, data := .fields ps }
    exact k a _ (.inl rfl) e
  | tab q =>
    obtain ⟨ps, e, t, hc⟩ := x
    refine ⟨ps, k _ _ (.inl rfl) e, t, fun pos cv z => ?_⟩
    obtain ⟨c, oc, ec, ne, hw, hq⟩ := hc pos cv z
    exact ⟨c, oc, ec, ne, hz _ _ _ hw, hq⟩
  | met f y =>
    have e : h.get? a = some (PySem.W.methodObj (.ref f) (.ref y)) := x
    show h'.get? a = some (PySem.W.methodObj (.ref f) (.ref y))
    exact k a _ (.inl rfl) e
  | ext φ => obtain ⟨p, ⟨o, e⟩, st⟩ := x; exact ⟨st _ _ p fun o q => k _ _ (.inl rfl) q, ⟨o, k _ _ (.inl rfl) e⟩, st⟩
theorem HOk.lt (x : HOk P w H h) (e : H a = some o) : a < h.objs.size := (x a o e).lt
theorem HOk.fresh (x : HOk P w H h) (e : h.objs.size ≤ a) : H a = none := by
  cases q : H a with
  | none => rfl
  | some u => exact absurd (Nat.lt_of_lt_of_le (x.lt q) e) (Nat.lt_irrefl _)
theorem HOk.kept (x : HOk P w H h) (k : ∀ b u, h.get? b = some u → h'.get? b = some u) : HOk P w H h' := fun a o e =>
  (x a o e).stay (fun b u _ q => k b u q) (fun _ q => q) fun _ _ q => q
theorem HOk.laid (x : HOk P w H h) (k : ∀ b u, h.get? b = some u → h'.get? b = some u) (hp : h.objs.size ≤ a) (new : ObjOk P w (upd H a o) h' a o) : HOk P w (upd H a o) h' := fun b u e => by
  have hn := x.fresh hp
  by_cases hb : b = a
  · subst hb; rw [upd_same] at e; cases e; exact new
  · rw [upd_ne hb] at e
    exact (x b u e).stay (fun c v _ q => k c v q) (fun c q => by rw [upd_ne (ne_of_none q hn)]; exact q) (fun c xs q => by rw [upd_ne (ne_of_none q hn)]; exact q) fun c _ _ q => by rw [upd_ne (ne_of_none q hn)]; exact q
end
noncomputable def Rd (H : Hp) (a : Addr) (u : HO) : Prop := H a = some u ∨ ∃ o, H a = some (.frz o u)
theorem Rd.ok {P : Program} {w : World} {H : Hp} {h : Heap} {a : Addr} {u : HO} (r : Rd H a u) (x : HOk P w H h) : ObjOk P w H h a u := by
  rcases r with r | ⟨o, r⟩
  · exact x a u r
  · obtain ⟨_, q⟩ := x a _ r
    exact q
noncomputable def Mut : Option HO → Prop
  | some (.lst _) => True
  | some (.dK _) => True
  | some (.dT _) => True
  | some (.set _ _) => True
  | some (.ins _ _ _) => True
  | some (.ext _) => True
  | some (.tab _) => True
  | _ => False
section
variable {P : Program} {w : World} {H : Hp} {h h' : Heap} {x e : Addr} {o' : HO}
theorem HOk.write (ok : HOk P w H h) (mu : Mut (H x)) (he : e = x ∨ H e = some (.own x)) (k : ∀ b u, b ≠ e → h.get? b = some u → h'.get? b = some u) (heo : ∃ u, h'.get? e = some u)
    (new : ObjOk P w (upd H x o') h' x o') : HOk P w (upd H x o') h' := fun b u q => by
  have nown : ∀ c y, H c = some (.own y) → c ≠ x := fun c y r z => by subst z; rw [r] at mu; exact mu
  have ntup : ∀ c xs, H c = some (.tup xs) → c ≠ x := fun c xs r z => by subst z; rw [r] at mu; exact mu
  by_cases hb : b = x
  · subst hb; rw [upd_same] at q; cases q; exact new
  · rw [upd_ne hb] at q
    by_cases hbe : b = e
    · have q' : H b = some (.own x) := by
        rcases he with z | z
        · exact absurd (hbe.trans z) hb
        · rw [hbe]; exact z
      rw [q] at q'; cases q'
      obtain ⟨v, hv⟩ := heo
      exact ⟨v, by rw [hbe]; exact hv⟩
    · refine (ok b u q).stay (fun c v hc r => k c v ?_ r) (fun c r => by rw [upd_ne (nown c b r)]; exact r) (fun c xs r => by rw [upd_ne (ntup c xs r)]; exact r) fun c _ _ r => by rw [upd_ne (fun z => by subst z; rw [r] at mu; exact mu)]; exact r
      rcases hc with rfl | hc
      · exact hbe
      · rintro rfl
        rcases he with z | z
        · exact nown c b hc z
        · rw [hc] at z; cases z; exact hb rfl
end
structure Un (fs ex : List Addr) (H H' : Hp) (h h' : Heap) : Prop where
  keep : ∀ b o, h.get? b = some o → H b = none → b ∉ fs → b ∉ ex → h'.get? b = some o
  slot : ∀ b o, h.get? b = some o → H b = none → b ∈ fs → b ∉ ex → ∃ sl, h'.get? b = some { o with slots := sl }
  free : ∀ b o, h.get? b = some o → H b = none → b ∉ ex → H' b = none
  there : ∀ b o, h.get? b = some o → b ∉ ex → ∃ o', h'.get? b = some o'
  tups : ∀ b xs, H b = some (.tup xs) → H' b = some (.tup xs)
  frzs : ∀ b o u, H b = some (.frz o u) → H' b = some (.frz o u)
  tbls : ∀ b ps, H b = some (.tbl ps) → ∃ more, H' b = some (.tbl (ps ++ more))
section
variable {fs fs' ex ex' : List Addr} {H H1 H2 : Hp} {h h1 h2 h' : Heap} {a x e : Addr} {o : HO}
theorem Un.any (u : Un fs ex H H1 h h1) {b : Addr} {ob : Obj} (q : h.get? b = some ob) (n : H b = none) (hx : b ∉ ex) : ∃ sl, h1.get? b = some { ob with slots := sl } := by
  by_cases hb : b ∈ fs
  · exact u.slot b ob q n hb hx
  · exact ⟨ob.slots, u.keep b ob q n hb hx⟩
theorem Un.kept (k : ∀ b u, h.get? b = some u → h'.get? b = some u) : Un fs ex H H h h' :=
  ⟨fun b ob q _ _ _ => k b ob q, fun b ob q _ _ _ => ⟨ob.slots, k b ob q⟩, fun _ _ _ n _ => n, fun b ob q _ => ⟨ob, k b ob q⟩, fun _ _ q => q, fun _ _ _ q => q, fun _ ps q => ⟨#[], by rw [q]; simp⟩⟩
theorem Un.refl : Un fs ex H H h h := Un.kept fun _ _ q => q
theorem Un.laid (k : ∀ b u, h.get? b = some u → h'.get? b = some u) (hp : h.objs.size ≤ a) (hn : H a = none) : Un fs ex H (upd H a o) h h' where
  keep := fun b u q _ _ _ => k b u q
  slot := fun b u q _ _ _ => ⟨u.slots, k b u q⟩
  free := fun b u q n _ => by rw [upd_ne (Nat.ne_of_lt (Nat.lt_of_lt_of_le (Heap.lt_size q) hp))]; exact n
  there := fun b u q _ => ⟨u, k b u q⟩
  tups := fun b xs q => by rw [upd_ne (ne_of_none q hn)]; exact q
  frzs := fun b u xs q => by rw [upd_ne (ne_of_none q hn)]; exact q
  tbls := fun b ps q => ⟨#[], by rw [upd_ne (ne_of_none q hn), q]; simp⟩
theorem Un.write (mu : Mut (H x)) (he : e = x ∨ H e = some (.own x)) (k : ∀ b u, b ≠ e → h.get? b = some u → h'.get? b = some u) (heo : ∃ u, h'.get? e = some u) : Un fs ex H (upd H x o) h h' := by
  have hx : ∀ b, H b = none → b ≠ x := fun b n z => by subst z; rw [n] at mu; exact mu
  have hb : ∀ b, H b = none → b ≠ e := fun b n z => by
    subst z
    rcases he with r | r
    · exact hx b n r
    · rw [n] at r; cases r
  have hm : ∀ b u, H b = some u → ¬ Mut (some u) → b ≠ x := fun b u q nm z => by subst z; rw [q] at mu; exact nm mu
  refine ⟨fun b u q n _ _ => k b u (hb b n) q, fun b u q n _ _ => ⟨u.slots, k b u (hb b n) q⟩, fun b u q n _ => by rw [upd_ne (hx b n)]; exact n, fun b u q _ => ?_,
    fun b xs q => by rw [upd_ne (hm b _ q fun z => z)]; exact q, fun b u xs q => by rw [upd_ne (hm b _ q fun z => z)]; exact q, fun b ps q => ⟨#[], by rw [upd_ne (hm b _ q fun z => z), q]; simp⟩⟩
  by_cases hbe : b = e
  · subst hbe; exact heo
  · exact ⟨u, k b u hbe q⟩
end
noncomputable def trk (h : Heap) (H : Hp) : List Addr := (List.range h.objs.size).filter fun a => (H a).isSome
noncomputable def hidT (h : Heap) (H : Hp) : Heap := PySem.W.hideAll h (trk h H)
theorem hidT_size (h : Heap) (H : Hp) : (hidT h H).objs.size = h.objs.size := PySem.W.hideAll_size _ _
theorem hidT_get {h : Heap} {H : Hp} {b : Addr} {o : Obj} (e : h.get? b = some o) (n : H b = none) : (hidT h H).get? b = some o :=
  PySem.W.hideAll_get _ e fun hm => by
    have q : (H b).isSome = true := (List.mem_filter.mp hm).2
    rw [n] at q; simp at q
theorem of_hidT {h : Heap} {H : Hp} {b : Addr} {o : Obj} (e : (hidT h H).get? b = some o) : h.get? b = some o ∧ H b = none := by
  have e' : h.get? b = some o := PySem.W.of_hideAll (trk h H) e
  refine ⟨e', ?_⟩
  cases q : H b with
  | none => rfl
  | some x =>
    have hm : b ∈ trk h H := List.mem_filter.mpr ⟨List.mem_range.mpr (Heap.lt_size e'), by simp [q]⟩
    have z : (hidT h H).get? b = none := PySem.W.hideAll_none (trk h H) hm
    rw [z] at e; cases e
end L2
namespace L2
open PySem PySem.Spec PyProof.Rows
structure Mod (K : PySem.W.Frag) (mg : Str → Option Value) (base : Heap) : Prop where
  kin : K.In base
  glob : base.Ns mainGlobals mg
  blt : ∃ mb, base.Ns builtinsNs mb ∧ ∀ x : Str, x ≠ "__name__" → mb x = bootBuiltins x
  nolimit : base.NoLimit
structure Cx where
  prog : Program
  w : World
  K : PySem.W.Frag
  mg : Str → Option Value
  base : Heap
  A : Around
  N : List Str
  s₀ : Shared
  H₀ : Hp
  env : Env
  outer : List Env
  stack : List Env
  ex : List Addr
  fn : Str → Bool
  calm : Bool
  pn : List (Addr × Obj)
  xe : Value → Shared → Prop
noncomputable def frs (l : List Env) : List Addr := l.filterMap (·.frame)
noncomputable abbrev Cx.fs (X : Cx) : List Addr := frs X.outer
noncomputable def Vis (sc : Scope) (x : Str) : Prop := sc.names.lookup x = some .local ∨ sc.names.lookup x = some .cell ∨ sc.names.lookup x = some .free
noncomputable def Loc (sc : Scope) (x : Str) : Prop := sc.names.lookup x = some .local ∨ sc.names.lookup x = some .cell
noncomputable def Look (env : Env) (h : Heap) (m : Str → Option Value) (x : Str) (u : Value) : Prop :=
  (env.kindOf x = some .local ∧ m x = some u) ∨ ((env.kindOf x = some .cell ∨ env.kindOf x = some .free) ∧ ∃ c, env.cells.lookup x = some c ∧ h.IsCell c (some u))
structure Cx.Ok (X : Cx) : Prop where
  mod : Mod X.K X.mg X.base
  kind : X.env.scope.kind = .function
  glob : X.env.globals = mainGlobals
  blt : X.env.builtins = builtinsNs
  above : X.s₀.heap.objs.size ≤ X.env.locals
  inj : ∀ x y c, X.env.cells.lookup x = some c → X.env.cells.lookup y = some c → x = y
  has : ∀ x, (X.env.kindOf x = some .cell ∨ X.env.kindOf x = some .free) → ∃ c, X.env.cells.lookup x = some c
  cab : ∀ x c, X.fn x = true → X.env.cells.lookup x = some c → X.s₀.heap.objs.size ≤ c
  hd : X.calm = true → X.A.handled = none
  frames : X.A.frames = some X.stack
  stk : X.stack = X.outer ∨ (X.stack = X.env :: X.outer ∧ X.env.frame = some X.env.locals)
  exf : ∀ b ∈ X.ex, b ≠ X.env.locals ∧ ∀ x c, X.env.cells.lookup x = some c → c ≠ b
  bs : ∀ b o, X.base.get? b = some o → X.s₀.heap.get? b = some o ∧ X.H₀ b = none
  bsz : X.base.objs.size ≤ X.s₀.heap.objs.size
  noex : ∀ b o, X.base.get? b = some o → b ∉ X.ex
  exfs : ∀ b ∈ X.ex, b ∉ X.fs
  funs : X.s₀.heap.FunFrames X.base X.outer
  frf : ∀ b ∈ X.fs, X.H₀ b = none
structure Inv (X : Cx) (pins : List (Addr × Obj)) (σ : List (Option V)) (H : Hp) (s : Shared) : Prop where
  ok : X.Ok
  os : s.os = X.s₀.os
  bare : AllBare s.gens
  base : Un X.fs X.ex X.H₀ H X.s₀.heap s.heap
  loc : ∃ m, s.heap.Ns X.env.locals m ∧ ∀ (i : Nat) (x : Str) (v : V), X.N[i]? = some x → σ[i]? = some (some v) → Vis X.env.scope x → ∃ u, RelV v u ∧ Look X.env s.heap m x u
  cell : ∀ x c, X.env.cells.lookup x = some c → ∃ v, s.heap.IsCell c v
  free : H X.env.locals = none
  freeC : ∀ x c, X.env.cells.lookup x = some c → H c = none
  pin : ∀ p ∈ X.pn ++ pins, s.heap.get? p.1 = some p.2 ∧ H p.1 = none ∧ p.1 ≠ X.env.locals ∧ p.1 ∉ X.fs ∧ ∀ v, p.2.data ≠ .cell v
  hok : HOk X.prog X.w H s.heap
  len : σ.length = X.N.length
section
variable {X : Cx} {pins : List (Addr × Obj)} {σ : List (Option V)} {H H' : Hp} {s : Shared} {h' : Heap}
theorem Cx.Ok.nofr (ok : X.Ok) {b : Addr} {o : Obj} (e : X.base.get? b = some o) : b ∉ X.fs := fun hb => by
  have := (ok.funs.mem hb).1
  rw [e] at this; cases this
theorem Inv.bs (I : Inv X pins σ H s) : ∀ b o, X.base.get? b = some o → s.heap.get? b = some o ∧ H b = none := fun b o e =>
  ⟨I.base.keep b o (I.ok.bs b o e).1 (I.ok.bs b o e).2 (I.ok.nofr e) (I.ok.noex b o e), I.base.free b o (I.ok.bs b o e).1 (I.ok.bs b o e).2 (I.ok.noex b o e)⟩
theorem Inv.bk (I : Inv X pins σ H s) : ∀ b o, X.base.get? b = some o → s.heap.get? b = some o := fun b o e => (I.bs b o e).1
theorem Inv.mod (I : Inv X pins σ H s) : Mod X.K X.mg X.base := I.ok.mod
theorem Inv.kIn (I : Inv X pins σ H s) : X.K.In s.heap := I.ok.mod.kin.keeps I.bk
theorem Inv.lt (I : Inv X pins σ H s) : X.env.locals < s.heap.objs.size := let ⟨_, hn, _⟩ := I.loc; hn.lt
theorem Inv.sz (I : Inv X pins σ H s) : X.s₀.heap.objs.size ≤ s.heap.objs.size := Nat.le_trans I.ok.above (Nat.le_of_lt I.lt)
theorem Inv.nofs (I : Inv X pins σ H s) {a : Addr} (h : s.heap.objs.size ≤ a) : a ∉ X.fs := fun hb => by
  obtain ⟨_, o, ho, _⟩ := I.ok.funs.mem hb
  exact absurd (Nat.lt_of_lt_of_le (Heap.lt_size ho) (Nat.le_trans I.sz h)) (Nat.lt_irrefl _)
theorem Inv.cne (I : Inv X pins σ H s) : ∀ x c, X.env.cells.lookup x = some c → c ≠ X.env.locals := fun x c e z => by
  obtain ⟨v, o, ho, hd⟩ := I.cell x c e
  obtain ⟨m, ⟨o', es, ep, ho', hd', _⟩, _⟩ := I.loc
  rw [z, ho'] at ho; cases ho; rw [hd'] at hd; cases hd
theorem Inv.funs (I : Inv X pins σ H s) : s.heap.FunFrames X.base X.outer := by
  have all : ∀ (l : List Env), (∀ b ∈ frs l, b ∈ X.fs) → X.s₀.heap.FunFrames X.base l → s.heap.FunFrames X.base l := by
    intro l
    induction l with
    | nil => intro _ _; trivial
    | cons env r ih =>
      intro hs hl
      obtain ⟨hk, ⟨L, o, hf, hn, ho, hd⟩, hr⟩ := hl
      have hL : L ∈ X.fs := hs L (by unfold frs; rw [List.filterMap_cons, hf]; exact List.mem_cons_self)
      obtain ⟨sl, e⟩ := I.base.slot L o ho (I.ok.frf L hL) hL fun z => I.ok.exfs L z hL
      exact ⟨hk, ⟨L, _, hf, hn, e, hd⟩, ih (fun b hb => hs b (by unfold frs; rw [List.filterMap_cons, hf]; exact List.mem_cons_of_mem _ hb)) hr⟩
  exact all X.outer (fun _ hb => hb) I.ok.funs
theorem Inv.stack (I : Inv X pins σ H s) : s.heap.FunFrames X.base X.stack := by
  rcases I.ok.stk with e | ⟨e, hf⟩
  · rw [e]; exact I.funs
  · rw [e]
    obtain ⟨m, hn, _⟩ := I.loc
    refine .cons (by rw [I.ok.kind]; decide) hf hn ?_ I.funs
    exact Heap.get?_none_of_le (Nat.le_trans I.ok.bsz I.ok.above)
theorem Inv.stkSub (I : Inv X pins σ H s) : ∀ b ∈ frs X.stack, b ∈ X.env.locals :: X.fs := fun b hb => by
  rcases I.ok.stk with e | ⟨e, hf⟩
  · rw [e] at hb; exact List.mem_cons_of_mem _ hb
  · rw [e] at hb
    unfold frs at hb
    rw [List.filterMap_cons, hf] at hb
    exact hb
theorem Inv.stkFree (I : Inv X pins σ H s) : ∀ b ∈ frs X.stack, H b = none := fun b hb => by
  rcases List.mem_cons.mp (I.stkSub b hb) with e | hb
  · rw [e]; exact I.free
  · obtain ⟨_, o, ho, _⟩ := I.ok.funs.mem hb
    exact I.base.free b o ho (I.ok.frf b hb) fun z => I.ok.exfs b z hb
theorem Inv.step {g' : Array GenState} {t' : Nat} {d' : Drawn} {ch : List Addr} (I : Inv X pins σ H s)
    (hch : ∀ b ∈ ch, (b ∈ X.ex ∨ X.s₀.heap.objs.size ≤ b) ∧ b ≠ X.env.locals ∧ (∀ x c, X.env.cells.lookup x = some c → c ≠ b) ∧ ∀ p ∈ X.pn ++ pins, p.1 ≠ b)
    (keep : ∀ b o, b ≠ X.env.locals → b ∉ X.fs → b ∉ ch → s.heap.get? b = some o → H b = none → h'.get? b = some o)
    (slot : ∀ b o, b ≠ X.env.locals → b ∈ X.fs → b ∉ ch → s.heap.get? b = some o → H b = none → ∃ sl, h'.get? b = some { o with slots := sl }) (free : ∀ b o, b ∉ ch → s.heap.get? b = some o → H b = none → H' b = none)
    (there : ∀ b o, b ∉ ch → s.heap.get? b = some o → ∃ o', h'.get? b = some o')
    (tups : ∀ b xs, H b = some (.tup xs) → H' b = some (.tup xs)) (frzs : ∀ b o u, H b = some (.frz o u) → H' b = some (.frz o u)) (tbls : ∀ b ps, H b = some (.tbl ps) → ∃ more, H' b = some (.tbl (ps ++ more)))
    (ns : ∀ m, s.heap.Ns X.env.locals m → h'.Ns X.env.locals m) (hok : HOk X.prog X.w H' h') (hg : AllBare g') :
    Inv X pins σ H' { s with heap := h', gens := g', drawn := d', toks := t' } := by
  have neL : ∀ b o, X.s₀.heap.get? b = some o → b ≠ X.env.locals := fun b o e => Nat.ne_of_lt (Nat.lt_of_lt_of_le (Heap.lt_size e) I.ok.above)
  have neC : ∀ b o, X.s₀.heap.get? b = some o → b ∉ X.ex → b ∉ ch := fun b o e hx hb => by
    rcases (hch b hb).1 with z | z
    · exact hx z
    · exact absurd (Nat.lt_of_lt_of_le (Heap.lt_size e) z) (Nat.lt_irrefl _)
  have cellK : ∀ x c, X.env.cells.lookup x = some c → ∀ v, s.heap.IsCell c v → h'.IsCell c v := fun x c e v ⟨o, ho, hd⟩ => by
    have nch : c ∉ ch := fun z => (hch c z).2.2.1 x c e rfl
    by_cases hc : c ∈ X.fs
    · obtain ⟨sl, q⟩ := slot c o (I.cne x c e) hc nch ho (I.freeC x c e)
      exact ⟨_, q, hd⟩
    · exact ⟨o, keep c o (I.cne x c e) hc nch ho (I.freeC x c e), hd⟩
  refine ⟨I.ok, I.os, hg, ⟨fun b o e n hb hx => ?_, fun b o e n hb hx => ?_, fun b o e n hx => ?_, fun b o e hx => ?_, fun b xs e => tups b xs (I.base.tups b xs e), fun b o xs e => frzs b o xs (I.base.frzs b o xs e), fun b ps e => ?_⟩, ?_, fun x c e => ?_, ?_, fun x c e => ?_, fun p hp => ?_, hok, I.len⟩
  · exact keep b o (neL b o e) hb (neC b o e hx) (I.base.keep b o e n hb hx) (I.base.free b o e n hx)
  · obtain ⟨sl, e1⟩ := I.base.slot b o e n hb hx
    obtain ⟨sl', e2⟩ := slot b _ (neL b o e) hb (neC b o e hx) e1 (I.base.free b o e n hx)
    exact ⟨sl', e2⟩
  · obtain ⟨o', e1⟩ := I.base.there b o e hx
    exact free b o' (neC b o e hx) e1 (I.base.free b o e n hx)
  · obtain ⟨o', e1⟩ := I.base.there b o e hx
    exact there b o' (neC b o e hx) e1
  · obtain ⟨m1, e1⟩ := I.base.tbls b ps e
    obtain ⟨m2, e2⟩ := tbls b _ e1
    exact ⟨m1 ++ m2, by rw [e2, Array.append_assoc]⟩
  · obtain ⟨m, hn, hl⟩ := I.loc
    refine ⟨m, ns m hn, fun i x v e1 e2 e3 => ?_⟩
    obtain ⟨u, r, l⟩ := hl i x v e1 e2 e3
    refine ⟨u, r, ?_⟩
    rcases l with l | ⟨k, c, e, z⟩
    · exact .inl l
    · exact .inr ⟨k, c, e, cellK x c e _ z⟩
  · obtain ⟨v, z⟩ := I.cell x c e
    exact ⟨v, cellK x c e v z⟩
  · obtain ⟨m, ⟨o, _, _, ho, _⟩, _⟩ := I.loc
    exact free _ o (fun z => (hch _ z).2.1 rfl) ho I.free
  · obtain ⟨v, o, ho, hd⟩ := I.cell x c e
    exact free c o (fun z => (hch c z).2.2.1 x c e rfl) ho (I.freeC x c e)
  · obtain ⟨e, n, ne, nf, d⟩ := I.pin p hp
    have nch : p.1 ∉ ch := fun z => (hch p.1 z).2.2.2 p hp rfl
    exact ⟨keep p.1 p.2 ne nf nch e n, free p.1 p.2 nch e n, ne, nf, d⟩
theorem Inv.un {t' : Nat} (I : Inv X pins σ H s) (u : Un X.fs [] H H' s.heap h') (hok : HOk X.prog X.w H' h') : Inv X pins σ H' { s with heap := h', toks := t' } := by
  obtain ⟨m, ⟨o, es, ep, ho, r⟩, _⟩ := id I.loc
  obtain ⟨sl, hL⟩ := u.any ho I.free (by simp)
  exact I.step (g' := s.gens) (d' := s.drawn) (ch := []) (fun _ z => nomatch z) (fun b o _ hb _ e n => u.keep b o e n hb (by simp)) (fun b o _ hb _ e n => u.slot b o e n hb (by simp)) (fun b o _ e n => u.free b o e n (by simp)) (fun b o _ e => u.there b o e (by simp)) u.tups u.frzs u.tbls (fun m' hm => by
    obtain ⟨o', es', ep', ho', r'⟩ := hm
    rw [ho] at ho'; cases ho'
    exact ⟨_, es', ep', hL, r'⟩) hok I.bare
theorem Inv.call {g' : Array GenState} {t' : Nat} {d' : Drawn} {ch : List Addr} (I : Inv X pins σ H s) (u : Un (frs X.stack) ch H H' s.heap h') (hok : HOk X.prog X.w H' h') (hg : AllBare g')
    (hch : ∀ b ∈ ch, (b ∈ X.ex ∨ X.s₀.heap.objs.size ≤ b) ∧ b ≠ X.env.locals ∧ (∀ x c, X.env.cells.lookup x = some c → c ≠ b) ∧ ∀ p ∈ X.pn ++ pins, p.1 ≠ b) :
    Inv X pins σ H' { s with heap := h', gens := g', drawn := d', toks := t' } := by
  obtain ⟨m, ⟨o, es, ep, ho, r⟩, _⟩ := id I.loc
  obtain ⟨sl, hL⟩ := u.any ho I.free fun z => (hch _ z).2.1 rfl
  exact I.step (ch := ch) hch (fun b o hL hb hc e n => u.keep b o e n (fun z => (List.mem_cons.mp (I.stkSub b z)).elim hL hb) hc) (fun b o _ _ hc e n => u.any e n hc) (fun b o hc e n => u.free b o e n hc) (fun b o hc e => u.there b o e hc) u.tups u.frzs u.tbls (fun m' hm => by
    obtain ⟨o', es', ep', ho', r'⟩ := hm
    rw [ho] at ho'; cases ho'
    exact ⟨_, es', ep', hL, r'⟩) hok hg
theorem Inv.turned {t' : Nat} {it : Addr} (I : Inv X pins σ H s) (k : ∀ b o, b ≠ it → s.heap.get? b = some o → h'.get? b = some o) (hn : H it = none) (hL : it ≠ X.env.locals)
    (h1 : it ∈ X.ex ∨ X.s₀.heap.objs.size ≤ it) (h2 : ∀ x c, X.env.cells.lookup x = some c → c ≠ it) (h3 : ∀ p ∈ X.pn ++ pins, p.1 ≠ it) : Inv X pins σ H { s with heap := h', toks := t' } := by
  have nit : ∀ b u, H b = some u → b ≠ it := fun b u e z => by rw [z, hn] at e; cases e
  refine I.step (g' := s.gens) (d' := s.drawn) (ch := [it]) (fun b hb => ?_) (fun b o _ _ hc e _ => k b o (fun z => hc (by simp [z])) e) (fun b o _ _ hc e _ => ⟨o.slots, k b o (fun z => hc (by simp [z])) e⟩) (fun _ _ _ _ n => n)
    (fun b o hc e => ⟨o, k b o (fun z => hc (by simp [z])) e⟩) (fun _ _ e => e) (fun _ _ _ e => e) (fun b ps e => ⟨#[], by rw [e]; simp⟩) (fun m hm => ?_) (fun b u e => ?_) I.bare
  · have e : b = it := by simpa using hb
    subst e
    exact ⟨h1, hL, h2, h3⟩
  · obtain ⟨o, es, ep, ho, r⟩ := hm
    exact ⟨o, es, ep, k _ o (Ne.symm hL) ho, r⟩
  · refine (I.hok b u e).stay (fun c v hc q => k c v ?_ q) (fun _ q => q) fun _ _ q => q
    rcases hc with z | z
    · rw [z]; exact nit b u e
    · exact nit c _ z
theorem Inv.tok (I : Inv X pins σ H s) (t : Nat) : Inv X pins σ H { s with toks := t } := I.un (h' := s.heap) (t' := t) Un.refl I.hok
theorem Inv.kept {t' : Nat} (I : Inv X pins σ H s) (k : ∀ b u, s.heap.get? b = some u → h'.get? b = some u) : Inv X pins σ H { s with heap := h', toks := t' } := I.un (Un.kept k) (I.hok.kept k)
theorem Inv.laid {a : Addr} {o : HO} {t' : Nat} (I : Inv X pins σ H s) (k : ∀ b u, s.heap.get? b = some u → h'.get? b = some u) (hp : s.heap.objs.size ≤ a) (new : ObjOk X.prog X.w (upd H a o) h' a o) :
    Inv X pins σ (upd H a o) { s with heap := h', toks := t' } := I.un (Un.laid k hp (I.hok.fresh hp)) (I.hok.laid k hp new)
theorem Inv.write {x e : Addr} {o : HO} {t' : Nat} (I : Inv X pins σ H s) (mu : Mut (H x)) (he : e = x ∨ H e = some (.own x)) (k : ∀ b u, b ≠ e → s.heap.get? b = some u → h'.get? b = some u) (heo : ∃ u, h'.get? e = some u)
    (new : ObjOk X.prog X.w (upd H x o) h' x o) : Inv X pins σ (upd H x o) { s with heap := h', toks := t' } := I.un (Un.write mu he k heo) (I.hok.write mu he k heo new)
theorem Inv.weak {σ' : List (Option V)} (I : Inv X pins σ H s) (hl : σ'.length = σ.length) (w : ∀ (i : Nat) v, σ'[i]? = some (some v) → σ[i]? = some (some v)) : Inv X pins σ' H s :=
  ⟨I.ok, I.os, I.bare, I.base, let ⟨m, hn, hl'⟩ := I.loc; ⟨m, hn, fun i x v e1 e2 e3 => hl' i x v e1 (w i v e2) e3⟩, I.cell, I.free, I.freeC, I.pin, I.hok, hl.trans I.len⟩
theorem Inv.pins_of {pins' : List (Addr × Obj)} (I : Inv X pins σ H s) (h : ∀ p ∈ pins', s.heap.get? p.1 = some p.2 ∧ H p.1 = none ∧ p.1 ≠ X.env.locals ∧ p.1 ∉ X.fs ∧ ∀ v, p.2.data ≠ .cell v) : Inv X pins' σ H s :=
  ⟨I.ok, I.os, I.bare, I.base, I.loc, I.cell, I.free, I.freeC, fun p hp => (List.mem_append.mp hp).elim (fun z => I.pin p (List.mem_append_left _ z)) (h p), I.hok, I.len⟩
theorem nodup_ix {N : List Str} (hN : N.Nodup) {i j : Nat} {x : Str} (a : N[i]? = some x) (b : N[j]? = some x) : i = j := by
  obtain ⟨h1, e1⟩ := List.getElem?_eq_some_iff.mp a
  obtain ⟨h2, e2⟩ := List.getElem?_eq_some_iff.mp b
  exact (List.getElem_inj hN).mp (e1.trans e2.symm)
theorem store_ok2 {M : Model} {A : Around} {E : Value → Shared → Prop} {i : Nat} {x : Str} {v : V} {u : Value} {Q : Unit → Shared → Prop} (I : Inv X pins σ H s) (hN : X.N.Nodup) (hi : X.N[i]? = some x) (hx : Loc X.env.scope x) (r : RelV v u)
    (h : ∀ s', Inv X pins (σ.set i (some v)) H s' → (∃ a, Heap.SameBut a s.heap s'.heap ∧ (a = X.env.locals ∨ X.env.cells.lookup x = some a)) → Q () s') (hf : X.fn x = true ∨ X.env.scope.names.lookup x = some .local := by first | exact .inl rfl | exact .inr rfl | assumption) : wpAny M A (storeName X.env x u) Q E s := by
  obtain ⟨m, hn, hl⟩ := id I.loc
  have hcls : (X.env.scope.kind == .class || (X.env.scope.kind == .module && X.env.locals != X.env.globals)) = false := by rw [I.ok.kind]; rfl
  have hiσ : i < σ.length := by rw [I.len]; exact (List.getElem?_eq_some_iff.mp hi).1
  have cne := I.cne
  have tracked : ∀ {a : Addr} {h' : Heap}, (∃ o, s.heap.get? a = some o ∧ H a = none) → Heap.SameBut a s.heap h' → HOk X.prog X.w H h' := fun {a h'} ha hs b ob e => by
    obtain ⟨_, _, hfree⟩ := ha
    refine (I.hok b ob e).stay (fun c w' hc q => (hs.2 c ?_).trans q) (fun _ q => q) fun _ _ q => q
    rintro rfl
    rcases hc with rfl | hc
    · rw [hfree] at e; cases e
    · rw [hfree] at hc; cases hc
  rcases hx with hk | hk
  · refine wpAny_storeName_local hk hn (fun h' hn' hs => ?_) hcls
    obtain ⟨oL, _, _, hoL, _⟩ := id hn
    refine h _ ⟨I.ok, I.os, I.bare, ⟨fun b o e n hb hx => ?_, fun b o e n hb hx => ?_, I.base.free, fun b o e hx => ?_, I.base.tups, I.base.frzs, I.base.tbls⟩, ⟨_, hn', fun j y v' e1 e2 e3 => ?_⟩, fun y c e => ?_, I.free, I.freeC, fun p hp => ?_, tracked ⟨oL, hoL, I.free⟩ hs, by simpa using I.len⟩ ⟨_, hs, .inl rfl⟩
    · exact (hs.2 b (Nat.ne_of_lt (Nat.lt_of_lt_of_le (Heap.lt_size e) I.ok.above))).trans (I.base.keep b o e n hb hx)
    · obtain ⟨sl, e1⟩ := I.base.slot b o e n hb hx
      exact ⟨sl, (hs.2 b (Nat.ne_of_lt (Nat.lt_of_lt_of_le (Heap.lt_size e) I.ok.above))).trans e1⟩
    · obtain ⟨o', e1⟩ := I.base.there b o e hx
      exact ⟨o', (hs.2 b (Nat.ne_of_lt (Nat.lt_of_lt_of_le (Heap.lt_size e) I.ok.above))).trans e1⟩
    · by_cases hj : j = i
      · subst hj
        rw [hi] at e1; cases e1
        rw [List.getElem?_set_self hiσ] at e2
        cases e2
        exact ⟨u, r, .inl ⟨hk, by simp⟩⟩
      · rw [List.getElem?_set_ne (Ne.symm hj)] at e2
        obtain ⟨u', r', q⟩ := hl j y v' e1 e2 e3
        refine ⟨u', r', ?_⟩
        rcases q with ⟨k, e⟩ | ⟨k, c, e, z⟩
        · refine .inl ⟨k, ?_⟩
          have : y ≠ x := fun e => hj (nodup_ix hN e1 (e ▸ hi))
          simp [this, e]
        · exact .inr ⟨k, c, e, z.sameBut hs (cne y c e)⟩
    · obtain ⟨w', z⟩ := I.cell y c e
      exact ⟨w', z.sameBut hs (cne y c e)⟩
    · obtain ⟨e, n, ne, nf, d⟩ := I.pin p hp
      exact ⟨(hs.2 p.1 ne).trans e, n, ne, nf, d⟩
  · have hfn : X.fn x = true := by
      rcases hf with z | z
      · exact z
      · rw [z] at hk; cases hk
    obtain ⟨c, hc⟩ := I.ok.has x (.inl hk)
    obtain ⟨w', z⟩ := I.cell x c hc
    refine wpAny_storeName_cell I.ok.kind hk hc z (fun h' hc' hs => ?_)
    obtain ⟨oc, hoc, hocd⟩ := id z
    refine h { s with heap := h' } ⟨I.ok, I.os, I.bare, ⟨fun b o e n hb hx => ?_, fun b o e n hb hx => ?_, I.base.free, fun b o e hx => ?_, I.base.tups, I.base.frzs, I.base.tbls⟩, ⟨m, hn.sameBut hs (Ne.symm (cne x c hc)), fun j y v' e1 e2 e3 => ?_⟩, fun y c' e => ?_, I.free, I.freeC, fun p hp => ?_, tracked ⟨oc, hoc, I.freeC x c hc⟩ hs, by simpa using I.len⟩ ⟨c, hs, .inr hc⟩
    · exact (hs.2 b (Nat.ne_of_lt (Nat.lt_of_lt_of_le (Heap.lt_size e) (I.ok.cab x c hfn hc)))).trans (I.base.keep b o e n hb hx)
    · obtain ⟨sl, e1⟩ := I.base.slot b o e n hb hx
      exact ⟨sl, (hs.2 b (Nat.ne_of_lt (Nat.lt_of_lt_of_le (Heap.lt_size e) (I.ok.cab x c hfn hc)))).trans e1⟩
    · obtain ⟨o', e1⟩ := I.base.there b o e hx
      exact ⟨o', (hs.2 b (Nat.ne_of_lt (Nat.lt_of_lt_of_le (Heap.lt_size e) (I.ok.cab x c hfn hc)))).trans e1⟩
    · by_cases hj : j = i
      · subst hj
        rw [hi] at e1; cases e1
        rw [List.getElem?_set_self hiσ] at e2
        cases e2
        exact ⟨u, r, .inr ⟨.inl hk, c, hc, hc'⟩⟩
      · rw [List.getElem?_set_ne (Ne.symm hj)] at e2
        obtain ⟨u', r', q⟩ := hl j y v' e1 e2 e3
        refine ⟨u', r', ?_⟩
        rcases q with q | ⟨k, c', e, z'⟩
        · exact .inl q
        · refine .inr ⟨k, c', e, z'.sameBut hs ?_⟩
          rintro rfl
          exact hj (nodup_ix hN e1 (I.ok.inj _ _ _ e hc ▸ hi))
    · by_cases hcc : c' = c
      · subst hcc; exact ⟨_, hc'⟩
      · obtain ⟨w2, z2⟩ := I.cell y c' e
        exact ⟨w2, z2.sameBut hs hcc⟩
    · obtain ⟨e, n, ne, nf, d⟩ := I.pin p hp
      refine ⟨(hs.2 p.1 ?_).trans e, n, ne, nf, d⟩
      intro q
      rw [q, hoc] at e
      have q' : oc = p.2 := Option.some.inj e
      exact d w' (by rw [← q']; exact hocd)
theorem store_ok {M : Model} {A : Around} {E : Value → Shared → Prop} {i : Nat} {x : Str} {v : V} {u : Value} {Q : Unit → Shared → Prop} (I : Inv X pins σ H s) (hN : X.N.Nodup) (hi : X.N[i]? = some x) (hx : Loc X.env.scope x) (r : RelV v u)
    (h : ∀ s', Inv X pins (σ.set i (some v)) H s' → Q () s') (hf : X.fn x = true ∨ X.env.scope.names.lookup x = some .local := by first | exact .inl rfl | exact .inr rfl | assumption) : wpAny M A (storeName X.env x u) Q E s :=
  store_ok2 I hN hi hx r (fun s' I' _ => h s' I') hf
theorem Inv.call' {s' : Shared} {ch : List Addr} (I : Inv X pins σ H s) (ho : s'.os = s.os) (u : Un (frs X.stack) ch H H' s.heap s'.heap) (hok : HOk X.prog X.w H' s'.heap) (hg : AllBare s'.gens)
    (hch : ∀ b ∈ ch, (b ∈ X.ex ∨ X.s₀.heap.objs.size ≤ b) ∧ b ≠ X.env.locals ∧ (∀ x c, X.env.cells.lookup x = some c → c ≠ b) ∧ ∀ p ∈ X.pn ++ pins, p.1 ≠ b) : Inv X pins σ H' s' := by
  obtain ⟨h', g', d', t', o'⟩ := s'
  have e : o' = s.os := ho
  subst e
  exact I.call (g' := g') (t' := t') (d' := d') u hok hg hch
end
noncomputable abbrev XK := Value → Option Addr → Hp → Prop
noncomputable abbrev St := List (Option V)
noncomputable abbrev VK := V → Hp → Prop
noncomputable abbrev TE := St → Hp → VK → Prop
noncomputable abbrev TT := St → Hp → (Bool → Hp → Prop) → Prop
noncomputable abbrev TA := St → Hp → (List V → Hp → Prop) → Prop
structure Ends where
  nx : St → Hp → Prop
  rt : VK
  bk : St → Hp → Prop := fun _ _ => False
  ct : St → Hp → Prop := fun _ _ => False
noncomputable abbrev TS := Ends → St → Hp → Prop
noncomputable def EP (X : Cx) (pins : List (Addr × Obj)) (σ : St) (Q : VK) (u : Value) (s' : Shared) : Prop := ∃ v H', Inv X pins σ H' s' ∧ RelV v u ∧ Q v H'
noncomputable def TP (X : Cx) (pins : List (Addr × Obj)) (σ : St) (Q : Bool → Hp → Prop) (b : Bool) (s' : Shared) : Prop := ∃ H', Inv X pins σ H' s' ∧ Q b H'
noncomputable def AP (X : Cx) (pins : List (Addr × Obj)) (σ : St) (Q : List V → Hp → Prop) (us : List Value) (s' : Shared) : Prop := ∃ vs H', Inv X pins σ H' s' ∧ Vals vs us ∧ Q vs H'
noncomputable def SP (X : Cx) (pins : List (Addr × Obj)) (D : Ends) (f : Flow) (s' : Shared) : Prop :=
  match f with
  | .next => ∃ σ' H', Inv X pins σ' H' s' ∧ D.nx σ' H'
  | .brk => ∃ σ' H', Inv X pins σ' H' s' ∧ D.bk σ' H'
  | .cont => ∃ σ' H', Inv X pins σ' H' s' ∧ D.ct σ' H'
  | .ret u => ∃ v σ' H', Inv X pins σ' H' s' ∧ RelV v u ∧ D.rt v H'
namespace Irr
set_option allowUnsafeReducibility true in
@[scoped irreducible] def _root_.L2.PE (X : Cx) (e : Expr) (t : TE) : Prop :=
  ∀ (pins : List (Addr × Obj)) (s : Shared) (σ : St) (H : Hp) (Q : VK), Inv X pins σ H s → t σ H Q → wpAny (model X.prog X.w) X.A (eval e X.env) (EP X pins σ Q) X.xe s
end Irr
namespace Irr
set_option allowUnsafeReducibility true in
@[scoped irreducible] def _root_.L2.PT (X : Cx) (e : Expr) (t : TT) : Prop :=
  ∀ (pins : List (Addr × Obj)) (s : Shared) (σ : St) (H : Hp) (Q : Bool → Hp → Prop), Inv X pins σ H s → t σ H Q → wpAny (model X.prog X.w) X.A (isTrue e X.env (eval e X.env)) (TP X pins σ Q) X.xe s
end Irr
namespace Irr
set_option allowUnsafeReducibility true in
@[scoped irreducible] def _root_.L2.PW (X : Cx) (e : Expr) (t : TT) : Prop :=
  ∀ (whole : Sem Value) (pins : List (Addr × Obj)) (s : Shared) (σ : St) (H : Hp) (Q : Bool → Hp → Prop), Inv X pins σ H s → t σ H Q → wpAny (model X.prog X.w) X.A (isTrue e X.env whole) (TP X pins σ Q) X.xe s
end Irr
theorem PW.pt {X : Cx} {e : Expr} {t : TT} (h : PW X e t) : PT X e t := h _
namespace Irr
set_option allowUnsafeReducibility true in
@[scoped irreducible] def _root_.L2.PA (X : Cx) (es : List Expr) (t : TA) : Prop :=
  ∀ (pos : Pos) (pins : List (Addr × Obj)) (s : Shared) (σ : St) (H : Hp) (Q : List V → Hp → Prop), Inv X pins σ H s → t σ H Q → wpAny (model X.prog X.w) X.A (spliced (backTo pos (starEach es X.env))) (AP X pins σ Q) X.xe s
end Irr
namespace Irr
set_option allowUnsafeReducibility true in
@[scoped irreducible] def _root_.L2.PS (X : Cx) (st : Stmt) (t : TS) : Prop :=
  ∀ (pins : List (Addr × Obj)) (s : Shared) (σ : St) (H : Hp) (D : Ends), Inv X pins σ H s → t D σ H → wpAny (model X.prog X.w) X.A (exec st X.env) (SP X pins D) X.xe s
end Irr
namespace Irr
set_option allowUnsafeReducibility true in
@[scoped irreducible] def _root_.L2.PSs (X : Cx) (st : List Stmt) (t : TS) : Prop :=
  ∀ (pins : List (Addr × Obj)) (s : Shared) (σ : St) (H : Hp) (D : Ends), Inv X pins σ H s → t D σ H → wpAny (model X.prog X.w) X.A (execs st X.env) (SP X pins D) X.xe s
end Irr
theorem thn {α : Type} {t : Sem α} {Q Q' : α → Shared → Prop} {M : Model} {A : Around} {E : Value → Shared → Prop} {s : Shared} (h : wpAny M A t Q E s) (hQ : ∀ a s, Q a s → Q' a s) : wpAny M A t Q' E s := wpAny_mono h hQ fun _ _ x => x
end L2
namespace L2
open PySem PySem.Spec PyProof.Rows
section
variable {X : Cx}
noncomputable def tVar (i : Nat) : TE := fun σ H Q => ∃ v, σ[i]? = some (some v) ∧ Q v H
noncomputable def tC (v : V) : TE := fun _ H Q => Q v H
theorem pe_var {i : Nat} {x : Str} {pos : Pos} (hN : X.N[i]? = some x) (hv : Vis X.env.scope x) (hd : (x == ("__debug__" : Str)) = false := by decide) (hcd : (x == ("__classdict__" : Str)) = false := by decide) : PE X (.Name x pos) (tVar i) := by
  intro pins s σ H Q I h
  obtain ⟨v, e, h⟩ := h
  obtain ⟨m, hn, hl⟩ := I.loc
  obtain ⟨u, r, l⟩ := hl i x v hN e hv
  have fin : EP X pins σ Q u s := ⟨v, H, I, r, h⟩
  rcases l with ⟨hk, hm⟩ | ⟨hk, c, hc, hcell⟩
  · exact wpAny_Name (wpAny_loadName_local I.ok.kind hk hn hm fin) hd
  · rcases hk with hk | hk
    · exact wpAny_Name (wpAny_loadName_cell I.ok.kind hk hc hcell fin) hd
    · exact wpAny_Name (wpAny_loadName_free I.ok.kind hk hc hcell fin hcd) hd
theorem pe_int {i j pos} : PE X (.Constant (.int i) j pos) (tC (.int i)) := fun _ _ _ H _ I h => wpAny_Constant_int ⟨.int i, H, I.tok _, ⟨_, rfl⟩, h⟩
theorem pe_bl {b j pos} : PE X (.Constant (.bool b) j pos) (tC (.bl b)) := fun _ _ _ H _ I h => Constant_bool ⟨.bl b, H, I, rfl, h⟩
theorem pe_non {j pos} : PE X (.Constant .none j pos) (tC .non) := fun _ _ _ H _ I h => Constant_none ⟨.non, H, I, rfl, h⟩
theorem pe_str {x j pos} : PE X (.Constant (.str x) j pos) (tC (.str x)) := fun _ _ _ H _ I h => Calls.Constant_str ⟨.str x, H, I.tok _, ⟨_, rfl⟩, h⟩
noncomputable def Gl (X : Cx) (x : Str) : Prop := X.env.kindOf x = some .globalImplicit
theorem ld_glob {E : Value → Shared → Prop} {pins : List (Addr × Obj)} {s : Shared} {σ : St} {H : Hp} {x : Str} {u : Value} {pos : Pos} {Q : Value → Shared → Prop} (I : Inv X pins σ H s) (hg : Gl X x) (hm : X.mg x = some u) (h : Q u s)
    (hd : (x == ("__debug__" : Str)) = false := by decide) : wpAny (model X.prog X.w) X.A (eval (.Name x pos) X.env) Q E s :=
  Calls.Name_function_global I.ok.kind hg (Calls.loadGlobal_global (by rw [I.ok.glob]; exact I.mod.glob.keeps I.bk) hm h) hd
theorem ld_blt {E : Value → Shared → Prop} {pins : List (Addr × Obj)} {s : Shared} {σ : St} {H : Hp} {x : Str} {u : Value} {pos : Pos} {Q : Value → Shared → Prop} (I : Inv X pins σ H s) (hg : Gl X x) (hm : X.mg x = none) (hv : bootBuiltins x = some u) (h : Q u s)
    (hn : x ≠ "__name__" := by decide) (hd : (x == ("__debug__" : Str)) = false := by decide) : wpAny (model X.prog X.w) X.A (eval (.Name x pos) X.env) Q E s := by
  obtain ⟨mb, h1, h2⟩ := I.mod.blt
  exact Calls.Name_function_global I.ok.kind hg (Calls.loadGlobal_builtin (by rw [I.ok.glob]; exact I.mod.glob.keeps I.bk) hm (by rw [I.ok.blt]; exact h1.keeps I.bk) ((h2 x hn).trans hv) h) hd
theorem pe_glob {x : Str} {v : V} {u : Value} {pos : Pos} (hg : Gl X x) (hm : X.mg x = some u) (r : RelV v u) (hd : (x == ("__debug__" : Str)) = false := by decide) : PE X (.Name x pos) (tC v) :=
  fun _ _ _ H _ I h => ld_glob I hg hm ⟨v, H, I, r, h⟩ hd
theorem pe_bltn {x : Str} {v : V} {u : Value} {pos : Pos} (hg : Gl X x) (hm : X.mg x = none) (hv : bootBuiltins x = some u) (r : RelV v u) (hn : x ≠ "__name__" := by decide) (hd : (x == ("__debug__" : Str)) = false := by decide) : PE X (.Name x pos) (tC v) :=
  fun _ _ _ H _ I h => ld_blt I hg hm hv ⟨v, H, I, r, h⟩ hn hd
variable {a b : Expr} {ta tb : TE} {pos : Pos}
noncomputable def PC (X : Cx) (op : CmpOp) (a b : Expr) (t : TE) : Prop :=
  ∀ (pins : List (Addr × Obj)) (s : Shared) (σ : St) (H : Hp) (Q : VK), Inv X pins σ H s → t σ H Q →
    wpAny (model X.prog X.w) X.A (eval a X.env) (fun v s₁ => wpAny (model X.prog X.w) X.A (eval b X.env) (fun u s₂ => wpAny (model X.prog X.w) X.A (compareOp op v u) (EP X pins σ Q) X.xe s₂) X.xe s₁) X.xe s
theorem nobehind (b : Expr) {op : CmpOp} (h : op ≠ .In) (h2 : op ≠ .NotIn) : behindInMarks op b = false := by
  have e1 : (op == CmpOp.In) = false := by cases op <;> first | rfl | exact absurd rfl h
  have e2 : (op == CmpOp.NotIn) = false := by cases op <;> first | rfl | exact absurd rfl h2
  cases b <;> simp [behindInMarks, e1, e2]
noncomputable def tIsN (ta : TE) : TE := fun σ H Q => ta σ H fun x H1 => Q (.bl (decide (x = .non))) H1
theorem RelV.none_iff {x : V} {v : Value} (r : RelV x v) : (v == Value.none) = decide (x = .non) := by
  cases x with
  | non => cases r; rfl
  | bl _ => cases r; rfl
  | int _ => obtain ⟨t, rfl⟩ := r; rfl
  | str _ => obtain ⟨t, rfl⟩ := r; rfl
  | byt _ => obtain ⟨t, rfl⟩ := r; rfl
  | flt _ => obtain ⟨t, rfl⟩ := r; rfl
  | ref _ => cases r; rfl
  | ty _ => cases r; rfl
theorem pc_isN {j pos'} (ha : PE X a ta) : PC X .Is a (.Constant .none j pos') (tIsN ta) := by
  intro pins s σ H Q I h
  refine thn (ha pins s σ H _ I h) fun v s1 zr737 => ?_
  obtain ⟨x, H1, I1, r1, q1⟩ := zr737
  exact Constant_none (is_none_gen ⟨.bl _, H1, I1, by rw [r1.none_iff]; rfl, q1⟩)
noncomputable def tB (t : TE) : TT := fun σ H Q => t σ H fun x H1 => ∃ c, x = .bl c ∧ Q c H1
theorem pe_cmp {op : CmpOp} {t : TE} (h : PC X op a b t) (h1 : behindInMarks op b = false := by first | exact nobehind _ (by decide) (by decide) | rfl) : PE X (.Compare a [op] [b] pos) t := fun pins s σ H Q I hw => wpAny_Compare1 (h pins s σ H Q I hw) h1
theorem pt_val {e : Expr} {t : TE} (h : PE X e t) (he : ∀ whole, isTrue e X.env whole = (do let v ← whole; standAt e.pos; holding [v] (truthy v)) := by intro _; rfl) : PT X e (tB t) := by
  intro pins s σ H Q I hw
  refine isTrue_plain (thn (h pins s σ H _ I hw) fun v s1 zr743 => ?_) (he _)
  obtain ⟨x, H1, I1, r1, q1⟩ := zr743
  obtain ⟨d, rfl, q⟩ := q1
  cases r1
  exact wpAny_truthy_bool ⟨H1, I1, q⟩
variable {tA tB' : TT} {rest : List Expr}
noncomputable def tAnd (t u : TT) : TT := fun σ H Q => t σ H fun c H1 => if c = true then u σ H1 Q else Q false H1
noncomputable def tOr (t u : TT) : TT := fun σ H Q => t σ H fun c H1 => if c = true then Q true H1 else u σ H1 Q
noncomputable def tNot (t : TT) : TT := fun σ H Q => t σ H fun c H1 => Q (!c) H1
theorem pw_and1 (ha : PT X a tA) : PW X (.BoolOp .And [a] pos) tA := by
  intro wh pins s σ H Q I h
  refine isTrue_and (thn (ha pins s σ H Q I h) fun c s1 e => ?_)
  cases c with
  | true => exact isTrue_and_nil e
  | false => exact e
theorem pw_or1 (ha : PT X a tA) : PW X (.BoolOp .Or [a] pos) tA := by
  intro wh pins s σ H Q I h
  refine isTrue_or (thn (ha pins s σ H Q I h) fun c s1 e => ?_)
  cases c with
  | false => exact isTrue_or_nil e
  | true => exact e
theorem pw_and (ha : PT X a tA) (hb : PW X (.BoolOp .And (b :: rest) pos) tB') : PW X (.BoolOp .And (a :: b :: rest) pos) (tAnd tA tB') := by
  intro wh pins s σ H Q I h
  refine isTrue_and (thn (ha pins s σ H _ I h) fun c s1 zr765 => ?_)
  obtain ⟨H1, I1, q1⟩ := zr765
  cases c with
  | true => exact hb wh pins s1 σ H1 Q I1 q1
  | false => exact ⟨H1, I1, q1⟩
theorem pw_or (ha : PT X a tA) (hb : PW X (.BoolOp .Or (b :: rest) pos) tB') : PW X (.BoolOp .Or (a :: b :: rest) pos) (tOr tA tB') := by
  intro wh pins s σ H Q I h
  refine isTrue_or (thn (ha pins s σ H _ I h) fun c s1 zr771 => ?_)
  obtain ⟨H1, I1, q1⟩ := zr771
  cases c with
  | true => exact ⟨H1, I1, q1⟩
  | false => exact hb wh pins s1 σ H1 Q I1 q1
theorem pt_not (ha : PT X a tA) : PT X (.UnaryOp .Not a pos) (tNot tA) := by
  intro pins s σ H Q I h
  exact isTrue_not (ha pins s σ H (fun c H1 => Q (!c) H1) I h)
noncomputable def tAndV (ta tb : TE) : TE := fun σ H Q => ta σ H fun x H1 => ∃ c, x = .bl c ∧ if c = true then tb σ H1 Q else Q (.bl false) H1
noncomputable def tOrV (ta tb : TE) : TE := fun σ H Q => ta σ H fun x H1 => ∃ c, x = .bl c ∧ if c = true then Q (.bl true) H1 else tb σ H1 Q
noncomputable def tNotV (ta : TE) : TE := fun σ H Q => ta σ H fun x H1 => ∃ c, x = .bl c ∧ Q (.bl (!c)) H1
theorem pe_one {op} {t : TE} (h : PE X a t) : PE X (.BoolOp op [a] pos) t := fun pins s σ H Q I hw => BoolOp_one (h pins s σ H Q I hw)
theorem pe_and (ha : PE X a ta) (hb : PE X (.BoolOp .And (b :: rest) pos) tb) : PE X (.BoolOp .And (a :: b :: rest) pos) (tAndV ta tb) := by
  intro pins s σ H Q I h
  refine BoolOp_and (thn (ha pins s σ H _ I h) fun v s1 zr784 => ?_)
  obtain ⟨x, H1, I1, r1, q1⟩ := zr784
  obtain ⟨c, rfl, q1⟩ := q1
  cases r1
  refine wpAny_truthy_bool ?_
  cases c with
  | true => exact hb pins s1 σ H1 Q I1 q1
  | false => exact ⟨.bl false, H1, I1, rfl, q1⟩
theorem pe_or (ha : PE X a ta) (hb : PE X (.BoolOp .Or (b :: rest) pos) tb) : PE X (.BoolOp .Or (a :: b :: rest) pos) (tOrV ta tb) := by
  intro pins s σ H Q I h
  refine BoolOp_or (thn (ha pins s σ H _ I h) fun v s1 zr793 => ?_)
  obtain ⟨x, H1, I1, r1, q1⟩ := zr793
  obtain ⟨c, rfl, q1⟩ := q1
  cases r1
  refine wpAny_truthy_bool ?_
  cases c with
  | false => exact hb pins s1 σ H1 Q I1 q1
  | true => exact ⟨.bl true, H1, I1, rfl, q1⟩
theorem pe_not (ha : PE X a ta) : PE X (.UnaryOp .Not a pos) (tNotV ta) := by
  intro pins s σ H Q I h
  refine UnaryOp_ (thn (ha pins s σ H _ I h) fun v s1 zr802 => ?_)
  obtain ⟨x, H1, I1, r1, q1⟩ := zr802
  obtain ⟨c, rfl, q1⟩ := q1
  cases r1
  exact not_of (wpAny_truthy_bool ⟨.bl (!c), H1, I1, rfl, q1⟩)
end
end L2
namespace L2
open PySem PySem.Spec PyProof.Rows
noncomputable def SqL (K : PySem.W.Frag) (H : Hp) (a : Addr) (xs : List V) : Prop :=
  Rd H a (.lst xs) ∨
    ∃ (o : Obj) (its : Array Value) (n : Nat), K.lookup a = some o ∧ o.cls = .type "list" ∧ o.dict = none ∧ o.data = .seq its n ∧ its.size ≤ sizeLine ∧ Vals xs its.toList
noncomputable def SqT (K : PySem.W.Frag) (H : Hp) (a : Addr) (xs : List V) : Prop :=
  Rd H a (.tup xs) ∨
    ∃ (o : Obj) (its : Array Value) (n : Nat), K.lookup a = some o ∧ o.cls = .type "tuple" ∧ o.data = .seq its n ∧ its.size ≤ sizeLine ∧ Vals xs its.toList
noncomputable def absV : Value → Option V
  | .none => some .non
  | .bool b => some (.bl b)
  | .int i _ => some (.int i)
  | .str x _ => some (.str x)
  | .bytes b _ => some (.byt b)
  | .float b _ => some (.flt b)
  | .ref a => some (.ref a)
  | .type n => some (.ty n)
  | _ => none
theorem RelV.abs {x : V} {u : Value} (r : RelV x u) : absV u = some x := by
  cases x with
  | non => cases r; rfl
  | bl _ => cases r; rfl
  | int _ => obtain ⟨t, rfl⟩ := r; rfl
  | str _ => obtain ⟨t, rfl⟩ := r; rfl
  | byt _ => obtain ⟨t, rfl⟩ := r; rfl
  | flt _ => obtain ⟨t, rfl⟩ := r; rfl
  | ref _ => cases r; rfl
  | ty _ => cases r; rfl
theorem RelV.inj {x y : V} {u : Value} (r : RelV x u) (q : RelV y u) : x = y := Option.some.inj (r.abs.symm.trans q.abs)
theorem Vals.inj : ∀ {xs ys : List V} {us : List Value}, Vals xs us → Vals ys us → xs = ys
  | _, _, _, .nil, .nil => rfl
  | _, _, _, .cons r t, .cons r' t' => by rw [r.inj r', Vals.inj t t']
section
variable {X : Cx} {pins : List (Addr × Obj)} {σ : St} {H : Hp} {s : Shared} {a : Addr} {xs ys : List V}
theorem SqL.of {K : PySem.W.Frag} (h : H a = some (.lst xs)) : SqL K H a xs := .inl (.inl h)
theorem SqT.of {K : PySem.W.Frag} (h : H a = some (.tup xs)) : SqT K H a xs := .inl (.inl h)
theorem Inv.list (I : Inv X pins σ H s) (h : SqL X.K H a xs) : ∃ its : List Value, Vals xs its ∧ PlainL s.heap a its.toArray ∧ xs.length ≤ sizeLine := by
  rcases h with h | ⟨o, its, n, hk, hc, hd, hs, hz, r⟩
  · obtain ⟨z, its, n, r, e⟩ := h.ok I.hok
    exact ⟨its, r, ⟨_, n, e, rfl, rfl, rfl⟩, z⟩
  · refine ⟨its.toList, r, ⟨o, n, I.kIn a o hk, hc, hd, by simpa using hs⟩, ?_⟩
    have e := r.length
    simp only [Array.length_toList] at e
    omega
theorem Inv.tuple (I : Inv X pins σ H s) (h : SqT X.K H a xs) : ∃ its : List Value, Vals xs its ∧ IsTup s.heap a its.toArray ∧ xs.length ≤ sizeLine := by
  rcases h with h | ⟨o, its, n, hk, hc, hs, hz, r⟩
  · obtain ⟨z, its, r, p⟩ := h.ok I.hok
    exact ⟨its, r, p, z⟩
  · refine ⟨its.toList, r, ⟨o, I.kIn a o hk, hc, n, by simpa using hs⟩, ?_⟩
    have e := r.length
    simp only [Array.length_toList] at e
    omega
theorem Inv.list_inj (I : Inv X pins σ H s) (h : SqL X.K H a xs) (h' : SqL X.K H a ys) : xs = ys := by
  obtain ⟨its, r, ⟨o, n, e, _, _, d⟩, _⟩ := I.list h
  obtain ⟨its', r', ⟨o', n', e', _, _, d'⟩, _⟩ := I.list h'
  rw [e] at e'; cases e'
  rw [d] at d'
  injection d' with d1 _
  have : its = its' := by simpa using congrArg Array.toList d1
  subst this
  exact r.inj r'
theorem Inv.tuple_inj (I : Inv X pins σ H s) (h : SqT X.K H a xs) (h' : SqT X.K H a ys) : xs = ys := by
  obtain ⟨its, r, ⟨o, e, _, n, d⟩, _⟩ := I.tuple h
  obtain ⟨its', r', ⟨o', e', _, n', d'⟩, _⟩ := I.tuple h'
  rw [e] at e'; cases e'
  rw [d] at d'
  injection d' with d1 _
  have : its = its' := by simpa using congrArg Array.toList d1
  subst this
  exact r.inj r'
end
noncomputable abbrev Cx.wish (X : Cx) (E : Value → Shared → Prop) : Cx := { X with xe := E }
noncomputable abbrev Cx.nox (X : Cx) : Cx := X.wish fun _ _ => False
theorem Cx.Ok.wish {X : Cx} (ok : X.Ok) (E : Value → Shared → Prop) : (X.wish E).Ok :=
  ⟨ok.mod, ok.kind, ok.glob, ok.blt, ok.above, ok.inj, ok.has, ok.cab, ok.hd, ok.frames, ok.stk, ok.exf, ok.bs, ok.bsz, ok.noex, ok.exfs, ok.funs, ok.frf⟩
theorem Cx.Ok.unwish {X : Cx} {E : Value → Shared → Prop} (ok : (X.wish E).Ok) : X.Ok :=
  ⟨ok.mod, ok.kind, ok.glob, ok.blt, ok.above, ok.inj, ok.has, ok.cab, ok.hd, ok.frames, ok.stk, ok.exf, ok.bs, ok.bsz, ok.noex, ok.exfs, ok.funs, ok.frf⟩
section
variable {X : Cx} {pins : List (Addr × Obj)} {σ : St} {H : Hp} {s : Shared} {E : Value → Shared → Prop}
theorem Inv.wish (I : Inv X pins σ H s) (E : Value → Shared → Prop) : Inv (X.wish E) pins σ H s := ⟨I.ok.wish E, I.os, I.bare, I.base, I.loc, I.cell, I.free, I.freeC, I.pin, I.hok, I.len⟩
theorem Inv.unwish (I : Inv (X.wish E) pins σ H s) : Inv X pins σ H s := ⟨I.ok.unwish, I.os, I.bare, I.base, I.loc, I.cell, I.free, I.freeC, I.pin, I.hok, I.len⟩
theorem SP.unwish {D : Ends} {f : Flow} {s' : Shared} (h : SP (X.wish E) pins D f s') : SP X pins D f s' := by
  cases f with
  | next => obtain ⟨σ', H', I, q⟩ := h; exact ⟨σ', H', I.unwish, q⟩
  | brk => obtain ⟨σ', H', I, q⟩ := h; exact ⟨σ', H', I.unwish, q⟩
  | cont => obtain ⟨σ', H', I, q⟩ := h; exact ⟨σ', H', I.unwish, q⟩
  | ret u => obtain ⟨v, σ', H', I, r, q⟩ := h; exact ⟨v, σ', H', I.unwish, r, q⟩
theorem PSs.nox {st : List Stmt} {t : TS} (h : PSs X.nox st t) : PSs X st t := fun pins s σ H D I hw =>
  wpAny_mono (h pins s σ H D (I.wish _) hw) (fun _ _ q => q.unwish) fun _ _ z => False.elim z
end
section
variable {X : Cx} {st : Stmt} {rest : List Stmt} {t u : TS} {e : Expr} {te : TE} {pos : Pos}
noncomputable def tNext : TS := fun D σ H => D.nx σ H
noncomputable def tSeq (t u : TS) : TS := fun D σ H => t { D with nx := u D } σ H
theorem pss_nil : PSs X [] tNext := fun _ _ σ H _ I h => wpAny_execs_nil ⟨σ, H, I, h⟩
theorem pss_cons (h1 : PS X st t) (h2 : PSs X rest u) : PSs X (st :: rest) (tSeq t u) := by
  intro pins s σ H D I h
  refine wpAny_execs_cons (thn (h1 pins s σ H { D with nx := u D } I h) fun f s1 q => ?_)
  cases f with
  | next =>
    obtain ⟨σ', H', I', q⟩ := q
    exact h2 pins s1 σ' H' D I' q
  | ret v => exact q
  | brk => exact q
  | cont => exact q
theorem pss_one (h1 : PS X st t) : PSs X [st] t := by
  intro pins s σ H D I h
  refine wpAny_execs_cons (thn (h1 pins s σ H D I h) fun f s1 q => ?_)
  cases f with
  | next => exact wpAny_execs_nil q
  | ret v => exact q
  | brk => exact q
  | cont => exact q
theorem Inv.quiet {pins : List (Addr × Obj)} {σ : St} {H : Hp} {s : Shared} (I : Inv X pins σ H s) : interactive X.env = false := by simp [interactive, I.ok.kind]
noncomputable def tDrop (te : TE) : TS := fun D σ H => te σ H fun _ H1 => D.nx σ H1
theorem ps_expr (he : PE X e te) (hs : swapsWith e none pos.line X.env = pure false := by rfl) : PS X (.Expr e pos) (tDrop te) := by
  intro pins s σ H D I h
  exact wpAny_Expr_any (thn (he pins s σ H _ I h) fun v s1 zq0 => by obtain ⟨x, H1, I1, r1, q1⟩ := zq0; exact (⟨σ, H1, I1, q1⟩)) I.quiet hs
noncomputable def tRet (te : TE) : TS := fun D σ H => te σ H D.rt
theorem ps_ret (he : PE X e te) : PS X (.Return (some e) pos) (tRet te) := by
  intro pins s σ H D I h
  exact wpAny_Return_some (thn (he pins s σ H _ I h) fun v s1 zq1 => by obtain ⟨x, H1, I1, r1, q1⟩ := zq1; exact (⟨x, σ, H1, I1, r1, q1⟩))
noncomputable def tIfS (c : TT) (t u : TS) : TS := fun D σ H => c σ H fun b H1 => if b = true then t D σ H1 else u D σ H1
theorem ps_if {c : Expr} {a b : List Stmt} {tc : TT} (hc : PT X c tc) (ha : PSs X a t) (hb : PSs X b u) : PS X (.If c a b pos) (tIfS tc t u) := by
  intro pins s σ H D I h
  refine wpAny_If (thn (hc pins s σ H _ I h) fun d s1 zr933 => ?_)
  obtain ⟨H1, I1, q1⟩ := zr933
  cases d with
  | true => exact ha pins s1 σ H1 D I1 q1
  | false => exact hb pins s1 σ H1 D I1 q1
end
noncomputable abbrev TG := V → St → Hp → (St → Hp → Prop) → Prop
noncomputable abbrev TGs := List V → St → Hp → (St → Hp → Prop) → Prop
noncomputable def PG (X : Cx) (target : Expr) (t : TG) : Prop :=
  ∀ (pins : List (Addr × Obj)) (s : Shared) (σ : St) (H : Hp) (v : V) (u : Value) (Q : St → Hp → Prop), Inv X pins σ H s → RelV v u → t v σ H Q →
    wpAny (model X.prog X.w) X.A (assign target X.env u) (fun _ s' => ∃ σ' H', Inv X pins σ' H' s' ∧ Q σ' H') X.xe s
noncomputable def PGs (X : Cx) (ts : List Expr) (t : TGs) : Prop :=
  ∀ (pins : List (Addr × Obj)) (s : Shared) (σ : St) (H : Hp) (vs : List V) (us : List Value) (Q : St → Hp → Prop), Inv X pins σ H s → Vals vs us → t vs σ H Q →
    wpAny (model X.prog X.w) X.A (assignInOrder ((assignEach ts X.env).map (·.2)) us) (fun _ s' => ∃ σ' H', Inv X pins σ' H' s' ∧ Q σ' H') X.xe s
section
variable {X : Cx} {pos : Pos}
noncomputable def gName (i : Nat) : TG := fun v σ H Q => Q (σ.set i (some v)) H
theorem pg_name {i : Nat} {x : Str} (hN : X.N.Nodup) (hi : X.N[i]? = some x) (hx : Loc X.env.scope x) (hf : X.fn x = true ∨ X.env.scope.names.lookup x = some .local := by first | exact .inl rfl | exact .inr rfl | assumption) : PG X (.Name x pos) (gName i) := by
  intro pins s σ H v u Q I r h
  exact wpAny_assign_Name (store_ok I hN hi hx r (fun s' I' => ⟨_, H, I', h⟩) hf)
noncomputable def gNil : TGs := fun vs σ H Q => vs = [] ∧ Q σ H
noncomputable def gCons (t : TG) (u : TGs) : TGs := fun vs σ H Q => ∃ v r, vs = v :: r ∧ t v σ H fun σ' H' => u r σ' H' Q
theorem pgs_nil : PGs X [] gNil := by
  intro pins s σ H vs us Q I r h
  obtain ⟨e, h⟩ := h
  subst e
  cases r
  exact assignInOrder_nil ⟨σ, H, I, h⟩
theorem pgs_cons {e : Expr} {es : List Expr} {t : TG} {u : TGs} (h1 : PG X e t) (h2 : PGs X es u)
    (hs : (assignEach (e :: es) X.env).map (·.2) = assign e X.env :: (assignEach es X.env).map (·.2) := by rfl) : PGs X (e :: es) (gCons t u) := by
  intro pins s σ H vs us Q I r h
  obtain ⟨v, vr, e1, h⟩ := h
  subst e1
  cases r with
  | cons r rr =>
    rw [hs]
    refine assignInOrder_cons (thn (h1 pins s σ H _ _ _ I r h) fun _ s1 zr968 => ?_)
    obtain ⟨σ1, H1, I1, q1⟩ := zr968
    exact h2 pins s1 σ1 H1 _ _ Q I1 rr q1
noncomputable def gTup (K : PySem.W.Frag) (n : Nat) (t : TGs) : TG := fun v σ H Q => ∃ a xs, v = .ref a ∧ SqT K H a xs ∧ xs.length = n ∧ t xs σ H Q
theorem pg_tup {es : List Expr} {k : Nat} {t : TGs} {n : Nat} (hc : X.calm = true) (h : PGs X es t)
    (hn : (assignEach es X.env).length = n := by rfl) (hst : (assignEach es X.env).findIdx? (·.1) = none := by rfl) : PG X (.Tuple es k pos) (gTup X.K n t) := by
  intro pins s σ H v u Q I r hw
  obtain ⟨a, xs, e1, hq, hl, hw⟩ := hw
  subst e1
  cases r
  obtain ⟨its, rv, ht, hz⟩ := I.tuple hq
  refine assign_Tuple_tuple (I.ok.hd hc) ht (by simp [hn, ← hl, rv.length]) hst fun h' hx => ?_
  have I1 : Inv X pins σ H { s with heap := h' } := I.kept (t' := s.toks) fun b o e => hx b o (Nat.ne_of_lt (Heap.lt_size e)) e
  exact h pins _ σ H xs _ Q I1 (by simpa using rv) hw
noncomputable def tAsg (te : TE) (g : TG) : TS := fun D σ H => te σ H fun x H1 => g x σ H1 D.nx
theorem ps_set {i : Nat} {x : Str} {e : Expr} {te : TE} {pos' : Pos} (hN : X.N.Nodup) (hi : X.N[i]? = some x) (hx : Loc X.env.scope x) (he : PE X e te) (hs : swapsWith e (some (.Name x pos')) pos.line X.env = pure false := by rfl) (hf : X.fn x = true ∨ X.env.scope.names.lookup x = some .local := by first | exact .inl rfl | exact .inr rfl | assumption) :
    PS X (.Assign [.Name x pos'] e pos) (tAsg te (gName i)) := by
  intro pins s σ H D I h
  refine wpAny_Assign_Name (thn (he pins s σ H _ I h) fun v s1 zr985 => ?_) hs
  obtain ⟨y, H1, I1, r1, q1⟩ := zr985
  exact store_ok I1 hN hi hx r1 (fun s2 I2 => ⟨_, H1, I2, q1⟩) hf
end
section
variable {X : Cx} {pos : Pos}
noncomputable def tWhile (c : TT) (tb : TS) : TS := fun D σ H => ∃ W : Nat → St → Hp → Prop, (∃ m, W m σ H) ∧ ∀ m σ H, W m σ H →
  c σ H fun b H1 => if b = true then ∃ N : St → Hp → Prop, (∀ σ' H', N σ' H' → ∃ m', m' < m ∧ W m' σ' H') ∧ tb { D with nx := N, ct := N, bk := D.nx } σ H1 else D.nx σ H1
theorem ps_while {c : Expr} {body : List Stmt} {tc : TT} {tb : TS} (hp : PassesOwn (model X.prog X.w) X.A X.env X.xe) (hc : PT X c tc) (hb : PSs X body tb) : PS X (.While c body [] pos) (tWhile tc tb) := by
  intro pins s σ H D I h
  obtain ⟨W, ⟨m0, w0⟩, turn⟩ := h
  refine wpAny_While (codeAny_whileLoop (fun n s' => ∃ σ' H', Inv X pins σ' H' s' ∧ W n σ' H') ?_ m0 ⟨σ, H, I, w0⟩)
  rintro n s1 ⟨σ1, H1, I1, w1⟩
  refine wpAny_passesOwn hp (thn (hc pins s1 σ1 H1 _ I1 (turn n σ1 H1 w1)) fun b s2 zr997 => ?_)
  obtain ⟨H2, I2, q2⟩ := zr997
  cases b with
  | true =>
    obtain ⟨N, hN, q2⟩ := q2
    rw [if_pos rfl]
    refine wpAny_passesOwn hp (thn (hb pins s2 σ1 H2 _ I2 q2) fun f s3 q3 => ?_)
    cases f with
    | next =>
      obtain ⟨σ3, H3, I3, n3⟩ := q3
      obtain ⟨m', hm, w3⟩ := hN σ3 H3 n3
      exact ⟨m', hm, σ3, H3, I3, w3⟩
    | cont =>
      obtain ⟨σ3, H3, I3, n3⟩ := q3
      obtain ⟨m', hm, w3⟩ := hN σ3 H3 n3
      exact ⟨m', hm, σ3, H3, I3, w3⟩
    | brk => exact q3
    | ret v => exact q3
  | false =>
    rw [if_neg Bool.false_ne_true]
    exact wpAny_execs_nil ⟨σ1, H2, I2, q2⟩
end
structure It where
  go : Nat → Hp → Prop
  yld : Nat → Hp → V → Hp → Prop
  stop : Nat → Hp → Prop
noncomputable def FpOk (X : Cx) (pins : List (Addr × Obj)) (H : Hp) (b : Addr) : Prop :=
  H b = none ∧ b ≠ X.env.locals ∧ b ∉ X.fs ∧ (b ∈ X.ex ∨ X.s₀.heap.objs.size ≤ b) ∧ (∀ x c, X.env.cells.lookup x = some c → c ≠ b) ∧ ∀ p ∈ X.pn ++ pins, p.1 ≠ b
theorem Inv.fpOk {X : Cx} {pins : List (Addr × Obj)} {σ : St} {H H' : Hp} {s : Shared} {b : Addr} (I : Inv X pins σ H s) (hb : s.heap.objs.size ≤ b) (hn : H' b = none) : FpOk X pins H' b := by
  refine ⟨hn, Nat.ne_of_gt (Nat.lt_of_lt_of_le I.lt hb), I.nofs hb, .inr (Nat.le_trans I.sz hb), fun x c e z => ?_, fun p hp z => ?_⟩
  · obtain ⟨v, q⟩ := I.cell x c e
    exact absurd (Nat.lt_of_lt_of_le q.lt (by rw [z]; exact hb)) (Nat.lt_irrefl _)
  · exact absurd (Nat.lt_of_lt_of_le (Heap.lt_size (I.pin p hp).1) (by rw [z]; exact hb)) (Nat.lt_irrefl _)
structure Turn (P : Program) (w : World) (K : PySem.W.Frag) (tg : Expr) (J : It) (fp : List Addr) (it : Addr) (tn : Nat → Heap → Prop) : Prop where
  mem : it ∈ fp
  obj : ∀ i h, tn i h → ∀ b ∈ fp, ∃ o, h.get? b = some o ∧ ∀ v, o.data ≠ .cell v
  keep : ∀ i h h', tn i h → (∀ b ∈ fp, ∀ o, h.get? b = some o → h'.get? b = some o) → tn i h'
  item : ∀ (X : Cx), X.prog = P → X.w = w → X.K = K → X.calm = true → ∀ (i : Nat) (pins : List (Addr × Obj)) (s : Shared) (σ : St) (H : Hp) (E : Value → Shared → Prop), Inv X pins σ H s → (∀ b ∈ fp, FpOk X pins H b) → tn i s.heap → J.go i H →
    wpAny (model P w) X.A (pyNext (.ref it)) (fun r s1 => ∃ u, r = some u ∧
      wpAny (model P w) X.A (letOwnedTupleGo tg (.ref it) u) (fun _ s2 => ∃ x H', Inv X pins σ H' s2 ∧ RelV x u ∧ J.yld i H x H' ∧ tn (i + 1) s2.heap ∧ ∀ b ∈ fp, H' b = none) E s1) E s
  done : ∀ (X : Cx), X.prog = P → X.w = w → X.K = K → X.calm = true → ∀ (i : Nat) (pins : List (Addr × Obj)) (s : Shared) (σ : St) (H : Hp) (E : Value → Shared → Prop), Inv X pins σ H s → (∀ b ∈ fp, FpOk X pins H b) → tn i s.heap → J.stop i H →
    wpAny (model P w) X.A (pyNext (.ref it)) (fun r s1 => r = none ∧ Inv X pins σ H s1) E s
  self : ∀ (A : Around) (i : Nat) (s : Shared) (Q : Value → Shared → Prop) (E : Value → Shared → Prop), tn i s.heap → Q (.ref it) s → wpAny (model P w) A (pyIter (.ref it)) Q E s
noncomputable abbrev TI := St → Hp → (It → Hp → Prop) → Prop
noncomputable def PIE (X : Cx) (pins : List (Addr × Obj)) (σ : St) (tg : Expr) (R : It → Hp → Prop) (itv : Value) (s2 : Shared) : Prop :=
  ∃ (it : Addr) (fp : List Addr) (tn : Nat → Heap → Prop) (J : It) (H' : Hp), itv = .ref it ∧ Inv X pins σ H' s2 ∧ Turn X.prog X.w X.K tg J fp it tn ∧ tn 0 s2.heap ∧ (∀ b ∈ fp, FpOk X pins H' b) ∧ R J H'
noncomputable def PI (X : Cx) (tg iter : Expr) (wi : TI) : Prop :=
  ∀ (pins : List (Addr × Obj)) (s : Shared) (σ : St) (H : Hp) (R : It → Hp → Prop), Inv X pins σ H s → wi σ H R →
    wpAny (model X.prog X.w) X.A (eval iter X.env) (fun v s1 => wpAny (model X.prog X.w) X.A (pyIter v) (PIE X pins σ tg R) X.xe s1) X.xe s
theorem go_of {M : Model} {A : Around} {E : Value → Shared → Prop} {s : Shared} {tg : Expr} {it : Addr} {u : Value} {o : Obj} {n : String} {vs : Array Value} {Q : Unit → Shared → Prop} (ho : s.heap.get? it = some o) (hc : o.cls = .type n) (hd : o.data = .fields vs)
    (hn : ["enumerate", "zip", "dict_itemiterator", "dict_reverseitemiterator", "odict_iterator", "itertools.zip_longest", "itertools.pairwise"].contains n = false) (hQ : Q () s) : wpAny M A (letOwnedTupleGo tg (.ref it) u) Q E s := by
  unfold letOwnedTupleGo
  cases tg <;> first
    | exact wpAny_pure hQ
    | (cases u <;> first
        | exact wpAny_pure hQ
        | (refine wpAny_bind (wpAny_load ho ?_)
           rw [hc, hd]
           show wpAny M A (if (["enumerate", "zip", "dict_itemiterator", "dict_reverseitemiterator", "odict_iterator", "itertools.zip_longest", "itertools.pairwise"].contains n && vs[0]? == some (rawInt _)) = true then _ else _) Q E s
           rw [if_neg (by intro h; rw [hn, Bool.false_and] at h; cases h)]
           exact wpAny_pure hQ))
noncomputable def Itl (K : PySem.W.Frag) (a : Addr) : It :=
  ⟨fun i H => ∃ xs x, SqL K H a xs ∧ xs[i]? = some x, fun i H x H' => H' = H ∧ ∀ xs, SqL K H a xs → xs[i]? = some x, fun i H => ∃ xs, SqL K H a xs ∧ xs.length ≤ i⟩
noncomputable def Itt (K : PySem.W.Frag) (a : Addr) : It :=
  ⟨fun i H => ∃ xs x, SqT K H a xs ∧ xs[i]? = some x, fun i H x H' => H' = H ∧ ∀ xs, SqT K H a xs → xs[i]? = some x, fun i H => ∃ xs, SqT K H a xs ∧ xs.length ≤ i⟩
noncomputable def Itr (lo : Int) (n : Nat) : It := ⟨fun i _ => i < n, fun i H x H' => H' = H ∧ x = .int (lo + i), fun i _ => n ≤ i⟩
theorem turn_list {P : Program} {w : World} {K : PySem.W.Frag} {tg : Expr} (a it : Addr) : Turn P w K tg (Itl K a) [it] it (fun i h => h.IsListIter it a i) where
  mem := by simp
  obj := fun i h st b hb => by
    have e : b = it := by simpa using hb
    subst e
    obtain ⟨o, e, c, d⟩ := st
    exact ⟨o, e, fun v z => by rw [d] at z; cases z⟩
  keep := fun i h h' st k => st.at fun o e => k it (by simp) o e
  item := by
    intro X hP hw hK hc i pins s σ H E I hf st hg
    subst hP hw hK
    obtain ⟨xs, x, hq, hx⟩ := hg
    obtain ⟨its, rv, p, hz⟩ := I.list hq
    obtain ⟨u, hu, ru⟩ := rv.get hx
    obtain ⟨f0, f1, f2, f3, f4, f5⟩ := hf it (by simp)
    refine wpAny_pyNext_list_item st p.isList (x := u) (by simpa using hu) fun h' st' sb => ?_
    have I1 : Inv X pins σ H { s with heap := h' } := I.turned (t' := s.toks) (fun b o hb e => (sb.2 b hb).trans e) f0 f1 f3 f4 f5
    obtain ⟨o, e, c, d⟩ := id st'
    exact ⟨u, rfl, go_of (s := { s with heap := h' }) e c d (by decide) ⟨x, H, I1, ru, ⟨rfl, fun ys hy => by rw [I.list_inj hy hq]; exact hx⟩, st', fun b hb => (hf b hb).1⟩⟩
  done := by
    intro X hP hw hK hc i pins s σ H E I hf st hg
    subst hP hw hK
    obtain ⟨xs, hq, hx⟩ := hg
    obtain ⟨its, rv, p, hz⟩ := I.list hq
    obtain ⟨f0, f1, f2, f3, f4, f5⟩ := hf it (by simp)
    have hl := rv.length
    exact wpAny_pyNext_list_end (I.ok.hd hc) st p.isList (by simp; omega) fun h' eb => ⟨rfl, I.turned (t' := s.toks) (fun b o hb e => eb b o hb e) f0 f1 f3 f4 f5⟩
  self := fun _ _ _ _ _ st h => wpAny_pyIter_listiter st h
theorem turn_tuple {P : Program} {w : World} {K : PySem.W.Frag} {tg : Expr} (a it : Addr) : Turn P w K tg (Itt K a) [it] it (fun i h => h.IsTupleIter it a i) where
  mem := by simp
  obj := fun i h st b hb => by
    have e : b = it := by simpa using hb
    subst e
    obtain ⟨o, e, c, d⟩ := st
    exact ⟨o, e, fun v z => by rw [d] at z; cases z⟩
  keep := fun i h h' st k => st.at fun o e => k it (by simp) o e
  item := by
    intro X hP hw hK hc i pins s σ H E I hf st hg
    subst hP hw hK
    obtain ⟨xs, x, hq, hx⟩ := hg
    obtain ⟨its, rv, p, hz⟩ := I.tuple hq
    obtain ⟨u, hu, ru⟩ := rv.get hx
    obtain ⟨f0, f1, f2, f3, f4, f5⟩ := hf it (by simp)
    refine wpAny_pyNext_tuple_item st (show s.heap.IsTuple a its.toArray from p) (x := u) (by simpa using hu) fun h' st' sb => ?_
    have I1 : Inv X pins σ H { s with heap := h' } := I.turned (t' := s.toks) (fun b o hb e => (sb.2 b hb).trans e) f0 f1 f3 f4 f5
    obtain ⟨o, e, c, d⟩ := id st'
    exact ⟨u, rfl, go_of (s := { s with heap := h' }) e c d (by decide) ⟨x, H, I1, ru, ⟨rfl, fun ys hy => by rw [I.tuple_inj hy hq]; exact hx⟩, st', fun b hb => (hf b hb).1⟩⟩
  done := by
    intro X hP hw hK hc i pins s σ H E I hf st hg
    subst hP hw hK
    obtain ⟨xs, hq, hx⟩ := hg
    obtain ⟨its, rv, p, hz⟩ := I.tuple hq
    obtain ⟨f0, f1, f2, f3, f4, f5⟩ := hf it (by simp)
    have hl := rv.length
    exact wpAny_pyNext_tuple_end (I.ok.hd hc) st (show s.heap.IsTuple a its.toArray from p) (by simp; omega) fun h' eb => ⟨rfl, I.turned (t' := s.toks) (fun b o hb e => eb b o hb e) f0 f1 f3 f4 f5⟩
  self := fun _ _ _ _ _ st h => wpAny_pyIter_tupleiter st h
theorem turn_range {P : Program} {w : World} {K : PySem.W.Frag} {tg : Expr} (it : Addr) (lo : Int) (n : Nat) : Turn P w K tg (Itr lo n) [it] it (fun i h => IsRangeIter h it (lo + (i : Nat) * 1) ((n : Int) - (i : Nat)) 1) where
  mem := by simp
  obj := fun i h st b hb => by
    have e : b = it := by simpa using hb
    subst e
    exact ⟨_, st, fun v z => by
      have z' : Data.fields _ = Data.cell v := z
      cases z'⟩
  keep := fun i h h' st k => k it (by simp) _ st
  item := by
    intro X hP hw hK hc i pins s σ H E I hf st hg
    subst hP hw hK
    obtain ⟨f0, f1, f2, f3, f4, f5⟩ := hf it (by simp)
    have W := Walks.range (prog := X.prog) (w := X.w) (I.ok.hd hc) it lo 1 n
    refine W.item i s _ _ hg st fun v h' tk hv st' kk => ?_
    obtain ⟨t, rfl⟩ := hv
    have I1 : Inv X pins σ H { s with heap := h', toks := tk } := I.turned (fun b o hb e => kk b o (by simpa using hb) e) f0 f1 f3 f4 f5
    refine ⟨_, rfl, go_of (s := { s with heap := h', toks := tk }) (n := "range_iterator") st' rfl rfl (by decide) ⟨.int (lo + i), H, I1, ⟨t, ?_⟩, ⟨rfl, rfl⟩, st', fun b hb => (hf b hb).1⟩⟩
    rw [Int.mul_one]
  done := by
    intro X hP hw hK hc i pins s σ H E I hf st hg
    subst hP hw hK
    obtain ⟨f0, f1, f2, f3, f4, f5⟩ := hf it (by simp)
    exact wpAny_pyNext_range_end (I.ok.hd hc) st (by have : n ≤ i := hg; omega) fun h' eb => ⟨rfl, I.turned (t' := s.toks) (fun b o hb e => eb b o hb e) f0 f1 f3 f4 f5⟩
  self := fun _ _ _ _ _ st h => wpAny_pyIter_rangeiter st h
end L2
namespace L2
open PySem PySem.Spec PyProof.Rows
section
variable {X : Cx} {tg : Expr}
theorem range_it {pins : List (Addr × Obj)} {σ : St} {H : Hp} {s : Shared} {R : It → Hp → Prop} {E : Value → Shared → Prop} {lo hi : Int} {t u v : Tok} {tk : Nat} (I : Inv X pins σ H s) (h1 : -(2 ^ 62) ≤ lo) (h2 : lo < 2 ^ 62) (h3 : -(2 ^ 62) ≤ hi) (h4 : hi < 2 ^ 62)
    (q : R (Itr lo (hi - lo).toNat) H) : wpAny (model X.prog X.w) X.A (pyIter (.ref s.heap.objs.size)) (PIE X pins σ tg R) E { s with heap := s.heap.push { cls := .type "range", data := .fields #[.int lo t, .int hi u, .int 1 v] }, toks := tk } := by
  refine wpAny_pyIter_range (IsRange.new ..) (small_one h1 h2 h3 h4) ?_
  have I1 : Inv X pins σ H { s with heap := s.heap.push { cls := .type "range", data := .fields #[.int lo t, .int hi u, .int 1 v] }, toks := tk } := I.kept fun b o e => Heap.get?_push_of_some _ e
  refine ⟨(s.heap.push { cls := .type "range", data := .fields #[.int lo t, .int hi u, .int 1 v] }).objs.size, [(s.heap.push { cls := .type "range", data := .fields #[.int lo t, .int hi u, .int 1 v] }).objs.size], _, _, H, rfl,
    I1.kept (t' := tk) fun b o e => Heap.get?_push_of_some _ e, turn_range _ lo (hi - lo).toNat, ?_, fun b hb => ?_, q⟩
  · have e1 : lo + ((0 : Nat) : Int) * 1 = lo := by simp
    have e2 : (((hi - lo).toNat : Nat) : Int) - ((0 : Nat) : Int) = Builtin.Range.rangeSize lo hi 1 := by rw [rangeSize_one]; split <;> omega
    show IsRangeIter _ _ (lo + ((0 : Nat) : Int) * 1) ((((hi - lo).toNat : Nat) : Int) - ((0 : Nat) : Int)) 1
    rw [e1, e2]
    exact Heap.get?_push_size _ rfl
  · have e : b = (s.heap.push { cls := .type "range", data := .fields #[.int lo t, .int hi u, .int 1 v] }).objs.size := by simpa using hb
    subst e
    exact I1.fpOk (Nat.le_refl _) (I1.hok.fresh (Nat.le_refl _))
noncomputable def iRng1 (ta : TA) : TI := fun σ H R => ta σ H fun vs H1 => ∃ j : Int, vs = [.int j] ∧ -(2 ^ 62) ≤ j ∧ j < 2 ^ 62 ∧ R (Itr 0 j.toNat) H1
noncomputable def iRng2 (ta : TA) : TI := fun σ H R => ta σ H fun vs H1 => ∃ i j : Int, vs = [.int i, .int j] ∧ (-(2 ^ 62) ≤ i ∧ i < 2 ^ 62 ∧ -(2 ^ 62) ≤ j ∧ j < 2 ^ 62) ∧ R (Itr i (j - i).toNat) H1
theorem pi_range1 {a : Expr} {ta : TA} {p pos : Pos} (hg : Gl X "range") (hm : X.mg "range" = none) (ha : PA X [a] ta) (hs : starEach [a] X.env = [(false, eval a X.env)] := by rfl) : PI X tg (.Call (.Name "range" p) [a] [] pos) (iRng1 ta) := by
  intro pins s σ H R I h
  refine Call_ (ld_blt I hg hm boot_range (PyProof.Rows.callWith_type1 (thn (ha pos pins s σ H _ I h) fun us s1 zr1166 => ?_) hs rfl))
  obtain ⟨vs, H1, I1, r1, q1⟩ := zr1166
  obtain ⟨j, e, q1, q2, q⟩ := q1
  subst e
  cases r1 with
  | cons r rr =>
    cases rr
    obtain ⟨t, rfl⟩ := r
    exact call_range_1 (range_it I1 (by omega) (by omega) q1 q2 (by simpa using q))
theorem pi_range2 {a b : Expr} {ta : TA} {p pos : Pos} (hg : Gl X "range") (hm : X.mg "range" = none) (ha : PA X [a, b] ta) (hs : starEach [a, b] X.env = [(false, eval a X.env), (false, eval b X.env)] := by rfl) (hs2 : starEach [b] X.env = [(false, eval b X.env)] := by rfl) :
    PI X tg (.Call (.Name "range" p) [a, b] [] pos) (iRng2 ta) := by
  intro pins s σ H R I h
  refine Call_ (ld_blt I hg hm boot_range (PyProof.Rows.callWith_type1 (thn (ha pos pins s σ H _ I h) fun us s1 ⟨vs, H1, I1, r1, q1⟩ => ?_) (by rw [hs, hs2]) (by rw [hs2]; rfl)))
  obtain ⟨i, j, e, ⟨q1, q2, q3, q4⟩, q⟩ := q1
  subst e
  cases r1 with
  | cons r rr =>
    cases rr with
    | cons r' rr =>
      cases rr
      obtain ⟨t, rfl⟩ := r
      obtain ⟨t', rfl⟩ := r'
      exact call_range_2 (range_it I1 q1 q2 q3 q4 q)
noncomputable def tFor (wi : TI) (g : TG) (tb : TS) : TS := fun D σ H => wi σ H fun J H1 => ∃ W : Nat → Nat → St → Hp → Prop, (∃ m, W 0 m σ H1) ∧ ∀ i m σ H, W i m σ H →
  (J.stop i H ∧ D.nx σ H) ∨ (J.go i H ∧ ∃ N : St → Hp → Prop, (∀ σ' H', N σ' H' → ∃ m', m' < m ∧ W (i + 1) m' σ' H') ∧ ∀ x H', J.yld i H x H' → g x σ H' fun σ2 H2 => tb { D with nx := N, ct := N, bk := D.nx } σ2 H2)
noncomputable def pinsAt (fp : List Addr) (h : Heap) : List (Addr × Obj) := fp.filterMap fun b => (h.get? b).map fun o => (b, o)
theorem mem_pinsAt {fp : List Addr} {h : Heap} {b : Addr} {o : Obj} (hb : b ∈ fp) (e : h.get? b = some o) : (b, o) ∈ pinsAt fp h := List.mem_filterMap.mpr ⟨b, hb, by rw [e]; rfl⟩
theorem of_pinsAt {fp : List Addr} {h : Heap} {p : Addr × Obj} (hp : p ∈ pinsAt fp h) : p.1 ∈ fp ∧ h.get? p.1 = some p.2 := by
  obtain ⟨b, hb, e⟩ := List.mem_filterMap.mp hp
  cases q : h.get? b with
  | none => rw [q] at e; cases e
  | some o =>
    rw [q] at e
    have e' : (b, o) = p := Option.some.inj e
    subst e'
    exact ⟨hb, q⟩
theorem Inv.pinned {pins : List (Addr × Obj)} {σ : St} {H : Hp} {s : Shared} {fp : List Addr} (I : Inv X pins σ H s) (hf : ∀ b ∈ fp, FpOk X pins H b) (ho : ∀ b ∈ fp, ∃ o, s.heap.get? b = some o ∧ ∀ v, o.data ≠ .cell v) : Inv X (pins ++ pinsAt fp s.heap) σ H s :=
  I.pins_of fun p hp => (List.mem_append.mp hp).elim (fun z => I.pin p (List.mem_append_right _ z)) fun z => by
    obtain ⟨hb, e⟩ := of_pinsAt z
    obtain ⟨f0, f1, f2, _⟩ := hf p.1 hb
    obtain ⟨o, e', d⟩ := ho p.1 hb
    rw [e] at e'; cases e'
    exact ⟨e, f0, f1, f2, d⟩
theorem Inv.unpinned {pins pl : List (Addr × Obj)} {σ : St} {H : Hp} {s : Shared} (I : Inv X (pins ++ pl) σ H s) : Inv X pins σ H s := I.pins_of fun p hp => I.pin p (List.mem_append_right _ (List.mem_append_left _ hp))
theorem ps_for {iter : Expr} {body : List Stmt} {wi : TI} {g : TG} {tb : TS} {pos : Pos} (hp : PassesOwn (model X.prog X.w) X.A X.env X.xe) (hc : X.calm = true) (hi : PI X tg iter wi) (hg : PG X tg g) (hb : PSs X body tb)
    (hs : ∀ x, foldedSetIterable iter X.env x = pure x := by intro _; rfl) : PS X (.For tg iter body [] pos) (tFor wi g tb) := by
  intro pins s σ H D I h
  refine wpAny_For (thn (hi pins s σ H _ I h) fun v s1 h1 => thn h1 fun itv s2 h2 => ?_) hs
  obtain ⟨it, fp, tn, J, H2, e, I2, T, st2, f2, W, ⟨m0, w0⟩, turn⟩ := h2
  subst e
  -- what stays true of the iterator's objects through the loop
  have stat : ∀ {H' : Hp}, (∀ b ∈ fp, H' b = none) → ∀ b ∈ fp, FpOk X pins H' b := fun hn b hb => ⟨hn b hb, (f2 b hb).2⟩
  refine codeAny_forLoop_any (fun n s' => ∃ i σ' H', Inv X pins σ' H' s' ∧ tn i s'.heap ∧ (∀ b ∈ fp, H' b = none) ∧ W i n σ' H') ?_ m0 ⟨0, σ, H2, I2, st2, fun b hb => (f2 b hb).1, w0⟩
  rintro n s3 ⟨i, σ3, H3, I3, st3, fr3, w3⟩
  rcases turn i n σ3 H3 w3 with ⟨stop, qn⟩ | ⟨go, N, hN, step⟩
  · refine wpAny_passesOwn hp (thn (T.done X rfl rfl rfl hc i pins s3 σ3 H3 X.xe I3 (stat fr3) st3 stop) fun r s4 zr1220 => ?_)
    obtain ⟨hr, I4⟩ := zr1220
    subst hr
    exact wpAny_execs_nil ⟨σ3, H3, I4, qn⟩
  · refine wpAny_passesOwn hp (thn (T.item X rfl rfl rfl hc i pins s3 σ3 H3 X.xe I3 (stat fr3) st3 go) fun r s4 zr1223 => ?_)
    obtain ⟨u, hr, h4⟩ := zr1223
    subst hr
    refine wpAny_passesOwn hp (thn h4 fun _ s5 zr1225 => ?_)
    obtain ⟨x, H5, I5, r5, y5, st5, fr5⟩ := zr1225
    have I5' := I5.pinned (stat fr5) (T.obj _ _ st5)
    refine wpAny_passesOwn hp (thn (hg _ s5 σ3 H5 x u _ I5' r5 (step x H5 y5)) fun _ s6 zr1227 => ?_)
    obtain ⟨σ6, H6, I6, q6⟩ := zr1227
    refine wpAny_passesOwn hp (thn (hb _ s6 σ6 H6 _ I6 q6) fun f s7 q7 => ?_)
    have again : ∀ {σ7 : St} {H7 : Hp}, Inv X (pins ++ pinsAt fp s5.heap) σ7 H7 s7 → N σ7 H7 → ∃ m, m < n ∧ ∃ i σ' H', Inv X pins σ' H' s7 ∧ tn i s7.heap ∧ (∀ b ∈ fp, H' b = none) ∧ W i m σ' H' := fun {σ7 H7} I7 n7 => by
      obtain ⟨m', hm, w7⟩ := hN σ7 H7 n7
      refine ⟨m', hm, i + 1, σ7, H7, I7.unpinned, T.keep _ _ _ st5 fun b hb o e => (I7.pin (b, o) (List.mem_append_right _ (List.mem_append_right _ (mem_pinsAt hb e)))).1, fun b hb => ?_, w7⟩
      obtain ⟨o, e, d⟩ := T.obj _ _ st5 b hb
      exact (I7.pin (b, o) (List.mem_append_right _ (List.mem_append_right _ (mem_pinsAt hb e)))).2.1
    cases f with
    | next => obtain ⟨σ7, H7, I7, n7⟩ := q7; exact again I7 n7
    | cont => obtain ⟨σ7, H7, I7, n7⟩ := q7; exact again I7 n7
    | brk => obtain ⟨σ7, H7, I7, q7⟩ := q7; exact ⟨σ7, H7, I7.unpinned, q7⟩
    | ret v => obtain ⟨x7, σ7, H7, I7, r7, q7⟩ := q7; exact ⟨x7, σ7, H7, I7.unpinned, r7, q7⟩
end
end L2
namespace L2
open PySem PySem.Spec PyProof.Rows
noncomputable abbrev R2 := V → V → Hp → VK → Prop
noncomputable def OpR (X : Cx) (f : Value → Value → Sem Value) (r : R2) : Prop :=
  ∀ (pins : List (Addr × Obj)) (s : Shared) (σ : St) (H : Hp) (x y : V) (v u : Value) (Q : VK), Inv X pins σ H s → RelV x v → RelV y u → r x y H Q →
    wpAny (model X.prog X.w) X.A (f v u) (EP X pins σ Q) X.xe s
noncomputable def UnR (X : Cx) (f : Value → Sem Value) (r : V → Hp → VK → Prop) : Prop :=
  ∀ (pins : List (Addr × Obj)) (s : Shared) (σ : St) (H : Hp) (x : V) (v : Value) (Q : VK), Inv X pins σ H s → RelV x v → r x H Q →
    wpAny (model X.prog X.w) X.A (f v) (EP X pins σ Q) X.xe s
noncomputable def CallR (X : Cx) (f : Value) (r : List V → Hp → VK → Prop) : Prop :=
  ∀ (pins : List (Addr × Obj)) (s : Shared) (σ : St) (H : Hp) (xs : List V) (us : List Value) (Q : VK), Inv X pins σ H s → Vals xs us → r xs H Q →
    wpAny (model X.prog X.w) X.A (call f us) (EP X pins σ Q) X.xe s
noncomputable def tOp (r : R2) (ta tb : TE) : TE := fun σ H Q => ta σ H fun x H1 => tb σ H1 fun y H2 => r x y H2 Q
noncomputable def tUn (r : V → Hp → VK → Prop) (ta : TE) : TE := fun σ H Q => ta σ H fun x H1 => r x H1 Q
noncomputable def rI (C : Int → Int → Prop) (g : Int → Int → V) : R2 := fun x y H Q => ∃ i j, x = .int i ∧ y = .int j ∧ C i j ∧ Q (g i j) H
noncomputable def rI0 (g : Int → Int → V) : R2 := fun x y H Q => ∃ i j, x = .int i ∧ y = .int j ∧ Q (g i j) H
noncomputable def rU (g : Int → V) : V → Hp → VK → Prop := fun x H Q => ∃ i, x = .int i ∧ Q (g i) H
section
variable {X : Cx} {a b c : Expr} {ta tb tc : TE} {pos : Pos}
theorem binT (ha : PE X a ta) (hb : PE X b tb) {pins : List (Addr × Obj)} {s : Shared} {σ : St} {H : Hp} {R : V → V → Hp → Prop} (I : Inv X pins σ H s)
    (h : ta σ H fun x H1 => tb σ H1 fun y H2 => R x y H2) {Q : Value → Shared → Prop} {f : Value → Value → Sem Value}
    (hf : ∀ v u s2 x y H2, Inv X pins σ H2 s2 → RelV x v → RelV y u → R x y H2 → wpAny (model X.prog X.w) X.A (f v u) Q X.xe s2) :
    wpAny (model X.prog X.w) X.A (eval a X.env) (fun v s₁ => wpAny (model X.prog X.w) X.A (eval b X.env) (fun u s₂ => wpAny (model X.prog X.w) X.A (f v u) Q X.xe s₂) X.xe s₁) X.xe s := by
  refine thn (ha pins s σ H _ I h) fun v s1 zr1264 => ?_
  obtain ⟨x, H1, I1, r1, q1⟩ := zr1264
  refine thn (hb pins s1 σ H1 _ I1 q1) fun u s2 zr1265 => ?_
  obtain ⟨y, H2, I2, r2, q2⟩ := zr1265
  exact hf v u s2 x y H2 I2 r1 r2 q2
theorem pe_op {op : Operator} {r : R2} (ho : OpR X (binaryOp op) r) (ha : PE X a ta) (hb : PE X b tb) : PE X (.BinOp a op b pos) (tOp r ta tb) := by
  intro pins s σ H Q I h
  exact wpAny_BinOp (binT ha hb I h fun v u s2 x y H2 I2 rx ry q => ho pins s2 σ H2 x y v u Q I2 rx ry q)
theorem pe_un {op : UnaryOp} {r : V → Hp → VK → Prop} (ho : UnR X (unaryOp op) r) (ha : PE X a ta) : PE X (.UnaryOp op a pos) (tUn r ta) := by
  intro pins s σ H Q I h
  exact UnaryOp_ (thn (ha pins s σ H _ I h) fun v s1 zq2 => by obtain ⟨x, H1, I1, r1, q1⟩ := zq2; exact (ho pins s1 σ H1 x v Q I1 r1 q1))
theorem opI {f : Value → Value → Sem Value} {C : Int → Int → Prop} {g : Int → Int → Int}
    (rule : ∀ (i j : Int) (t u : Tok) (s : Shared) (Q : Value → Shared → Prop) (E : Value → Shared → Prop), C i j → Q (.int (g i j) s.toks) { s with toks := s.toks + 1 } → wpAny (model X.prog X.w) X.A (f (.int i t) (.int j u)) Q E s) :
    OpR X f (rI C fun i j => .int (g i j)) := by
  intro pins s σ H x y v u Q I rx ry h
  obtain ⟨i, j, rfl, rfl, hc, q⟩ := h
  obtain ⟨t, rfl⟩ := rx
  obtain ⟨t', rfl⟩ := ry
  exact rule i j t t' s _ _ hc ⟨.int (g i j), H, I.tok _, ⟨_, rfl⟩, q⟩
theorem opI0 {f : Value → Value → Sem Value} {g : Int → Int → Int}
    (rule : ∀ (i j : Int) (t u : Tok) (s : Shared) (Q : Value → Shared → Prop) (E : Value → Shared → Prop), Q (.int (g i j) s.toks) { s with toks := s.toks + 1 } → wpAny (model X.prog X.w) X.A (f (.int i t) (.int j u)) Q E s) :
    OpR X f (rI0 fun i j => .int (g i j)) := by
  intro pins s σ H x y v u Q I rx ry h
  obtain ⟨i, j, rfl, rfl, q⟩ := h
  obtain ⟨t, rfl⟩ := rx
  obtain ⟨t', rfl⟩ := ry
  exact rule i j t t' s _ _ ⟨.int (g i j), H, I.tok _, ⟨_, rfl⟩, q⟩
theorem opB0 {f : Value → Value → Sem Value} {g : Int → Int → Bool}
    (rule : ∀ (i j : Int) (t u : Tok) (s : Shared) (Q : Value → Shared → Prop) (E : Value → Shared → Prop), Q (.bool (g i j)) s → wpAny (model X.prog X.w) X.A (f (.int i t) (.int j u)) Q E s) :
    OpR X f (rI0 fun i j => .bl (g i j)) := by
  intro pins s σ H x y v u Q I rx ry h
  obtain ⟨i, j, rfl, rfl, q⟩ := h
  obtain ⟨t, rfl⟩ := rx
  obtain ⟨t', rfl⟩ := ry
  exact rule i j t t' s _ _ ⟨.bl (g i j), H, I, rfl, q⟩
noncomputable def CPow (i j : Int) : Prop := 0 ≤ j ∧ j ≤ 1000000 ∧ i.natAbs < 2 ^ 64
noncomputable def CMul (i j : Int) : Prop := (-(2 ^ 64) < i ∧ i < 2 ^ 64) ∨ (-(2 ^ 64) < j ∧ j < 2 ^ 64)
theorem CMul.ok {i j : Int} (h : CMul i j) : IntMulOk i j := by
  rcases h with ⟨h1, h2⟩ | ⟨h1, h2⟩
  · exact .of_left (intBits_le_64 h1 h2)
  · exact .of_right (intBits_le_64 h1 h2)
theorem op_add : OpR X (binaryOp .Add) (rI0 fun i j => .int (i + j)) := opI0 fun _ _ _ _ _ _ _ q => add_int q
theorem op_sub : OpR X (binaryOp .Sub) (rI0 fun i j => .int (i - j)) := opI0 fun _ _ _ _ _ _ _ q => sub_int q
theorem op_mul : OpR X (binaryOp .Mult) (rI CMul fun i j => .int (i * j)) := opI fun _ _ _ _ _ _ _ hc q => mul_int q hc.ok
theorem op_mod : OpR X (binaryOp .Mod) (rI (fun _ j => 0 < j) fun i j => .int (i % j)) := opI fun i j _ _ _ _ _ hc q => by
  have h1 : (0 : Int) < j := hc
  exact mod_int' (by omega) (by rw [Int.fmod_eq_emod_of_nonneg i (by omega)]; exact q)
theorem op_pow : OpR X (binaryOp .Pow) (rI CPow fun i j => .int (i ^ j.toNat)) := opI fun _ _ _ _ _ _ _ hc q => pow_int_small hc.1 hc.2.1 hc.2.2 q
theorem unI {f : Value → Sem Value} {g : Int → Int}
    (rule : ∀ (i : Int) (t : Tok) (s : Shared) (Q : Value → Shared → Prop) (E : Value → Shared → Prop), Q (.int (g i) s.toks) { s with toks := s.toks + 1 } → wpAny (model X.prog X.w) X.A (f (.int i t)) Q E s) :
    UnR X f (rU fun i => .int (g i)) := by
  intro pins s σ H x v Q I rx h
  obtain ⟨i, rfl, q⟩ := h
  obtain ⟨t, rfl⟩ := rx
  exact rule i t s _ _ ⟨.int (g i), H, I.tok _, ⟨_, rfl⟩, q⟩
theorem un_neg : UnR X (unaryOp .USub) (rU fun i => .int (-i)) := unI fun _ _ _ _ _ q => neg_int q
end
noncomputable def scal : V → V → Bool
  | .non, .non => true | .non, .int _ => true | .int _, .non => true | .non, .bl _ => true | .bl _, .non => true | .non, .str _ => true | .str _, .non => true
  | .int _, .int _ => true | .bl _, .bl _ => true | .str _, .str _ => true | .byt _, .byt _ => true
  | .int _, .str _ => true | .str _, .int _ => true | .bl _, .str _ => true | .str _, .bl _ => true
  | _, _ => false
noncomputable def rEq : R2 := fun x y H Q => scal x y = true ∧ Q (.bl (decide (x = y))) H
noncomputable def rNe : R2 := fun x y H Q => scal x y = true ∧ Q (.bl (!decide (x = y))) H
theorem dec_int {i j : Int} : decide (V.int i = V.int j) = (i == j) := by
  rw [Bool.eq_iff_iff]
  simp
theorem dec_bl {i j : Bool} : decide (V.bl i = V.bl j) = (i == j) := by
  rw [Bool.eq_iff_iff]
  simp
theorem dec_str {i j : Str} : decide (V.str i = V.str j) = (i == j) := by
  rw [Bool.eq_iff_iff]
  simp
theorem dec_byt {i j : Array UInt8} : decide (V.byt i = V.byt j) = (i.toList == j.toList) := by
  rw [Bool.eq_iff_iff]
  cases i
  cases j
  simp
section
variable {X : Cx} {a b c : Expr} {ta tb tc : TE} {pos : Pos}
theorem fin_bl {pins : List (Addr × Obj)} {σ : St} {H : Hp} {s : Shared} {Q : VK} {k k' : Bool} (I : Inv X pins σ H s) (q : Q (.bl k) H) (e : k = k') : EP X pins σ Q (.bool k') s := by
  subst e
  exact ⟨.bl k, H, I, rfl, q⟩
theorem op_eq : OpR X (compareOp .Eq) rEq := by
  intro pins s σ H x y v u Q I rx ry h
  obtain ⟨hs, q⟩ := h
  cases x with
  | non =>
    cases rx
    cases y with
    | non => cases ry; exact PySem.EqNone.eq_none_none (fin_bl I q (by simp))
    | bl j => cases ry; exact PySem.EqNone.eq_none_bool (fin_bl I q (by simp))
    | int j => obtain ⟨t', rfl⟩ := ry; exact PySem.EqNone.eq_none_int (fin_bl I q (by simp))
    | str j => obtain ⟨t', rfl⟩ := ry; exact PySem.EqNone.eq_none_str (fin_bl I q (by simp))
    | _ => exact absurd (show false = true from hs) Bool.false_ne_true
  | bl i =>
    cases rx
    cases y with
    | non => cases ry; exact PySem.EqNone.eq_bool_none (fin_bl I q (by simp))
    | bl j => cases ry; exact eq_bool (fin_bl I q dec_bl)
    | str j => obtain ⟨t', rfl⟩ := ry; exact PySem.EqMixed.eq_bool_str (fin_bl I q (by simp))
    | _ => exact absurd (show false = true from hs) Bool.false_ne_true
  | int i =>
    obtain ⟨t, rfl⟩ := rx
    cases y with
    | non => cases ry; exact PySem.EqNone.eq_int_none (fin_bl I q (by simp))
    | int j => obtain ⟨t', rfl⟩ := ry; exact eq_int (fin_bl I q dec_int)
    | str j => obtain ⟨t', rfl⟩ := ry; exact PySem.EqMixed.eq_int_str (fin_bl I q (by simp))
    | _ => exact absurd (show false = true from hs) Bool.false_ne_true
  | str i =>
    obtain ⟨t, rfl⟩ := rx
    cases y with
    | non => cases ry; exact PySem.EqNone.eq_str_none (fin_bl I q (by simp))
    | bl j => cases ry; exact PySem.EqMixed.eq_str_bool (fin_bl I q (by simp))
    | int j => obtain ⟨t', rfl⟩ := ry; exact PySem.EqMixed.eq_str_int (fin_bl I q (by simp))
    | str j => obtain ⟨t', rfl⟩ := ry; exact eq_str (fin_bl I q dec_str)
    | _ => exact absurd (show false = true from hs) Bool.false_ne_true
  | byt i =>
    obtain ⟨t, rfl⟩ := rx
    cases y with
    | byt j => obtain ⟨t', rfl⟩ := ry; exact PySem.W.eq_bytes (fin_bl I q dec_byt)
    | _ => exact absurd (show false = true from hs) Bool.false_ne_true
  | _ => cases y <;> exact absurd (show false = true from hs) Bool.false_ne_true
theorem op_ne : OpR X (compareOp .NotEq) rNe := by
  intro pins s σ H x y v u Q I rx ry h
  obtain ⟨hs, q⟩ := h
  cases x with
  | non =>
    cases rx
    cases y with
    | non => cases ry; exact PySem.EqNone.ne_none_none (fin_bl I q (by simp))
    | bl j => cases ry; exact PySem.EqNone.ne_none_bool (fin_bl I q (by simp))
    | int j => obtain ⟨t', rfl⟩ := ry; exact PySem.EqNone.ne_none_int (fin_bl I q (by simp))
    | str j => obtain ⟨t', rfl⟩ := ry; exact PySem.EqNone.ne_none_str (fin_bl I q (by simp))
    | _ => exact absurd (show false = true from hs) Bool.false_ne_true
  | bl i =>
    cases rx
    cases y with
    | non => cases ry; exact PySem.EqNone.ne_bool_none (fin_bl I q (by simp))
    | bl j => cases ry; exact ne_bool (fin_bl I q (congrArg not dec_bl))
    | str j => obtain ⟨t', rfl⟩ := ry; exact PySem.EqMixed.ne_bool_str (fin_bl I q (by simp))
    | _ => exact absurd (show false = true from hs) Bool.false_ne_true
  | int i =>
    obtain ⟨t, rfl⟩ := rx
    cases y with
    | non => cases ry; exact PySem.EqNone.ne_int_none (fin_bl I q (by simp))
    | int j => obtain ⟨t', rfl⟩ := ry; exact ne_int (fin_bl I q (congrArg not dec_int))
    | str j => obtain ⟨t', rfl⟩ := ry; exact PySem.EqMixed.ne_int_str (fin_bl I q (by simp))
    | _ => exact absurd (show false = true from hs) Bool.false_ne_true
  | str i =>
    obtain ⟨t, rfl⟩ := rx
    cases y with
    | non => cases ry; exact PySem.EqNone.ne_str_none (fin_bl I q (by simp))
    | bl j => cases ry; exact PySem.EqMixed.ne_str_bool (fin_bl I q (by simp))
    | int j => obtain ⟨t', rfl⟩ := ry; exact PySem.EqMixed.ne_str_int (fin_bl I q (by simp))
    | str j => obtain ⟨t', rfl⟩ := ry; exact ne_str (fin_bl I q (congrArg not dec_str))
    | _ => exact absurd (show false = true from hs) Bool.false_ne_true
  | byt i =>
    obtain ⟨t, rfl⟩ := rx
    cases y with
    | byt j => obtain ⟨t', rfl⟩ := ry; exact PySem.W.ne_bytes (fin_bl I q (congrArg not dec_byt))
    | _ => exact absurd (show false = true from hs) Bool.false_ne_true
  | _ => cases y <;> exact absurd (show false = true from hs) Bool.false_ne_true
theorem op_lt : OpR X (compareOp .Lt) (rI0 fun i j => .bl (decide (i < j))) := opB0 fun _ _ _ _ _ _ _ q => lt_int q
theorem op_le : OpR X (compareOp .LtE) (rI0 fun i j => .bl (decide (i ≤ j))) := opB0 fun _ _ _ _ _ _ _ q => le_int q
theorem op_gt : OpR X (compareOp .Gt) (rI0 fun i j => .bl (decide (j < i))) := opB0 fun _ _ _ _ _ _ _ q => gt_int q
theorem nomark (b : Expr) {op : CmpOp} (h : op ≠ .In := by decide) (h2 : op ≠ .NotIn := by decide) : behindInMarks op b = false := by
  have e1 : (op == CmpOp.In) = false := by cases op <;> first | rfl | exact absurd rfl h
  have e2 : (op == CmpOp.NotIn) = false := by cases op <;> first | rfl | exact absurd rfl h2
  cases b <;> simp [behindInMarks, e1, e2]
theorem pe_cmpR {op : CmpOp} {r : R2} (ho : OpR X (compareOp op) r) (ha : PE X a ta) (hb : PE X b tb) (hm : behindInMarks op b = false) : PE X (.Compare a [op] [b] pos) (tOp r ta tb) := by
  intro pins s σ H Q I h
  exact wpAny_Compare1 (binT ha hb I h fun v u s2 x y H2 I2 rx ry q => ho pins s2 σ H2 x y v u Q I2 rx ry q) hm
noncomputable def tTest (t : TE) : TT := fun σ H Q => t σ H fun x H' => ∃ k, x = .bl k ∧ Q k H'
theorem pt_cmpR {op : CmpOp} {r : R2} (ho : OpR X (compareOp op) r) (ha : PE X a ta) (hb : PE X b tb) (hm : behindInMarks op b = false) : PT X (.Compare a [op] [b] pos) (tTest (tOp r ta tb)) := by
  intro pins s σ H Q I h
  refine wpAny_isTrue_Compare1 (thn (ha pins s σ H _ I h) fun v s1 ⟨x, H1, I1, r1, q1⟩ => thn (hb pins s1 σ H1 _ I1 q1) fun u s2 ⟨y, H2, I2, r2, q2⟩ =>
    thn (ho pins s2 σ H2 x y v u _ I2 r1 r2 q2) fun c s3 ⟨z, H3, I3, r3, k, e, q3⟩ => ?_) hm
  subst e
  cases r3
  exact wpAny_truthy_bool ⟨H3, I3, q3⟩
noncomputable def tChain (r r' : R2) (ta tb tc : TE) : TE := fun σ H Q => ta σ H fun x H1 => tb σ H1 fun y H2 => r x y H2 fun z H3 => ∃ k, z = .bl k ∧
  (if k = true then tc σ H3 fun w' H4 => r' y w' H4 Q else Q (.bl false) H3)
theorem pe_chain {op op' : CmpOp} {r r' : R2} (ho : OpR X (compareOp op) r) (ho' : OpR X (compareOp op') r') (ha : PE X a ta) (hb : PE X b tb) (hc : PE X c tc)
    (hm : lastMarks [op, op'] [b, c] = false := by with_unfolding_all rfl) : PE X (.Compare a [op, op'] [b, c] pos) (tChain r r' ta tb tc) := by
  intro pins s σ H Q I h
  refine Compare_chain (thn (ha pins s σ H _ I h) fun v s1 ⟨x, H1, I1, r1, q1⟩ => chain_link (thn (hb pins s1 σ H1 _ I1 q1) fun u s2 ⟨y, H2, I2, r2, q2⟩ =>
    thn (ho pins s2 σ H2 x y v u _ I2 r1 r2 q2) fun d s3 ⟨z, H3, I3, r3, k, e, q3⟩ => ?_)) hm
  subst e
  cases r3
  refine wpAny_truthy_bool ?_
  cases k with
  | false => exact ite_ff ⟨.bl false, H3, I3, rfl, q3⟩
  | true => exact ite_tt (chain_last (thn (hc pins s3 σ H3 _ I3 q3) fun w' s4 zq3 => by obtain ⟨z', H4, I4, r4, q4⟩ := zq3; exact (ho' pins s4 σ H4 y z' u w' Q I4 r2 r4 q4)))
theorem line63 : (sizeLine : Nat) < 2 ^ 63 := by rw [sizeLine_eq]; decide
theorem op_add_str : OpR X (binaryOp .Add) (fun x y H Q => ∃ i j, x = .str i ∧ y = .str j ∧ i.length + j.length ≤ sizeLine ∧ Q (.str (i ++ j)) H) := by
  intro pins s σ H x y v u Q I rx ry h
  obtain ⟨i, j, rfl, rfl, hz, q⟩ := h
  obtain ⟨t, rfl⟩ := rx
  obtain ⟨t', rfl⟩ := ry
  exact add_str (fun t' tk => ⟨.str (i ++ j), H, I.tok _, ⟨_, rfl⟩, q⟩) hz
theorem vals1 {x : V} {us : List Value} (r : Vals [x] us) : ∃ u, us = [u] ∧ RelV x u := by
  cases r with
  | cons r1 r2 => cases r2; exact ⟨_, rfl, r1⟩
theorem vals2 {x y : V} {us : List Value} (r : Vals [x, y] us) : ∃ u w', us = [u, w'] ∧ RelV x u ∧ RelV y w' := by
  cases r with
  | cons r1 r2 =>
    cases r2 with
    | cons r3 r4 => cases r4; exact ⟨_, _, rfl, r1, r3⟩
theorem call_max2 (hc : X.calm = true) : CallR X (.builtin "max") (fun xs H Q => ∃ i j, xs = [.int i, .int j] ∧ Q (.int (if j > i then j else i)) H) := by
  intro pins s σ H xs us Q I r h
  obtain ⟨i, j, rfl, q⟩ := h
  obtain ⟨u, w', rfl, ⟨t, rfl⟩, ⟨t', rfl⟩⟩ := vals2 r
  refine max_two_ints (I.ok.hd hc) fun h' tk k => ⟨_, H, I.kept k, ?_, q⟩
  by_cases hj : j > i
  · rw [if_pos hj, if_pos hj]; exact ⟨_, rfl⟩
  · rw [if_neg hj, if_neg hj]; exact ⟨_, rfl⟩
theorem call_min2 (hc : X.calm = true) : CallR X (.builtin "min") (fun xs H Q => ∃ i j, xs = [.int i, .int j] ∧ Q (.int (if j < i then j else i)) H) := by
  intro pins s σ H xs us Q I r h
  obtain ⟨i, j, rfl, q⟩ := h
  obtain ⟨u, w', rfl, ⟨t, rfl⟩, ⟨t', rfl⟩⟩ := vals2 r
  refine min_two_ints (I.ok.hd hc) fun h' tk k => ⟨_, H, I.kept k, ?_, q⟩
  by_cases hj : j < i
  · rw [if_pos hj, if_pos hj]; exact ⟨_, rfl⟩
  · rw [if_neg hj, if_neg hj]; exact ⟨_, rfl⟩
end
end L2
namespace L2
open PySem PySem.Spec PyProof.Rows
structure ObjM (h : Heap) (x dx C : Addr) (mA : Str → Option Value) : Prop where
  obj : h.get? x = some (PySem.W.instObj C dx)
  ns : h.Ns1 dx mA
  ne : dx ≠ x
theorem lookIn_ns {h : Heap} {dx : Addr} {mA : Str → Option Value} (n : h.Ns1 dx mA) : ∃ od, h.get? dx = some od ∧ ∀ name, PySem.W.lookIn name od = some (mA name) := by
  obtain ⟨o, es, ep, ho, hd, hk, _, hm⟩ := n
  refine ⟨o, ho, fun name => ?_⟩
  have e := hm name
  unfold nsFind findBy at e
  rw [← Array.find?_toList] at e
  unfold PySem.W.lookIn
  rw [hd]
  dsimp only
  split
  · rename_i y q
    rw [q] at e
    exact congrArg some e
  · rename_i q
    rw [q] at e
    have a : es.toList.any (·.refKey) = false := by
      rw [List.any_eq_false]
      intro y hy
      obtain ⟨z, t, hkey⟩ := hk y (Array.mem_toList_iff.mp hy)
      simp [DictEntry.refKey, hkey]
    have a' : ¬ es.toList.any (·.refKey) = true := by rw [a]; exact Bool.false_ne_true
    rw [if_neg a']
    exact congrArg some e
theorem ObjM.look {h : Heap} {x dx C : Addr} {mA : Str → Option Value} (I : ObjM h x dx C mA) : ∃ od, PySem.W.InstAt h x (PySem.W.instObj C dx) C (some od) ∧ ∀ name, PySem.W.lookIn name od = some (mA name) :=
  let ⟨od, ho, hl⟩ := lookIn_ns I.ns
  ⟨od, ⟨I.obj, rfl, rfl, ho⟩, hl⟩
section
variable {prog : Program} {w : World} {A : Around} {E : Value → Shared → Prop} {s : Shared} {K : PySem.W.Frag} {x dx C f : Addr} {mA : Str → Option Value} {name : Str} {v : Value}
theorem get_map {expr : Bool} {Q : Value → Shared → Prop} (X : K.In s.heap) (I : ObjM s.heap x dx C mA) (hg : PySem.W.plainGet K C name = true) (hh : PySem.W.hasDictIn K C = true)
    (ha : PySem.W.findIn K (.ref C) name = some none) (hv : mA name = some v) (hv' : PySem.W.handedIn v = true) (h : Q v { s with toks := s.toks + 1 }) :
    wpAny (model prog w) A (getAttr (.ref x) name expr) Q E s := by
  obtain ⟨od, J, hl⟩ := I.look
  exact PySem.W.get_value X J (PySem.W.plainGet_of hg).1 (PySem.W.findObj_own hh ha rfl (by rw [hl, hv])) hv' h
theorem get_meth {pl : Sem Bool} {Q : Value × List Value → Shared → Prop} (X : K.In s.heap) (I : ObjM s.heap x dx C mA) (hg : PySem.W.plainGet K C name = true)
    (hf : PySem.W.findIn K (.ref C) name = some (some (.ref f))) (ht : PySem.W.isFn K (.ref f) = true) (hv : mA name = none) (h : Q (.ref f, [.ref x]) s) :
    wpAny (model prog w) A (getMethod (.ref x) name pl) Q E s := by
  obtain ⟨od, J, hl⟩ := I.look
  exact PySem.W.method_fn X J (PySem.W.plainGet_of hg).1 (PySem.W.plainGet_of hg).2 hf (beq_iff_eq.mp ht) (by show (PySem.W.lookIn name od).map (·.isSome) = some false; rw [hl, hv]; rfl) h
theorem set_map {ns : List Str} {Q : Unit → Shared → Prop} (X : K.In s.heap) (I : ObjM s.heap x dx C mA)
    (hs : PySem.W.findIn K (.ref C) "__setattr__" = some (some (.builtin "object.__setattr__"))) (hp : PySem.W.plainOver K C = true) (ht : PySem.W.takerIn K C name = some none) (hh : PySem.W.hasDictIn K C = true)
    (hw : PySem.Within mA ns) (hsz : ns.length ≤ sizeLine)
    (h : ∀ h', ObjM h' x dx C (fun y => if y = name then some v else mA y) → Heap.SameBut dx s.heap h' → Q () { s with heap := h', toks := s.toks + 2 }) :
    wpAny (model prog w) A (setAttr (.ref x) name v) Q E s := by
  obtain ⟨od, J, hl⟩ := I.look
  refine PySem.W.set_plain X J hs (PySem.W.osa_open (s := { s with toks := s.toks + 1 }) (r := none) X J hp ht fun b => ?_)
  obtain ⟨cd, hc, hd'⟩ := PySem.W.any_some hh
  have hx : s.heap.get? x = some ⟨.ref C, some dx, .plain, #[]⟩ := I.obj
  refine wpAny_bind (wpAny_pure (wpAny_bind (wpAny_bind (wpAny_loadPart hx (wpAny_bind (PySem.W.Looks.here (s := { s with toks := s.toks + 1 }) (PySem.W.looks_clsIn X hc) ?_))))))
  rw [hd']
  refine wpAny_pure (a := some dx) (wpAny_bind (wpAny_pure (wpAny_bind ?_)))
  refine wpAny_nsSet1 (s := { s with toks := s.toks + 1 }) I.ns fun h' hn2 hs2 => ?_
  obtain ⟨oD, esD, epD, hoD, hdD, hcD⟩ := hn2.count (PySem.Within.cons name v hw)
  refine wpAny_bind (wpAny_lookBehind hoD (by rw [hdD]; exact pastItsLine_dict (Nat.le_trans hcD (by rw [List.length_cons]; omega))) ?_)
  exact wpAny_pure (h _ ⟨(hs2.2 _ (Ne.symm I.ne)).trans I.obj, hn2, I.ne⟩ hs2)
theorem make_map {R : Result → Shared → Prop} {vs : List Value} {kw : List (Str × Value)} (X : K.In s.heap) (hm : PySem.W.makesIn K C = true)
    (hi : PySem.W.findIn K (.ref C) "__init__" = some (some (.ref f))) (hf : PySem.W.typeIn K (.ref f) = some (.type "function"))
    (h : codeAny (model prog w) (A.under (.builtin "type.__call__" ⟨.ref C :: vs, kw⟩)) (.call (.ref f) ⟨.ref (s.heap.objs.size + 1) :: vs, kw⟩) (PySem.W.InitBack (s.heap.objs.size + 1) R)
      { s with heap := (s.heap.push PySem.W.emptyDict).push (PySem.W.instObj C s.heap.objs.size) }) :
    codeAny (model prog w) A (.call (.ref C) ⟨vs, kw⟩) R s := by
  obtain ⟨hh, g, d, t, os⟩ := s
  exact PySem.W.make_core (PySem.W.makes_of X hm) (PySem.W.looks_findIn X hi) (fun self => PySem.W.bind_fn X self hf) (.inl rfl) h
end
noncomputable def putF (f : Str) (v : V) : List (Str × V) → List (Str × V)
  | [] => [(f, v)]
  | (g, x) :: r => if g = f then (g, v) :: r else (g, x) :: putF f v r
theorem lookup_putF (f g : Str) (v : V) : ∀ fs : List (Str × V), (putF f v fs).lookup g = if g = f then some v else fs.lookup g
  | [] => by
    show List.lookup g [(f, v)] = _
    by_cases h : g = f
    · have hb : (g == f) = true := beq_iff_eq.mpr h
      simp only [List.lookup, hb, if_pos h]
    · have hb : (g == f) = false := beq_eq_false_iff_ne.mpr h
      simp only [List.lookup, hb, if_neg h]
  | (k, x) :: r => by
    have ih := lookup_putF f g v r
    rw [show putF f v ((k, x) :: r) = (if k = f then (k, v) :: r else (k, x) :: putF f v r) from rfl]
    by_cases hk : k = f
    · rw [if_pos hk]
      by_cases h : g = k
      · have hb : (g == k) = true := beq_iff_eq.mpr h
        simp only [List.lookup, hb, if_pos (h.trans hk)]
      · have hb : (g == k) = false := beq_eq_false_iff_ne.mpr h
        simp only [List.lookup, hb, if_neg (fun e : g = f => h (e.trans hk.symm))]
    · rw [if_neg hk]
      by_cases h : g = k
      · have hb : (g == k) = true := beq_iff_eq.mpr h
        simp only [List.lookup, hb, if_neg (fun e : g = f => hk (h.symm.trans e))]
      · have hb : (g == k) = false := beq_eq_false_iff_ne.mpr h
        simp only [List.lookup, hb]
        exact ih
theorem keys_putF (f : Str) (v : V) : ∀ fs : List (Str × V), f ∈ (putF f v fs).map (·.1) ∧ ∀ g, g ∈ fs.map (·.1) → g ∈ (putF f v fs).map (·.1)
  | [] => ⟨by simp [putF], fun g h => by simp at h⟩
  | (k, x) :: r => by
    obtain ⟨i1, i2⟩ := keys_putF f v r
    rw [show putF f v ((k, x) :: r) = (if k = f then (k, v) :: r else (k, x) :: putF f v r) from rfl]
    by_cases hk : k = f
    · rw [if_pos hk]
      subst hk
      exact ⟨by simp, fun g h => by simpa using h⟩
    · rw [if_neg hk]
      refine ⟨?_, fun g h => ?_⟩
      · rw [List.map_cons]
        exact List.mem_cons_of_mem _ i1
      · rw [List.map_cons] at h ⊢
        rcases List.mem_cons.mp h with e | e
        · exact List.mem_cons.mpr (.inl e)
        · exact List.mem_cons_of_mem _ (i2 g e)
theorem length_putF (f : Str) (v : V) : ∀ fs : List (Str × V), (putF f v fs).length ≤ fs.length + 1
  | [] => by simp [putF]
  | (k, x) :: r => by
    have ih := length_putF f v r
    rw [show putF f v ((k, x) :: r) = (if k = f then (k, v) :: r else (k, x) :: putF f v r) from rfl]
    by_cases hk : k = f
    · rw [if_pos hk, List.length_cons, List.length_cons]; omega
    · rw [if_neg hk, List.length_cons, List.length_cons]; omega
theorem RelO.some_of {v : V} {o : Option Value} (r : RelO (some v) o) : ∃ u, o = some u ∧ RelV v u := by
  cases o with
  | none => exact (show False from r).elim
  | some u => exact ⟨u, rfl, r⟩
theorem RelO.none_of {o : Option Value} (r : RelO none o) : o = none := by
  cases o with
  | none => rfl
  | some u => exact (show False from r).elim
theorem handed_of {v : V} {u : Value} (r : RelV v u) : PySem.W.handedIn u = true := by
  cases v with
  | non => cases (show u = Value.none from r); rfl
  | bl b => cases (show u = Value.bool b from r); rfl
  | int i => obtain ⟨t, e⟩ := (show ∃ t, u = Value.int i t from r); cases e; rfl
  | str x => obtain ⟨t, e⟩ := (show ∃ t, u = Value.str x t from r); cases e; rfl
  | byt b => obtain ⟨t, e⟩ := (show ∃ t, u = Value.bytes b t from r); cases e; rfl
  | flt b => obtain ⟨t, e⟩ := (show ∃ t, u = Value.float b t from r); cases e; rfl
  | ref a => cases (show u = Value.ref a from r); rfl
  | ty n => cases (show u = Value.type n from r); rfl
section
variable {P : Program} {w : World} {H H' : Hp} {h h' : Heap} {a C dx : Addr} {fs fs' : List (Str × V)}
theorem ins_get (hok : HOk P w H h) (e : H a = some (.ins C dx fs)) : ∃ mA, ObjM h a dx C mA ∧ (∀ f, RelO (fs.lookup f) (mA f)) ∧ PySem.Within mA (fs.map (·.1)) ∧ fs.length ≤ 1000 ∧ H dx = some (.own a) := by
  obtain ⟨d, z, ne, ob, mA, n, r, q⟩ := (show ObjOk P w H h a (.ins C dx fs) from hok a _ e)
  exact ⟨mA, ⟨ob, n, ne⟩, r, q, z, d⟩
end
structure Cls (K : PySem.W.Frag) (C : Addr) : Prop where
  pg : PySem.W.plainGet K C Str.empty = true
  hd : PySem.W.hasDictIn K C = true
  po : PySem.W.plainOver K C = true
  sa : PySem.W.findIn K (.ref C) "__setattr__" = some (some (.builtin "object.__setattr__"))
theorem Cls.get {K : PySem.W.Frag} {C : Addr} (c : Cls K C) (f : Str) : PySem.W.plainGet K C f = true := c.pg
noncomputable def NoAttr (K : PySem.W.Frag) (C : Addr) (f : Str) : Prop := PySem.W.findIn K (.ref C) f = some none
theorem NoAttr.taker {K : PySem.W.Frag} {C : Addr} {f : Str} (n : NoAttr K C f) : PySem.W.takerIn K C f = some none := by
  unfold PySem.W.takerIn
  rw [show PySem.W.findIn K (.ref C) f = some none from n]
  rfl
structure Meth (K : PySem.W.Frag) (C : Addr) (m : Str) (f : Addr) : Prop where
  at_ : PySem.W.findIn K (.ref C) m = some (some (.ref f))
  fn : PySem.W.isFn K (.ref f) = true
  kp : PySem.W.keepIn K (.ref f) = true
section
variable {X : Cx} {pins : List (Addr × Obj)} {σ : St} {H : Hp} {s : Shared} {a C dx : Addr} {fs : List (Str × V)} {f : Str} {v : V} {A : Around} {E : Value → Shared → Prop}
theorem getattr_ok {b : Bool} {Q : Value → Shared → Prop} (I : Inv X pins σ H s) (e : H a = some (.ins C dx fs)) (c : Cls X.K C) (n : NoAttr X.K C f) (l : fs.lookup f = some v)
    (h : ∀ u s', Inv X pins σ H s' → RelV v u → Q u s') : wpAny (model X.prog X.w) A (getAttr (.ref a) f b) Q E s := by
  obtain ⟨mA, O, r, _, _, _⟩ := ins_get I.hok e
  obtain ⟨u, hu, ru⟩ := RelO.some_of (v := v) (o := mA f) (by rw [← l]; exact r f)
  exact get_map I.kIn O (c.get f) c.hd n hu (handed_of ru) (h u _ (I.tok _) ru)
theorem getmeth_ok {m : Str} {g : Addr} {pl : Sem Bool} {Q : Value × List Value → Shared → Prop} (I : Inv X pins σ H s) (e : H a = some (.ins C dx fs)) (c : Cls X.K C) (k : Meth X.K C m g) (l : fs.lookup m = none)
    (h : Q (.ref g, [.ref a]) s) : wpAny (model X.prog X.w) A (getMethod (.ref a) m pl) Q E s := by
  obtain ⟨mA, O, r, _, _, _⟩ := ins_get I.hok e
  have hn : mA m = none := RelO.none_of (by rw [← l]; exact r m)
  exact get_meth I.kIn O (c.get m) k.at_ k.fn hn h
theorem setattr_ok {y : V} {u : Value} {Q : Unit → Shared → Prop} (I : Inv X pins σ H s) (e : H a = some (.ins C dx fs)) (c : Cls X.K C) (n : NoAttr X.K C f) (hl : fs.length < 1000) (ry : RelV y u)
    (h : ∀ s', Inv X pins σ (upd H a (.ins C dx (putF f y fs))) s' → Q () s') : wpAny (model X.prog X.w) A (setAttr (.ref a) f u) Q E s := by
  obtain ⟨mA, O, r, wi, _, ho⟩ := ins_get I.hok e
  have hz : (fs.map (·.1)).length ≤ sizeLine := by rw [List.length_map, sizeLine_eq]; omega
  refine set_map I.kIn O c.sa c.po n.taker c.hd wi hz fun h' O' sb => h _ ?_
  have hd : ∃ o, h'.get? dx = some o := let ⟨o, _, _, e', _⟩ := O'.ns; ⟨o, e'⟩
  refine I.write (x := a) (e := dx) (by rw [e]; exact True.intro) (.inr ho) (fun b q hb z => (sb.2 b hb).trans z) hd ?_
  refine ⟨by rw [upd_ne O.ne]; exact ho, ?_, O.ne, O'.obj, _, O'.ns, fun g => ?_, fun g hg => ?_⟩
  · have := length_putF f y fs; omega
  · show RelO ((putF f y fs).lookup g) (if g = f then some u else mA g)
    rw [lookup_putF]
    by_cases q : g = f
    · rw [if_pos q, if_pos q]; exact ry
    · rw [if_neg q, if_neg q]; exact r g
  · by_cases q : g = f
    · rw [q]; exact (keys_putF f y fs).1
    · refine (keys_putF f y fs).2 g (wi g fun z => hg ?_)
      show (if g = f then some u else mA g) = none
      rw [if_neg q]; exact z
theorem Inv.made (I : Inv X pins σ H s) : Inv X pins σ (upd (upd H s.heap.objs.size (.own (s.heap.objs.size + 1))) (s.heap.objs.size + 1) (.ins C s.heap.objs.size []))
    { s with heap := (s.heap.push PySem.W.emptyDict).push (PySem.W.instObj C s.heap.objs.size) } := by
  have e1 : (s.heap.push PySem.W.emptyDict).get? s.heap.objs.size = some PySem.W.emptyDict := Heap.get?_push_size s.heap rfl
  have e2 : ((s.heap.push PySem.W.emptyDict).push (PySem.W.instObj C s.heap.objs.size)).get? (s.heap.objs.size + 1) = some (PySem.W.instObj C s.heap.objs.size) := by
    have := Heap.get?_push_size (s.heap.push PySem.W.emptyDict) (o := PySem.W.instObj C s.heap.objs.size) rfl
    rwa [Heap.size_push] at this
  have e3 : (s.heap.push PySem.W.emptyDict).Ns s.heap.objs.size (fun _ => none) := ⟨PySem.W.emptyDict, #[], _, e1, rfl, (fun e he => absurd he (by simp)), fun _ => rfl⟩
  have I1 := I.laid (a := s.heap.objs.size) (o := .own (s.heap.objs.size + 1)) (h' := s.heap.push PySem.W.emptyDict) (t' := s.toks) (fun b u q => Heap.get?_push_of_some _ q) (Nat.le_refl _) ⟨_, e1⟩
  refine I1.laid (a := s.heap.objs.size + 1) (o := .ins C s.heap.objs.size []) (t' := s.toks) (fun b u q => Heap.get?_push_of_some _ q) (Nat.le_of_eq (Heap.size_push _ _)) ?_
  have ne : s.heap.objs.size ≠ s.heap.objs.size + 1 := Nat.ne_of_lt (Nat.lt_succ_self _)
  refine ⟨by rw [upd_ne ne, upd_same], Nat.zero_le _, ne, e2, fun _ => none, (Heap.Ns1.of_empty e3).at fun o q => Heap.get?_push_of_some _ q, fun _ => True.intro, fun y hy => absurd rfl hy⟩
theorem attr_of {prog : Program} {w : World} {env : Env} {e : Expr} {f : Str} {pos : Pos} {s : Shared} {Q : Value → Shared → Prop} (hb : attributeBase e f env (eval e env) = eval e env)
    (h : wpAny (model prog w) A (eval e env) (fun o s₁ => wpAny (model prog w) A (getAttr o f true) Q E s₁) E s) : wpAny (model prog w) A (eval (.Attribute e f pos) env) Q E s :=
  Attribute_any_ h (by rw [arm_eval_Attribute, hb])
end
section
variable {X : Cx} {pins : List (Addr × Obj)} {σ : St} {H : Hp} {s : Shared} {A : Around} {E : Value → Shared → Prop} {Q : Value → Shared → Prop} {c : Value} {b : Bool}
inductive TyOf (K : PySem.W.Frag) (H : Hp) : V → Value → Prop where
  | non : TyOf K H .non (.type "NoneType")
  | bl (x : Bool) : TyOf K H (.bl x) (.type "bool")
  | int (i : Int) : TyOf K H (.int i) (.type "int")
  | str (x : Str) : TyOf K H (.str x) (.type "str")
  | flt (x : UInt64) : TyOf K H (.flt x) (.type "float")
  | lst {a : Addr} {xs : List V} (e : H a = some (.lst xs)) : TyOf K H (.ref a) (.type "list")
  | frz {a : Addr} {o : Obj} {xs : List V} (e : H a = some (.frz o (.lst xs))) : TyOf K H (.ref a) (.type "list")
  | tup {a : Addr} {xs : List V} (e : H a = some (.tup xs)) : TyOf K H (.ref a) (.type "tuple")
  | dK {a : Addr} {kvs : List (Key × V)} (e : H a = some (.dK kvs)) : TyOf K H (.ref a) (.type "dict")
  | dT {a : Addr} {kvs : List (List Key × V)} (e : H a = some (.dT kvs)) : TyOf K H (.ref a) (.type "dict")
  | ins {a C dx : Addr} {fs : List (Str × V)} (e : H a = some (.ins C dx fs)) (cl : Cls K C) (ha : PySem.W.findIn K (.ref C) "__class__" = some (some (.builtin "object.__class__")))
      (hn : PySem.W.specialIn K (.builtin "object.__class__") "__get__" = some (some (.builtin "getset_descriptor.__get__"))) (htk : PySem.W.takesIn K (.builtin "object.__class__") = some true)
      (hm : PySem.W.mroIn K C (.type "object") = some true) : TyOf K H (.ref a) (.ref C)
theorem isinst_ok {x : V} {u t : Value} (I : Inv X pins σ H s) (rx : RelV x u) (ty : TyOf X.K H x t) (e : PySem.W.kitOne X.K t c = some b) (h : ∀ tk, Q (.bool b) { s with toks := tk }) :
    wpAny (model X.prog X.w) A (call (.builtin "isinstance") [u, c]) Q E s := by
  cases ty with
  | non => cases (show u = Value.none from rx); exact PySem.W.kia_one PySem.W.kitx_none I.kIn True.intro e (fun z => nomatch z) h
  | bl y => cases (show u = Value.bool y from rx); exact PySem.W.kia_one PySem.W.kitx_bool I.kIn True.intro e (fun z => nomatch z) h
  | int i => obtain ⟨t, q⟩ := (show ∃ t, u = Value.int i t from rx); cases q; exact PySem.W.kia_one PySem.W.kitx_int I.kIn True.intro e (fun z => nomatch z) h
  | str y => obtain ⟨t, q⟩ := (show ∃ t, u = Value.str y t from rx); cases q; exact PySem.W.kia_one PySem.W.kitx_str I.kIn True.intro e (fun z => nomatch z) h
  | flt y => obtain ⟨t, q⟩ := (show ∃ t, u = Value.float y t from rx); cases q; exact PySem.W.kia_one PySem.W.kitx_float I.kIn True.intro e (fun z => nomatch z) h
  | @lst a xs ea =>
    cases (show u = Value.ref a from rx)
    obtain ⟨_, _, n, _, h1⟩ := (show ObjOk X.prog X.w H s.heap a (.lst xs) from I.hok a _ ea)
    exact PySem.W.kia_one PySem.W.kitx_list I.kIn ⟨_, h1, rfl⟩ e (fun z => nomatch z) h
  | @frz a ob xs ea =>
    cases (show u = Value.ref a from rx)
    obtain ⟨_, _, _, n, _, h1⟩ := (show ObjOk X.prog X.w H s.heap a (.frz ob (.lst xs)) from I.hok a _ ea)
    exact PySem.W.kia_one PySem.W.kitx_list I.kIn ⟨_, h1, rfl⟩ e (fun z => nomatch z) h
  | @tup a xs ea =>
    cases (show u = Value.ref a from rx)
    obtain ⟨_, _, _, p⟩ := (show ObjOk X.prog X.w H s.heap a (.tup xs) from I.hok a _ ea)
    obtain ⟨o, h1, h2, _⟩ := p
    exact PySem.W.kia_one PySem.W.kitx_tuple I.kIn ⟨o, h1, h2⟩ e (fun z => nomatch z) h
  | @dK a kvs ea =>
    cases (show u = Value.ref a from rx)
    obtain ⟨_, _, vs, _, p⟩ := (show ObjOk X.prog X.w H s.heap a (.dK kvs) from I.hok a _ ea)
    obtain ⟨o, es, ep, h1, h2, _⟩ := p
    exact PySem.W.kia_one PySem.W.kitx_dict I.kIn ⟨o, h1, h2.1⟩ e (fun z => nomatch z) h
  | @dT a kvs ea =>
    cases (show u = Value.ref a from rx)
    obtain ⟨_, _, xs, _, o, es, ep, h1, h2, _⟩ := (show ObjOk X.prog X.w H s.heap a (.dT kvs) from I.hok a _ ea)
    exact PySem.W.kia_one PySem.W.kitx_dict I.kIn ⟨o, h1, h2.1⟩ e (fun z => nomatch z) h
  | @ins a C dx fs ea cl ha hn htk hm =>
    cases (show u = Value.ref a from rx)
    obtain ⟨mA, O, _⟩ := ins_get I.hok ea
    obtain ⟨od, J, _⟩ := O.look
    exact PySem.W.kia_one (PySem.W.kitx_own (cl.get _) cl.hd ha hn htk hm) I.kIn J e (fun z => nomatch z) h
end
end L2
namespace L2
open PySem PySem.Spec PyProof.Rows
structure Room (k : Nat) (A : Around) : Prop where
  hd : A.handled = none
  dp : A.depth + 3 * k + 5 < recursionLimit
  un : A.units + 16 * k + 200 < cLine
theorem Room.mono {j k : Nat} {A : Around} (r : Room k A) (h : j ≤ k) : Room j A := ⟨r.hd, by have := r.dp; omega, by have := r.un; omega⟩
theorem Room.deeper {k : Nat} {A : Around} (r : Room (k + 1) A) (env : Env) : Room k (A.deeper env) :=
  ⟨r.hd, by have := r.dp; show A.depth + 1 + 3 * k + 5 < _; omega, by have := r.un; show A.units + 3 + 16 * k + 200 < _; omega⟩
theorem make_depth {A : Around} {C : Addr} {us : List Value} {kw : List (Str × Value)} : (A.under (.builtin "type.__call__" ⟨.ref C :: us, kw⟩)).depth = A.depth + 1 := by
  first | rfl | simp [Around.under, Code.weight, Code.isCreation, Code.isGuard, Code.isCaller, Code.frames, Code.isFrame, guardIds]
theorem make_units {A : Around} {C : Addr} {us : List Value} {kw : List (Str × Value)} : (A.under (.builtin "type.__call__" ⟨.ref C :: us, kw⟩)).units = A.units + 1 := by
  first | rfl | simp [Around.under, Code.cUnits, Code.frames, Code.isFrame]
theorem Room.make {k : Nat} {A : Around} (r : Room (k + 1) A) (C : Addr) (us : List Value) (kw : List (Str × Value)) : Room k (A.under (.builtin "type.__call__" ⟨.ref C :: us, kw⟩)) :=
  ⟨r.hd, by have := r.dp; rw [make_depth]; omega, by have := r.un; rw [make_units]; omega⟩
theorem Room.depth {k : Nat} {A : Around} (r : Room k A) : A.depth < recursionLimit := by have := r.dp; omega
theorem Room.units {k : Nat} {A : Around} (r : Room k A) : A.units + 64 < cLine := by have := r.un; omega
noncomputable def tNil : TA := fun _ H Q => Q [] H
noncomputable def tCons (ta : TE) (tr : TA) : TA := fun σ H Q => ta σ H fun x H1 => tr σ H1 fun xs H2 => Q (x :: xs) H2
section
variable {X : Cx} {e : Expr} {es : List Expr} {te : TE} {t : TA} {pos : Pos}
theorem pa_nil : PA X [] tNil := fun _ _ _ _ H Q I h => Calls.spliced_nil ⟨[], H, I, .nil, h⟩
theorem pa_cons (ha : PE X e te) (hr : PA X es t) (hs : starEach (e :: es) X.env = (false, eval e X.env) :: starEach es X.env := by rfl) : PA X (e :: es) (tCons te t) := by
  intro pos pins s σ H Q I h
  rw [hs]
  show wpAny _ _ (spliced ((false, eval e X.env) :: backTo pos (starEach es X.env))) _ _ s
  refine Calls.spliced_cons (thn (ha pins s σ H _ I h) fun u s1 zr1774 => ?_)
  obtain ⟨x, H1, I1, r1, q1⟩ := zr1774
  exact thn (hr pos pins s1 σ H1 _ I1 q1) fun us s2 zq4 => by obtain ⟨xs, H2, I2, r2, q2⟩ := zq4; exact (⟨x :: xs, H2, I2, .cons r1 r2, q2⟩)
noncomputable def tTup (t : TA) : TE := fun σ H Q => t σ H fun xs H1 => xs.length ≤ sizeLine ∧ ∀ p, H1 p = none → Q (.ref p) (upd H1 p (.tup xs))
noncomputable def tLst (t : TA) : TE := fun σ H Q => t σ H fun xs H1 => xs.length ≤ sizeLine ∧ ∀ p, H1 p = none → Q (.ref p) (upd H1 p (.lst xs))
theorem pe_tup {x1} (h : PA X es t) : PE X (.Tuple es x1 pos) (tTup t) := by
  intro pins s σ H Q I hq
  refine wpAny_Tuple_spliced (thn (h pos pins s σ H _ I hq) fun us s1 ⟨xs, H1, I1, r, z, q⟩ => ⟨by rw [← r.length]; exact z, ?_⟩)
  have hf : H1 s1.heap.objs.size = none := I1.hok.fresh (Nat.le_refl _)
  refine ⟨.ref s1.heap.objs.size, upd H1 s1.heap.objs.size (.tup xs), I1.laid (t' := s1.toks) (fun b u e => Heap.get?_push_of_some _ e) (Nat.le_refl _) ?_, rfl, q _ hf⟩
  exact ⟨z, us, r, ⟨_, Heap.get?_push_size _ rfl, rfl, _, rfl⟩⟩
theorem pe_lst (h : PA X es t) : PE X (.List es pos) (tLst t) := by
  intro pins s σ H Q I hq
  refine wpAny_List_spliced (thn (h pos pins s σ H _ I hq) fun us s1 ⟨xs, H1, I1, r, z, q⟩ => ⟨by rw [← r.length]; exact z, ?_⟩)
  have hf : H1 s1.heap.objs.size = none := I1.hok.fresh (Nat.le_refl _)
  refine ⟨.ref s1.heap.objs.size, upd H1 s1.heap.objs.size (.lst xs), I1.laid (t' := s1.toks) (fun b u e => Heap.get?_push_of_some _ e) (Nat.le_refl _) ?_, rfl, q _ hf⟩
  exact ⟨z, us, 0, r, Heap.get?_push_size _ rfl⟩
end
noncomputable abbrev Sp := List V → Hp → VK → XK → Prop
noncomputable abbrev CXT := List Env → Hp → Shared → XK → Value → Shared → Prop
structure Env0 (P : Program) (w : World) (K : PySem.W.Frag) (mg : Str → Option Value) (base : Heap) (A : Around) (outer : List Env) (s : Shared) (H : Hp) : Prop where
  frames : A.frames = some outer
  mod : Mod K mg base
  bs : ∀ b o, base.get? b = some o → s.heap.get? b = some o ∧ H b = none
  bsz : base.objs.size ≤ s.heap.objs.size
  funs : s.heap.FunFrames base outer
  frf : ∀ b ∈ frs outer, H b = none
  hok : HOk P w H s.heap
  bare : AllBare s.gens
noncomputable def CE (outer : List Env) (P : Program) (w : World) (H : Hp) (s : Shared) (Q : VK) (u : Value) (s' : Shared) : Prop :=
  ∃ v H', s'.os = s.os ∧ AllBare s'.gens ∧ Un (frs outer) [] H H' s.heap s'.heap ∧ HOk P w H' s'.heap ∧ RelV v u ∧ Q v H'
noncomputable def CR (CX : CXT) (outer : List Env) (P : Program) (w : World) (H : Hp) (s : Shared) (Q : VK) (E : XK) (r : Result) (s' : Shared) : Prop :=
  match r with
  | .ok (.ret u) => CE outer P w H s Q u s'
  | .ok _ => False
  | .error e => CX outer H s E e s'
structure FnOk (P : Program) (w : World) (K : PySem.W.Frag) (mg : Str → Option Value) (base : Heap) (CX : CXT) (k : Nat) (f : Addr) (fd : FuncData) (ps : List Str) (sp : Sp) : Prop where
  len : ∀ vs H Q E, sp vs H Q E → vs.length = ps.length
  run : ∀ (A : Around) (outer : List Env) (s : Shared) (H : Hp) (args : Args) (us : List Value) (vs : List V) (Q : VK) (E : XK), Room k A → Env0 P w K mg base A outer s H → BindsTo s fd args (ps.zip us) → Vals vs us → sp vs H Q E →
    codeAny (model P w) A (.call (.ref f) args) (CR CX outer P w H s Q E) s
theorem Env0.make {P : Program} {w : World} {K : PySem.W.Frag} {mg : Str → Option Value} {base : Heap} {A : Around} {outer : List Env} {s : Shared} {H : Hp} (e : Env0 P w K mg base A outer s H) (C : Addr) (us : List Value) (kw : List (Str × Value)) :
    Env0 P w K mg base (A.under (.builtin "type.__call__" ⟨.ref C :: us, kw⟩)) outer s H := ⟨by first | exact e.frames | (simpa [Around.under, Code.envs, Code.isFrame, pushEnvs] using e.frames), e.mod, e.bs, e.bsz, e.funs, e.frf, e.hok, e.bare⟩
section
variable {X : Cx} {pins : List (Addr × Obj)} {σ : St} {H : Hp} {s s' : Shared}
theorem Inv.env0 (I : Inv X pins σ H s) : Env0 X.prog X.w X.K X.mg X.base X.A X.stack s H :=
  ⟨I.ok.frames, I.ok.mod, I.bs, Nat.le_trans I.ok.bsz I.sz, I.stack, I.stkFree, I.hok, I.bare⟩
theorem Inv.after {Q : VK} {u : Value} (I : Inv X pins σ H s) (h : CE X.stack X.prog X.w H s Q u s') : EP X pins σ Q u s' := by
  obtain ⟨v, H', os, bare, un, hok, r, q⟩ := h
  obtain ⟨hh, g, d, t, os'⟩ := s'
  obtain rfl : os' = s.os := os
  exact ⟨v, H', I.call (h' := hh) (g' := g) (d' := d) (t' := t) (ch := []) un hok bare (fun b z => absurd z (by simp)), r, q⟩
end
noncomputable def tCall (sp : Sp) (dvs : List V) (E : XK) (t : TA) : TE := fun σ H Q => t σ H fun vs H1 => sp (vs ++ dvs) H1 Q E
noncomputable def Binds (K : PySem.W.Frag) (fd : FuncData) (ps : List Str) (ds : List Value) : Prop :=
  ∀ (s : Shared) (us : List Value), K.In s.heap → (us ++ ds).length = ps.length → BindsTo s fd ⟨us, []⟩ (ps.zip (us ++ ds))
theorem Binds.all {K : PySem.W.Frag} {fd : FuncData} {ps : List Str} (h : ∀ us : List Value, us.length = ps.length → bindArgs fd ⟨us, []⟩ = pure (ps.zip us)) : Binds K fd ps [] := fun s us _ hl => by
  rw [List.append_nil] at hl ⊢
  exact .of_eq (h us hl)
noncomputable def Passes (CX : CXT) (X : Cx) (E : XK) : Prop := ∀ (pins : List (Addr × Obj)) (σ : St) (H : Hp) (s : Shared) (e : Value) (s' : Shared), Inv X pins σ H s → CX X.stack H s E e s' → X.xe e s'
section
variable {X : Cx} {CX : CXT} {k : Nat} {f C : Addr} {fd : FuncData} {ps : List Str} {sp : Sp} {dvs : List V} {ds : List Value} {E : XK} {x m : Str} {p pos apos : Pos} {e o : Expr} {es : List Expr} {ta : TE} {t : TA}
theorem run_fn {pins : List (Addr × Obj)} {σ : St} {H : Hp} {s : Shared} {Q : VK} {us : List Value} {vs : List V} (F : FnOk X.prog X.w X.K X.mg X.base CX k f fd ps sp) (hr : Room k X.A) (hb : Binds X.K fd ps ds) (hd : Vals dvs ds) (hx : Passes CX X E)
    (I : Inv X pins σ H s) (r : Vals vs us) (h : sp (vs ++ dvs) H Q E) : wpAny (model X.prog X.w) X.A (call (.ref f) us) (EP X pins σ Q) X.xe s := by
  have r2 : Vals (vs ++ dvs) (us ++ ds) := r.append hd
  have hl : (us ++ ds).length = ps.length := by rw [← r2.length]; exact F.len _ _ _ _ h
  refine wpAny_call (codeAny_mono (F.run X.A X.stack s H ⟨us, []⟩ (us ++ ds) (vs ++ dvs) Q E hr I.env0 (hb s us I.kIn hl) r2 h) fun r s' hq => ?_)
  cases r with
  | error e => exact hx pins σ H s e s' I hq
  | ok fl =>
    cases fl with
    | ret u => exact I.after hq
    | next => exact False.elim hq
    | brk => exact False.elim hq
    | cont => exact False.elim hq
theorem pe_call (F : FnOk X.prog X.w X.K X.mg X.base CX k f fd ps sp) (hr : Room k X.A) (hg : Gl X x) (hm : X.mg x = some (.ref f)) (hk : PySem.W.keepIn X.K (.ref f) = true) (hb : Binds X.K fd ps ds) (hd : Vals dvs ds) (hx : Passes CX X E)
    (ha : PA X (e :: es) t) (hdb : (x == ("__debug__" : Str)) = false := by decide) (he : starEach (e :: es) X.env = (false, eval e X.env) :: starEach es X.env := by rfl) (hpl : (backTo pos (starEach es X.env)).any (·.1) = false := by rfl) :
    PE X (.Call (.Name x p) (e :: es) [] pos) (tCall sp dvs E t) := by
  intro pins s σ H Q I h
  refine wpAny_Call_Name_kw (ld_glob I hg hm ?_ hdb)
  refine PySem.W.callWith_K (h₀ := X.base) I.ok.mod.kin hk (thn (ha pos pins s σ H _ I h) fun us s1 ⟨vs, H1, I1, r, q⟩ => ⟨I1.kIn, ?_⟩) he hpl
  exact run_fn F hr hb hd hx I1 r q
structure Mk (K : PySem.W.Frag) (C f : Addr) : Prop where
  makes : PySem.W.makesIn K C = true
  init : PySem.W.findIn K (.ref C) "__init__" = some (some (.ref f))
  fn : PySem.W.isFn K (.ref f) = true
  kp : PySem.W.keepIn K (.ref C) = true
theorem run_make {pins : List (Addr × Obj)} {σ : St} {H : Hp} {s : Shared} {Q : VK} {us : List Value} {vs : List V} (M : Mk X.K C f) (F : FnOk X.prog X.w X.K X.mg X.base CX k f fd ps sp) (hr : Room (k + 1) X.A) (hb : Binds X.K fd ps ds) (hd : Vals dvs ds)
    (hx : Passes CX X E) (I : Inv X pins σ H s) (r : Vals vs us)
    (h : ∀ x dx, H x = none → H dx = none → dx ≠ x → sp (.ref x :: (vs ++ dvs)) (upd (upd H dx (.own x)) x (.ins C dx [])) (fun v H2 => v = .non ∧ Q (.ref x) H2) E) :
    wpAny (model X.prog X.w) X.A (call (.ref C) us) (EP X pins σ Q) X.xe s := by
  have hq := h (s.heap.objs.size + 1) s.heap.objs.size (I.hok.fresh (Nat.le_succ _)) (I.hok.fresh (Nat.le_refl _)) (Nat.ne_of_lt (Nat.lt_succ_self _))
  have I2 := Inv.made (C := C) I
  have r2 : Vals (V.ref (s.heap.objs.size + 1) :: (vs ++ dvs)) (Value.ref (s.heap.objs.size + 1) :: (us ++ ds)) := .cons rfl (r.append hd)
  have hl : (Value.ref (s.heap.objs.size + 1) :: us ++ ds).length = ps.length := by
    have e := r2.length
    rw [F.len _ _ _ _ hq] at e
    exact e.symm
  refine wpAny_call (make_map (f := f) I.kIn M.makes M.init (beq_iff_eq.mp M.fn) (codeAny_mono (F.run _ X.stack _ _ ⟨Value.ref (s.heap.objs.size + 1) :: us, []⟩ (Value.ref (s.heap.objs.size + 1) :: (us ++ ds)) _ _ E (hr.make C us [])
    (I2.env0.make C us []) (hb _ (Value.ref (s.heap.objs.size + 1) :: us) I2.kIn hl) r2 hq) fun r s' hq' => ?_))
  cases r with
  | error e => exact hx pins σ _ _ e s' I2 hq'
  | ok fl =>
    cases fl with
    | ret u =>
      obtain ⟨v, H', I3, rv, ev, q3⟩ := I2.after hq'
      subst ev
      exact ⟨rv, ⟨V.ref (s.heap.objs.size + 1), H', I3, rfl, q3⟩⟩
    | next => exact False.elim hq'
    | brk => exact False.elim hq'
    | cont => exact False.elim hq'
end
structure FnScope (N P : List Str) (sc : Scope) : Prop where
  kind : sc.kind = .function
  co : sc.isCoroutine = false
  gen : sc.isGenerator = false
  nd : N.Nodup
  pre : N.take P.length = P
  par : ∀ x ∈ P, sc.names.lookup x = some .local ∨ sc.names.lookup x = some .cell
  nofree : ∀ y ∈ sc.names, y.2 ≠ .free
theorem bindL_out {kindOf : Str → Option NameKind} {x : Str} : ∀ {binds : List (Str × Value)} {m : Str → Option Value}, (∀ v, (x, v) ∉ binds) → bindL kindOf binds m x = m x
  | [], _, _ => rfl
  | (n, v) :: r, m, h => by
    unfold bindL
    rw [bindL_out fun w hw => h w (List.mem_cons_of_mem _ hw)]
    split
    · have : x ≠ n := by rintro rfl; exact h v List.mem_cons_self
      simp [this]
    · rfl
theorem bindC_out {kindOf : Str → Option NameKind} {x : Str} : ∀ {binds : List (Str × Value)} {m : Str → Option Value}, (∀ v, (x, v) ∉ binds) → bindC kindOf binds m x = m x
  | [], _, _ => rfl
  | (n, v) :: r, m, h => by
    unfold bindC
    rw [bindC_out fun w hw => h w (List.mem_cons_of_mem _ hw)]
    split
    · rfl
    · have : x ≠ n := by rintro rfl; exact h v List.mem_cons_self
      simp [this]
theorem bindL_get {kindOf : Str → Option NameKind} {x : Str} {v : Value} : ∀ {P : List Str} {vs : List Value} {i : Nat} {m : Str → Option Value}, P.Nodup → P[i]? = some x → vs[i]? = some v → kindOf x = some .local →
    bindL kindOf (P.zip vs) m x = some v
  | [], _, _, _, _, h, _, _ => by simp at h
  | _ :: _, [], _, _, _, _, h, _ => by simp at h
  | p :: P, w :: vs, 0, m, nd, h1, h2, hk => by
    simp at h1 h2; subst h1; subst h2
    show bindL kindOf ((p, w) :: P.zip vs) m p = _
    unfold bindL
    rw [bindL_out fun v hv => (List.nodup_cons.mp nd).1 (List.of_mem_zip hv).1, if_pos hk]
    simp
  | p :: P, w :: vs, i + 1, m, nd, h1, h2, hk => by
    show bindL kindOf ((p, w) :: P.zip vs) m x = _
    unfold bindL
    exact bindL_get (i := i) (List.nodup_cons.mp nd).2 (by simpa using h1) (by simpa using h2) hk
theorem bindC_get {kindOf : Str → Option NameKind} {x : Str} {v : Value} : ∀ {P : List Str} {vs : List Value} {i : Nat} {m : Str → Option Value}, P.Nodup → P[i]? = some x → vs[i]? = some v → kindOf x ≠ some .local →
    bindC kindOf (P.zip vs) m x = some v
  | [], _, _, _, _, h, _, _ => by simp at h
  | _ :: _, [], _, _, _, _, h, _ => by simp at h
  | p :: P, w :: vs, 0, m, nd, h1, h2, hk => by
    simp at h1 h2; subst h1; subst h2
    show bindC kindOf ((p, w) :: P.zip vs) m p = _
    unfold bindC
    rw [bindC_out fun v hv => (List.nodup_cons.mp nd).1 (List.of_mem_zip hv).1, if_neg hk]
    simp
  | p :: P, w :: vs, i + 1, m, nd, h1, h2, hk => by
    show bindC kindOf ((p, w) :: P.zip vs) m x = _
    unfold bindC
    exact bindC_get (i := i) (List.nodup_cons.mp nd).2 (by simpa using h1) (by simpa using h2) hk
noncomputable def start (N : List Str) (vs : List V) : St := vs.map some ++ List.replicate (N.length - vs.length) none
noncomputable def cxOf (CX : CXT) (P : Program) (w : World) (K : PySem.W.Frag) (mg : Str → Option Value) (base : Heap) (N : List Str) (qual : Str) (scope : Scope) (f : Addr) (cd : Value) (A : Around) (outer : List Env) (s : Shared) (H : Hp) (E : XK) : Cx where
  prog := P
  w := w
  K := K
  mg := mg
  base := base
  A := A.deeper (envOfC qual scope s.heap.objs.size f cd)
  N := N
  s₀ := s
  H₀ := H
  env := envOfC qual scope s.heap.objs.size f cd
  outer := outer
  stack := envOfC qual scope s.heap.objs.size f cd :: outer
  ex := []
  calm := true
  fn := fun _ => true
  pn := []
  xe := fun e s' => wpAny (model P w) (A.deeper (envOfC qual scope s.heap.objs.size f cd)) (leaving (envOfC qual scope s.heap.objs.size f cd) e) (fun _ s'' => CX outer H s E e s'') (fun e' s'' => CX outer H s E e' s'') s'
theorem cell_has {sc : Scope} {n : Nat} {x : Str} (h : sc.names.lookup x = some .cell) : ∃ c, (cellsFrom n sc.names []).lookup x = some c := by
  have q := PySem.W.cellsFrom_some sc.names n [] (.inl h)
  exact Option.isSome_iff_exists.mp q
theorem inv_start {CX : CXT} {P : Program} {w : World} {K : PySem.W.Frag} {mg : Str → Option Value} {base : Heap} {N ps : List Str} {qual : Str} {scope : Scope} {f : Addr} {cd : Value} {A : Around} {outer : List Env} {s s1 : Shared} {H : Hp} {E : XK} {us : List Value} {vs : List V}
    (S : FnScope N ps scope) (hd : A.handled = none) (e0 : Env0 P w K mg base A outer s H) (hl : vs.length = ps.length) (r : Vals vs us)
    (x : InCallC s s.heap.objs.size (bindL (envOfC qual scope s.heap.objs.size f cd).kindOf (ps.zip us) fun _ => none) (cellsFrom (s.heap.objs.size + 1) scope.names []) (bindC (envOfC qual scope s.heap.objs.size f cd).kindOf (ps.zip us) fun _ => none) s1) :
    Inv (cxOf CX P w K mg base N qual scope f cd A outer s H E) [] (start N vs) H s1 := by
  have hpl : ps.length ≤ N.length := by have := congrArg List.length S.pre; rw [List.length_take] at this; omega
  obtain ⟨h1, tk, rfl, hk⟩ := x.done
  have noA : ∀ b : Addr, b ∉ (cxOf CX P w K mg base N qual scope f cd A outer s H E).ex := fun b z => absurd (show b ∈ ([] : List Addr) from z) (by simp)
  refine ⟨⟨e0.mod, S.kind, rfl, rfl, Nat.le_refl _, fun y z c h1 h2 => ?_, fun y hy => ?_, fun y c _ h => ?_, fun _ => hd, Around.frames_deeper e0.frames, .inr ⟨rfl, rfl⟩, fun b z => absurd z (noA b), e0.bs, e0.bsz, fun b _ _ => noA b, fun b z => absurd z (noA b), e0.funs, e0.frf⟩,
    rfl, e0.bare, Un.kept hk, ⟨_, x.toInCall.ns, fun i y v h1 h2 h3 => ?_⟩, fun y c h => ⟨_, x.cell y c h⟩, e0.hok.fresh (Nat.le_refl _), fun y c h => ?_, fun p hp => absurd (show p ∈ ([] : List (Addr × Obj)) from hp) (by simp), e0.hok.kept hk, ?_⟩
  · exact name_of_addr x.apart (PySem.mem_of_lookup h1) (PySem.mem_of_lookup h2)
  · have hy : scope.names.lookup y = some .cell ∨ scope.names.lookup y = some .free := hy
    rcases hy with hy | hy
    · exact cell_has hy
    · exact absurd rfl (S.nofree _ (PySem.mem_of_lookup hy))
  · exact Nat.le_of_lt (x.above y c (PySem.mem_of_lookup h))
  · have hi : i < vs.length := by
      unfold start at h2
      by_cases hi : i < vs.length
      · exact hi
      · rw [List.getElem?_append_right (by simpa using hi)] at h2
        rw [List.getElem?_replicate] at h2
        split at h2 <;> cases h2
    have ha : vs[i]? = some v := by
      unfold start at h2
      rw [List.getElem?_append_left (by simpa using hi), List.getElem?_map] at h2
      cases e : vs[i]? with
      | none => rw [e] at h2; cases h2
      | some a => rw [e] at h2; cases h2; rfl
    obtain ⟨u, hu, rv⟩ := r.get ha
    have hp : ps[i]? = some y := by
      rw [← S.pre, List.getElem?_take_of_lt (by omega)]; exact h1
    have ndP : ps.Nodup := by rw [← S.pre]; exact S.nd.sublist (List.take_sublist _ _)
    refine ⟨u, rv, ?_⟩
    rcases S.par y (List.mem_of_getElem? hp) with k | k
    · exact .inl ⟨k, bindL_get ndP hp hu k⟩
    · obtain ⟨c, e⟩ := cell_has (n := s.heap.objs.size + 1) k
      refine .inr ⟨.inl k, c, e, ?_⟩
      have q := x.cell y c e
      rw [bindC_get ndP hp hu (by show scope.names.lookup y ≠ _; rw [k]; decide)] at q
      exact q
  · exact e0.hok.fresh (Nat.le_of_lt (x.above y c (PySem.mem_of_lookup h)))
  · unfold start
    show _ = N.length
    rw [List.length_append, List.length_map, List.length_replicate]
    omega
theorem fn_of {CX : CXT} {P : Program} {w : World} {K : PySem.W.Frag} {mg : Str → Option Value} {base : Heap} {k : Nat} {f : Addr} {name qual : Str} {params : Arguments} {body : List Stmt} {scope : Scope} {dV kV doc pm cdv ct oc : Value} {an od : Option Addr}
    {osl : Array (Option Value)} {N ps : List Str} {sp : Sp} (lk : K.lookup f = some ⟨oc, od, .func (PySem.W.fnOf name qual params body scope dV kV doc pm an cdv ct), osl⟩) (hcd : PySem.W.codeIn K cdv qual = true) (S : FnScope N ps scope)
    (len : ∀ vs H Q E, sp vs H Q E → vs.length = ps.length)
    (hbody : ∀ (A : Around) (outer : List Env) (s : Shared) (H : Hp) (vs : List V) (Q : VK) (E : XK), Room k (A.deeper (envOfC qual scope s.heap.objs.size f cdv)) → sp vs H Q E →
      ∃ t, PSs (cxOf CX P w K mg base N qual scope f cdv A outer s H E) body t ∧ t { nx := fun _ H' => Q .non H', rt := Q } (start N vs) H) :
    FnOk P w K mg base CX (k + 1) f (PySem.W.fnOf name qual params body scope dV kV doc pm an cdv ct) ps sp := by
  refine ⟨len, fun A outer s H args us vs Q E hr e0 hb r hsp => ?_⟩
  have hl := len _ _ _ _ hsp
  have KX : K.In s.heap := e0.mod.kin.keeps fun b o e => (e0.bs b o e).1
  have lim : s.heap.NoLimit := e0.mod.nolimit.keeps fun b o e => (e0.bs b o e).1
  have hkind : ∀ y ∈ ps.zip us, scope.names.lookup y.1 = some .local ∨ (scope.names.lookup y.1 = some .cell ∧ ((cellsFrom (s.heap.objs.size + 1) scope.names []).lookup y.1).isSome = true) := fun ⟨n, v⟩ hy => by
    rcases S.par n (List.of_mem_zip hy).1 with q | q
    · exact .inl q
    · exact .inr ⟨q, PySem.W.cellsFrom_some _ _ _ (.inl q)⟩
  refine codeAny_call_function hr.depth (KX _ _ lk) rfl S.co S.gen rfl (PySem.W.codeRec_of KX hcd) (hb _ _ _ _ ?_)
  refine wpAny_newFunctionEnv_cells S.kind hkind fun env he s1 x => ?_
  subst he
  refine ⟨lim.keeps x.toInCall.keep, codeAny_func ?_⟩
  obtain ⟨t, ht, hq⟩ := hbody A outer s H vs Q E (hr.deeper _) hsp
  have I : Inv (cxOf CX P w K mg base N qual scope f cdv A outer s H E) [] (start N vs) H s1 := inv_start S hr.hd e0 hl r x
  refine wpAny_mono (ht [] s1 (start N vs) H _ I hq) (fun fl s' hs => ?_) fun e s' hs => hs
  have fin : ∀ {σ' : St} {H' : Hp} {v : V} {u : Value}, Inv (cxOf CX P w K mg base N qual scope f cdv A outer s H E) [] σ' H' s' → RelV v u → Q v H' → CE outer P w H s Q u s' :=
    fun {σ' H' v u} J rv q => ⟨v, H', J.os, J.bare, J.base, J.hok, rv, q⟩
  cases fl with
  | ret u =>
    obtain ⟨v, σ', H', J, rv, q⟩ := hs
    exact fin J rv q
  | next =>
    obtain ⟨σ', H', J, q⟩ := hs
    exact fin (v := V.non) (u := Value.none) J rfl q
  | brk =>
    obtain ⟨_, _, _, q⟩ := hs
    exact False.elim q
  | cont =>
    obtain ⟨_, _, _, q⟩ := hs
    exact False.elim q
end L2
namespace L2
open PySem PySem.Spec PyProof.Rows
section
variable {X : Cx} {x : Str} {p pos : Pos} {e : Expr} {es : List Expr} {t : TA} {id T : String} {r : List V → Hp → VK → Prop}
noncomputable def tCB (r : List V → Hp → VK → Prop) (t : TA) : TE := fun σ H Q => t σ H fun vs H1 => r vs H1 Q
theorem pe_callB (hc : CallR X (.builtin id) r) (hg : Gl X x) (hm : X.mg x = none) (hv : bootBuiltins x = some (.builtin id)) (ha : PA X (e :: es) t) (hn : x ≠ "__name__" := by decide) (hdb : (x == ("__debug__" : Str)) = false := by decide)
    (he : starEach (e :: es) X.env = (false, eval e X.env) :: starEach es X.env := by rfl) (hpl : (backTo pos (starEach es X.env)).any (·.1) = false := by rfl) : PE X (.Call (.Name x p) (e :: es) [] pos) (tCB r t) := by
  intro pins s σ H Q I h
  refine wpAny_Call_Name_kw (ld_blt I hg hm hv ?_ hn hdb)
  exact PyProof.Rows.callWith_builtin1 (thn (ha pos pins s σ H _ I h) fun us s1 zq5 => by obtain ⟨vs, H1, I1, r1, q1⟩ := zq5; exact (hc pins s1 σ H1 vs us Q I1 r1 q1)) he hpl
theorem pe_callTy (hc : CallR X (.type T) r) (hg : Gl X x) (hm : X.mg x = none) (hv : bootBuiltins x = some (.type T)) (ha : PA X (e :: es) t) (hn : x ≠ "__name__" := by decide) (hdb : (x == ("__debug__" : Str)) = false := by decide)
    (he : starEach (e :: es) X.env = (false, eval e X.env) :: starEach es X.env := by rfl) (hpl : (backTo pos (starEach es X.env)).any (·.1) = false := by rfl) : PE X (.Call (.Name x p) (e :: es) [] pos) (tCB r t) := by
  intro pins s σ H Q I h
  refine wpAny_Call_Name_kw (ld_blt I hg hm hv ?_ hn hdb)
  exact PyProof.Rows.callWith_type1 (thn (ha pos pins s σ H _ I h) fun us s1 zq6 => by obtain ⟨vs, H1, I1, r1, q1⟩ := zq6; exact (hc pins s1 σ H1 vs us Q I1 r1 q1)) he hpl
end
end L2
namespace HT
open PySem PyProof.Rows
section
variable {prog : Program} {w : World} {A : Around} {E : Value → Shared → Prop} {s : Shared}
noncomputable def sIx (n d : Nat) : Option Int → Nat
  | none => d
  | some v => if v < 0 then (v + (n : Int)).toNat else min v.toNat n
theorem sIx_none (n d : Nat) : sIx n d none = d := rfl
theorem sIx_nat (n d k : Nat) : sIx n d (some (k : Int)) = min k n := by
  show (if (k : Int) < 0 then ((k : Int) + (n : Int)).toNat else min (k : Int).toNat n) = min k n
  rw [if_neg (by omega), Int.toNat_natCast]
theorem sIx_le (n d : Nat) (hd : d ≤ n) (o : Option Int) : sIx n d o ≤ n := by
  cases o with
  | none => exact hd
  | some v =>
    show (if v < 0 then (v + (n : Int)).toNat else min v.toNat n) ≤ n
    by_cases hv : v < 0
    · rw [if_pos hv]; omega
    · rw [if_neg hv]; exact Nat.min_le_right _ _
end
end HT
namespace L2
open PySem PySem.Spec PyProof.Rows
noncomputable abbrev TO := St → Hp → (Option Int → Hp → Prop) → Prop
noncomputable def PO (X : Cx) (e : Option Expr) (t : TO) : Prop :=
  ∀ (pins : List (Addr × Obj)) (s : Shared) (σ : St) (H : Hp) (Q : Option Int → Hp → Prop), Inv X pins σ H s → t σ H Q →
    wpAny (model X.prog X.w) X.A (evalPart e X.env) (fun u s' => ∃ o H', Inv X pins σ H' s' ∧ IsPart u o ∧ Q o H') X.xe s
noncomputable def tNoPart : TO := fun _ H Q => Q none H
noncomputable def tPart (t : TE) : TO := fun σ H Q => t σ H fun x H1 => ∃ i, x = .int i ∧ Q (some i) H1
theorem intsAre_of {ns : List Int} : ∀ {us : List Value}, Vals (ns.map V.int) us → IntsAre us ns := by
  induction ns with
  | nil => intro us r; rw [List.map_nil] at r; cases r; exact .nil
  | cons n ns ih =>
    intro us r
    rw [List.map_cons] at r
    cases r with
    | cons r1 r2 =>
      obtain ⟨t, e⟩ := r1
      subst e
      exact .cons n t (ih r2)
section
variable {X : Cx} {e : Expr} {te : TE} {lo hi : Option Expr} {tl th : TO} {pos p2 : Pos}
theorem po_none : PO X none tNoPart := by
  intro pins s σ H Q I h
  rw [evalPart_none]
  exact wpAny_pure ⟨none, H, I, .none, h⟩
theorem po_some (h : PE X e te) : PO X (some e) (tPart te) := by
  intro pins s σ H Q I hw
  rw [evalPart_some]
  refine thn (h pins s σ H _ I hw) fun u s1 zr2108 => ?_
  obtain ⟨x, H1, I1, r1, q1⟩ := zr2108
  obtain ⟨i, rfl, q⟩ := q1
  obtain ⟨t, rfl⟩ := r1
  exact ⟨some i, H1, I1, .int i t, q⟩
noncomputable def SlR (X : Cx) (r : V → Option Int → Option Int → Hp → VK → Prop) : Prop :=
  ∀ (pins : List (Addr × Obj)) (s : Shared) (σ : St) (H : Hp) (x : V) (v vl vu : Value) (lo hi : Option Int) (sl : Addr) (Q : VK), Inv X pins σ H s → RelV x v → s.heap.IsSliceOf sl vl vu .none → IsPart vl lo → IsPart vu hi → r x lo hi H Q →
    ∃ T id, typeLookup (.type T) "__getitem__" = pure (some (.builtin id)) ∧ s.TypeIs v T ∧ wpAny (model X.prog X.w) X.A (getItem v (.ref sl)) (EP X pins σ Q) X.xe s
noncomputable def tSl (r : V → Option Int → Option Int → Hp → VK → Prop) (te : TE) (tl th : TO) : TE := fun σ H Q => te σ H fun x H1 => tl σ H1 fun l H2 => th σ H2 fun u H3 => r x l u H3 Q
theorem pe_slice {r : V → Option Int → Option Int → Hp → VK → Prop} (hr : SlR X r) (he : PE X e te) (hl : PO X lo tl) (hu : PO X hi th) : PE X (.Subscript e (.Slice lo hi none p2) pos) (tSl r te tl th) := by
  intro pins s σ H Q I h
  refine Subscript_ (thn (he pins s σ H _ I h) fun v s1 zr2118 => ?_)
  obtain ⟨x, H1, I1, r1, q1⟩ := zr2118
  refine wpAny_Slice (thn (hl pins s1 σ H1 _ I1 q1) fun vl s2 ⟨l, H2, I2, pl, q2⟩ => thn (hu pins s2 σ H2 _ I2 q2) fun vu s3 zr2119 => ?_)
  obtain ⟨u, H3, I3, pu, q3⟩ := zr2119
  rw [evalPart_none]
  refine wpAny_pure ?_
  have I4 : Inv X pins σ H3 { s3 with heap := s3.heap.push { cls := .type "slice", data := .fields #[vl, vu, .none] } } := I3.kept (t' := s3.toks) fun b ob q => Heap.get?_push_of_some _ q
  obtain ⟨T, id, hT, ht, hg⟩ := hr pins { s3 with heap := s3.heap.push { cls := .type "slice", data := .fields #[vl, vu, .none] } } σ H3 x v vl vu l u s3.heap.objs.size Q I4 r1 (Heap.IsSliceOf.new ..) pl pu q3
  show wpAny (model X.prog X.w) X.A (subscriptTail e (.Slice lo hi none p2) v (.ref s3.heap.objs.size)) (EP X pins σ Q) X.xe { s3 with heap := s3.heap.push { cls := .type "slice", data := .fields #[vl, vu, .none] } }
  exact tail_any (ops := [.ref s3.heap.objs.size, v]) ht hT hg (by with_unfolding_all rfl)
noncomputable def cutV (xs : List V) (lo hi : Option Int) : List V := (xs.drop (HT.sIx xs.length 0 lo)).take (HT.sIx xs.length xs.length hi - HT.sIx xs.length 0 lo)
theorem cutV_length (xs : List V) (lo hi : Option Int) : (cutV xs lo hi).length ≤ xs.length := by
  unfold cutV
  rw [List.length_take, List.length_drop]
  omega
end
end L2
namespace L2
open PySem PySem.Spec PyProof.Rows
noncomputable def ixN (n : Nat) (i : Int) : Option Nat := if 0 ≤ i then (if i < n then some i.toNat else none) else if -(n : Int) ≤ i then some (i + n).toNat else none
noncomputable def atI {α : Type} (xs : List α) (i : Int) : Option α := (ixN xs.length i).bind fun j => xs[j]?
theorem ixN_seq {n : Nat} {i : Int} {j : Nat} (h : ixN n i = some j) : seqIndex? i n = some j ∧ j < n ∧ -(n : Int) ≤ i ∧ i < n := by
  unfold ixN at h
  by_cases h0 : 0 ≤ i
  · rw [if_pos h0] at h
    by_cases h1 : i < n
    · rw [if_pos h1] at h
      have e : i.toNat = j := Option.some.inj h
      exact ⟨by rw [seqIndex_of h0 h1, e], by omega, by omega, h1⟩
    · rw [if_neg h1] at h; cases h
  · rw [if_neg h0] at h
    by_cases h1 : -(n : Int) ≤ i
    · rw [if_pos h1] at h
      have e : (i + n).toNat = j := Option.some.inj h
      exact ⟨by rw [seqIndex_neg (by omega) h1, e], by omega, h1, by omega⟩
    · rw [if_neg h1] at h; cases h
theorem atI_get {α : Type} {xs : List α} {i : Int} {v : α} (h : atI xs i = some v) : ∃ j, seqIndex? i xs.length = some j ∧ xs[j]? = some v ∧ j < xs.length ∧ -(xs.length : Int) ≤ i ∧ i < xs.length := by
  unfold atI at h
  cases e : ixN xs.length i with
  | none => rw [e] at h; cases h
  | some j =>
    rw [e] at h
    obtain ⟨h1, h2, h3, h4⟩ := ixN_seq e
    exact ⟨j, h1, h, h2, h3, h4⟩
theorem atI_nat {α : Type} {xs : List α} {j : Nat} {v : α} (h : xs[j]? = some v) : atI xs (j : Int) = some v := by
  have hj : j < xs.length := (List.getElem?_eq_some_iff.mp h).1
  have e : ixN xs.length (j : Int) = some j := by
    unfold ixN
    rw [if_pos (by omega), if_pos (by omega)]; simp
  unfold atI; rw [e]; exact h
theorem atI_last {α : Type} (xs : List α) (v : α) : atI (xs ++ [v]) (-1) = some v := by
  have hl : (xs ++ [v]).length = xs.length + 1 := by simp
  have e : ixN (xs ++ [v]).length (-1) = some xs.length := by
    unfold ixN
    rw [hl, if_neg (by decide), if_pos (by omega)]
    congr 1
    omega
  unfold atI
  rw [e]
  show (xs ++ [v])[xs.length]? = some v
  simp
noncomputable def PlainIx (b : Expr) : Prop := ∀ o i, subscripted b false o i = operate [o, i] (getItem o i)
noncomputable def IxR (X : Cx) (r : R2) : Prop :=
  ∀ (value slice : Expr) (pins : List (Addr × Obj)) (s : Shared) (σ : St) (H : Hp) (x y : V) (v u : Value) (Q : VK), Inv X pins σ H s → RelV x v → RelV y u → r x y H Q →
    subscripted slice false v u = operate [v, u] (getItem v u) → wpAny (model X.prog X.w) X.A (subscriptTail value slice v u) (EP X pins σ Q) X.xe s
noncomputable def MtR (X : Cx) (id : String) (r : V → List V → Hp → VK → Prop) : Prop :=
  ∀ (pins : List (Addr × Obj)) (s : Shared) (σ : St) (H : Hp) (x : V) (xs : List V) (v : Value) (us : List Value) (Q : VK), Inv X pins σ H s → RelV x v → Vals xs us → r x xs H Q →
    wpAny (model X.prog X.w) X.A (call (.builtin id) (v :: us)) (EP X pins σ Q) X.xe s
section
variable {X : Cx} {a b : Expr} {ta tb : TE} {pos : Pos}
theorem pe_ix {r : R2} (hr : IxR X r) (ha : PE X a ta) (hb : PE X b tb) (hs : PlainIx b) : PE X (.Subscript a b pos) (tOp r ta tb) := by
  intro pins s σ H Q I h
  exact Subscript_ (binT ha hb I h fun v u s2 x y H2 I2 rx ry q => hr a b pins s2 σ H2 x y v u Q I2 rx ry q (hs _ _))
noncomputable def rIxL (K : PySem.W.Frag) : R2 := fun x y H Q => ∃ p xs i v, x = .ref p ∧ y = .int i ∧ SqL K H p xs ∧ atI xs i = some v ∧ Q v H
noncomputable def rIxT (K : PySem.W.Frag) : R2 := fun x y H Q => ∃ p xs i v, x = .ref p ∧ y = .int i ∧ SqT K H p xs ∧ atI xs i = some v ∧ Q v H
noncomputable def rIxS : R2 := fun x y H Q => ∃ z i c, x = .str z ∧ y = .int i ∧ z.length ≤ sizeLine ∧ atI z.cps.toList i = some c ∧ Q (.str ⟨#[c]⟩) H
theorem ix_list : IxR X (rIxL X.K) := by
  intro value slice pins s σ H x y v u Q I rx ry h hs
  obtain ⟨p, xs, i, z, rfl, rfl, hq, he, q⟩ := h
  cases rx
  obtain ⟨t, rfl⟩ := ry
  obtain ⟨its, r, pl, hz⟩ := I.list hq
  obtain ⟨j, h1, h2, h3, h4, h5⟩ := atI_get he
  obtain ⟨w, ew, rw'⟩ := r.get h2
  have hl := r.length
  have hn := line63
  have fin : EP X pins σ Q w s := ⟨z, H, I, rw', q⟩
  by_cases h0 : 0 ≤ i
  · have hj : i.toNat = j := by
      rw [seqIndex_of h0 h5] at h1
      exact Option.some.inj h1
    exact item_listR pl.isList h0 (by omega) (by rw [hj]; simpa using ew) fin hs
  · have hj : (i + (its.toArray.size : Int)).toNat = j := by
      rw [seqIndex_neg (by omega) h4] at h1
      rw [List.size_toArray, ← hl]
      exact Option.some.inj h1
    exact subscriptTail_builtinR (x := w) pl.isList.typeIs slot_list_getitem.lookup
      (wpAny_getItem_list_neg (Q := fun r s' => r = w ∧ EP X pins σ Q r s') pl.isList (by omega) (by rw [List.size_toArray] <;> omega) (by omega) (by rw [hj]; simpa using ew) ⟨rfl, fin⟩) hs
theorem ix_tup : IxR X (rIxT X.K) := by
  intro value slice pins s σ H x y v u Q I rx ry h hs
  obtain ⟨p, xs, i, z, rfl, rfl, hq, he, q⟩ := h
  cases rx
  obtain ⟨t, rfl⟩ := ry
  obtain ⟨its, r, pl, hz⟩ := I.tuple hq
  obtain ⟨j, h1, h2, h3, h4, h5⟩ := atI_get he
  obtain ⟨w, ew, rw'⟩ := r.get h2
  have hl := r.length
  have hn := line63
  have fin : EP X pins σ Q w s := ⟨z, H, I, rw', q⟩
  exact subscriptTail_builtinR (x := w) pl.typeIs slot_tuple_getitem.lookup
    (getItem_tuple (j := j) (Q := fun r s' => r = w ∧ EP X pins σ Q r s') pl (by omega) (by omega) (by rw [List.size_toArray, ← hl]; exact h1) (by simpa using ew) ⟨rfl, fin⟩) hs
theorem ix_str : IxR X rIxS := by
  intro value slice pins s σ H x y v u Q I rx ry h hs
  obtain ⟨z, i, c, rfl, rfl, hz, he, q⟩ := h
  obtain ⟨t, rfl⟩ := rx
  obtain ⟨t', rfl⟩ := ry
  obtain ⟨j, h1, h2, h3, h4, h5⟩ := atI_get he
  have hl : z.cps.toList.length = z.length := by simp [Str.length]
  rw [hl] at h1 h4 h5
  have hn := line63
  exact tail_any (typeIs_str s z t) slot_str_getitem.lookup (getItem_str (c := c) (by
    have e1 : decide (i < -(2 ^ 63 : Int)) = false := decide_eq_false (by omega)
    have e2 : decide (i ≥ 2 ^ 63) = false := decide_eq_false (by omega)
    rw [e1, e2, Bool.or_false]) (by rw [h1]; simpa using h2) ⟨.str ⟨#[c]⟩, H, I.tok _, ⟨_, rfl⟩, q⟩) hs
theorem slice_bounds (lo hi : Option Int) (n : Nat) : (sliceBounds lo hi none n).1 = ((HT.sIx n 0 lo : Nat) : Int) ∧ (sliceBounds lo hi none n).2.1 = ((HT.sIx n n hi : Nat) : Int) ∧ (sliceBounds lo hi none n).2.2 = 1 := by
  refine ⟨?_, ?_, rfl⟩
  · cases lo with
    | none => simp [sliceBounds, HT.sIx]
    | some i =>
      simp only [sliceBounds, HT.sIx, Option.getD_none, show (1 : Int) > 0 by decide, if_true]
      by_cases h : i < 0
      · simp only [h, if_true] <;> omega
      · simp only [h, if_false] <;> omega
  · cases hi with
    | none => simp [sliceBounds, HT.sIx]
    | some i =>
      simp only [sliceBounds, HT.sIx, Option.getD_none, show (1 : Int) > 0 by decide, if_true]
      by_cases h : i < 0
      · simp only [h, if_true] <;> omega
      · simp only [h, if_false] <;> omega
theorem slicePick_cut (its : List Value) (lo hi : Option Int) : slicePick its.toArray lo hi none = ((its.drop (HT.sIx its.length 0 lo)).take (HT.sIx its.length its.length hi - HT.sIx its.length 0 lo)).toArray := by
  obtain ⟨h1, h2, h3⟩ := slice_bounds lo hi its.toArray.size
  unfold slicePick
  rw [h1, h2, h3]
  simp only [sliceRange_one, pick_run, List.size_toArray] <;> rfl
noncomputable def rSlL (K : PySem.W.Frag) : V → Option Int → Option Int → Hp → VK → Prop := fun x lo hi H Q => ∃ a xs, x = .ref a ∧ SqL K H a xs ∧ ∀ p, H p = none → Q (.ref p) (upd H p (.lst (cutV xs lo hi)))
theorem sl_list : SlR X (rSlL X.K) := by
  intro pins s σ H x v vl vu lo hi sl Q I rx hs pl pu h
  obtain ⟨a, xs, rfl, hx, q⟩ := h
  cases rx
  obtain ⟨its, r, ht, hz⟩ := I.list hx
  have hlen := r.length
  refine ⟨"list", _, slot_list_getitem.lookup, ht.isList.typeIs, ?_⟩
  refine wpAny_getItem_list_slice ht.isList hs pl pu .none (by simp) ?_ (by rw [List.size_toArray] <;> omega)
  rw [slicePick_cut, ← hlen]
  refine ⟨.ref s.heap.objs.size, _, I.laid (t' := s.toks) (o := .lst (cutV xs lo hi)) (fun b ob q => Heap.get?_push_of_some _ q) (Nat.le_refl _) ?_, rfl, q _ (I.hok.fresh (Nat.le_refl _))⟩
  exact ⟨Nat.le_trans (cutV_length xs lo hi) hz, _, 0, (r.drop (HT.sIx xs.length 0 lo)).take (HT.sIx xs.length xs.length hi - HT.sIx xs.length 0 lo), Heap.get?_push_size _ rfl⟩
noncomputable def flatV : V → Bool
  | .non => true
  | .bl _ => true
  | .int _ => true
  | .str _ => true
  | _ => false
noncomputable def eqV : V → V → Bool
  | .non, .non => true
  | .bl a, .bl b => a == b
  | .bl a, .int b => (if a then 1 else 0) == b
  | .int a, .bl b => a == (if b then 1 else 0)
  | .int a, .int b => a == b
  | .str a, .str b => a == b
  | _, _ => false
theorem eqAt_V {A : Around} {s : Shared} {y x : V} {u v : Value} (ry : RelV y u) (rx : RelV x v) (fy : flatV y = true) (fx : flatV x = true) : SeqAt.EqAt A s u v (eqV y x) := by
  cases y with
  | non =>
    cases ry
    cases x with
    | non => cases rx; exact SeqAt.EqAt.same _
    | bl b => cases rx; exact SeqAt.EqAt.none_bool b
    | int b => obtain ⟨t, rfl⟩ := rx; exact SeqAt.EqAt.none_int b t
    | str b => obtain ⟨t, rfl⟩ := rx; exact SeqAt.EqAt.none_str b t
    | _ => exact absurd (show false = true from fx) Bool.false_ne_true
  | bl a =>
    cases ry
    cases x with
    | non => cases rx; exact SeqAt.EqAt.bool_none a
    | bl b => cases rx; exact SeqAt.EqAt.bool_bool a b
    | int b => obtain ⟨t, rfl⟩ := rx; exact SeqAt.EqAt.bool_int a b t
    | str b => obtain ⟨t, rfl⟩ := rx; exact SeqAt.EqAt.bool_str a b t
    | _ => exact absurd (show false = true from fx) Bool.false_ne_true
  | int a =>
    obtain ⟨t', rfl⟩ := ry
    cases x with
    | non => cases rx; exact SeqAt.EqAt.int_none a t'
    | bl b => cases rx; exact SeqAt.EqAt.int_bool a t' b
    | int b => obtain ⟨t, rfl⟩ := rx; exact SeqAt.EqAt.int_int a t' b t
    | str b => obtain ⟨t, rfl⟩ := rx; exact SeqAt.EqAt.int_str a t' b t
    | _ => exact absurd (show false = true from fx) Bool.false_ne_true
  | str a =>
    obtain ⟨t', rfl⟩ := ry
    cases x with
    | non => cases rx; exact SeqAt.EqAt.str_none a t'
    | bl b => cases rx; exact SeqAt.EqAt.str_bool a t' b
    | int b => obtain ⟨t, rfl⟩ := rx; exact SeqAt.EqAt.str_int a t' b t
    | str b => obtain ⟨t, rfl⟩ := rx; exact SeqAt.EqAt.str_str a t' b t
    | _ => exact absurd (show false = true from fx) Bool.false_ne_true
  | _ => exact absurd (show false = true from fy) Bool.false_ne_true
noncomputable def eqU (x : V) (u : Value) : Bool := match u with
  | .none => eqV .non x
  | .bool b => eqV (.bl b) x
  | .int i _ => eqV (.int i) x
  | .str z _ => eqV (.str z) x
  | _ => false
theorem eqU_of {x y : V} {u : Value} (r : RelV y u) (f : flatV y = true) : eqU x u = eqV y x := by
  cases y with
  | non => cases r; rfl
  | bl b => cases r; rfl
  | int i => obtain ⟨t, rfl⟩ := r; rfl
  | str z => obtain ⟨t, rfl⟩ := r; rfl
  | _ => exact absurd (show false = true from f) Bool.false_ne_true
theorem any_eqU {x : V} : ∀ {xs : List V} {us : List Value}, Vals xs us → xs.all flatV = true → us.any (eqU x) = xs.any fun y => eqV y x
  | _, _, .nil, _ => rfl
  | y :: xs, u :: us, .cons r t, f => by
    rw [List.all_cons, Bool.and_eq_true] at f
    rw [List.any_cons, List.any_cons, eqU_of r f.1, any_eqU t f.2]
theorem mem_eqAt {A : Around} {s : Shared} {x : V} {v : Value} (rx : RelV x v) (fx : flatV x = true) : ∀ {xs : List V} {us : List Value}, Vals xs us → xs.all flatV = true → ∀ u ∈ us, SeqAt.EqAt A s u v (eqU x u)
  | _, _, .nil, _ => fun u hu => by cases hu
  | y :: xs, u :: us, .cons r t, f => fun u' hu => by
    rw [List.all_cons, Bool.and_eq_true] at f
    rcases List.mem_cons.mp hu with rfl | hu
    · rw [eqU_of r f.1]; exact eqAt_V r rx f.1 fx
    · exact mem_eqAt rx fx t f.2 u' hu
noncomputable def inV (x : V) (xs : List V) : Bool := xs.any fun y => eqV y x
noncomputable def rIn (K : PySem.W.Frag) (neg : Bool) : R2 := fun x y H Q => ∃ p xs, y = .ref p ∧ (SqL K H p xs ∨ SqT K H p xs) ∧ flatV x = true ∧ xs.all flatV = true ∧ Q (.bl (if neg then !inV x xs else inV x xs)) H
theorem op_in_seq : OpR X (compareOp .In) (rIn X.K false) := by
  intro pins s σ H x y v u Q I rx ry h
  obtain ⟨p, xs, rfl, hq, fx, fs, q⟩ := h
  cases ry
  rcases hq with hq | hq
  · obtain ⟨its, r, pl, hz⟩ := I.list hq
    refine SeqAt.in_listAt (eqU x) pl.isList (fun w hw => mem_eqAt rx fx r fs w (by simpa using hw)) ⟨.bl _, H, I, rfl, ?_⟩
    rw [show its.toArray.any (eqU x) = its.any (eqU x) by simp, any_eqU r fs]
    exact q
  · obtain ⟨its, r, pl, hz⟩ := I.tuple hq
    refine SeqAt.in_tupleAt (eqU x) pl (fun w hw => mem_eqAt rx fx r fs w (by simpa using hw)) ⟨.bl _, H, I, rfl, ?_⟩
    rw [show its.toArray.any (eqU x) = its.any (eqU x) by simp, any_eqU r fs]
    exact q
theorem op_notIn_seq : OpR X (compareOp .NotIn) (rIn X.K true) := by
  intro pins s σ H x y v u Q I rx ry h
  obtain ⟨p, xs, rfl, hq, fx, fs, q⟩ := h
  cases ry
  rcases hq with hq | hq
  · obtain ⟨its, r, pl, hz⟩ := I.list hq
    refine SeqAt.notIn_listAt (eqU x) pl.isList (fun w hw => mem_eqAt rx fx r fs w (by simpa using hw)) ⟨.bl _, H, I, rfl, ?_⟩
    rw [show its.toArray.any (eqU x) = its.any (eqU x) by simp, any_eqU r fs]
    exact q
  · obtain ⟨its, r, pl, hz⟩ := I.tuple hq
    refine SeqAt.notIn_tupleAt (eqU x) pl (fun w hw => mem_eqAt rx fx r fs w (by simpa using hw)) ⟨.bl _, H, I, rfl, ?_⟩
    rw [show its.toArray.any (eqU x) = its.any (eqU x) by simp, any_eqU r fs]
    exact q
theorem call_len_seq : CallR X (.builtin "len") (fun xs H Q => ∃ p ys, xs = [.ref p] ∧ (SqL X.K H p ys ∨ SqT X.K H p ys) ∧ Q (.int ys.length) H) := by
  intro pins s σ H xs us Q I r h
  obtain ⟨p, ys, rfl, hq, q⟩ := h
  obtain ⟨u, rfl, rx⟩ := vals1 r
  cases rx
  have hn := line63
  rcases hq with hq | hq
  · obtain ⟨its, r', pl, hz⟩ := I.list hq
    have hlen := r'.length
    exact Calls.call_len_list pl.isList (by simp only [List.size_toArray] <;> omega) ⟨.int ys.length, H, I.tok _, ⟨s.toks + 1, by rw [List.size_toArray, hlen]⟩, q⟩
  · obtain ⟨its, r', pl, hz⟩ := I.tuple hq
    have hlen := r'.length
    exact len_tuple pl (by simp only [List.size_toArray] <;> omega) ⟨.int ys.length, H, I.tok _, ⟨s.toks + 1, by rw [List.size_toArray, hlen]⟩, q⟩
theorem call_len_str : CallR X (.builtin "len") (fun xs H Q => ∃ z, xs = [.str z] ∧ z.length ≤ sizeLine ∧ Q (.int z.length) H) := by
  intro pins s σ H xs us Q I r h
  obtain ⟨z, rfl, hz, q⟩ := h
  obtain ⟨u, rfl, t, rfl⟩ := vals1 r
  have hn := line63
  exact len_str (by omega) ⟨.int z.length, H, I.tok _, ⟨_, rfl⟩, q⟩
theorem call_tuple_of : CallR X (.type "tuple") (fun xs H Q => ∃ p ys, xs = [.ref p] ∧ ((SqL X.K H p ys ∧ ∀ l, H l = none → Q (.ref l) (upd H l (.tup ys))) ∨ (SqT X.K H p ys ∧ Q (.ref p) H))) := by
  intro pins s σ H xs us Q I r h
  obtain ⟨p, ys, rfl, h⟩ := h
  obtain ⟨u, rfl, rx⟩ := vals1 r
  cases rx
  rcases h with ⟨hq, q⟩ | ⟨hq, q⟩
  · obtain ⟨its, r', pl, hz⟩ := I.list hq
    have hlen := r'.length
    refine call_tuple_list pl.isList (fun h' kp => ?_) (by simp only [List.size_toArray] <;> omega)
    have I1 : Inv X pins σ H { s with heap := h' } := I.kept (t' := s.toks) kp
    have I2 : Inv X pins σ (upd H h'.objs.size (.tup ys)) { s with heap := h'.push { cls := .type "tuple", data := .seq its.toArray } } :=
      I1.laid (t' := s.toks) (fun b o e => Heap.get?_push_of_some _ e) (Nat.le_refl _) (show ObjOk X.prog X.w _ _ _ (.tup ys) from ⟨hz, its, r', IsTup.new _ _⟩)
    exact ⟨.ref h'.objs.size, _, I2, rfl, q _ (I1.hok.fresh (Nat.le_refl _))⟩
  · obtain ⟨its, r', pl, hz⟩ := I.tuple hq
    exact call_tuple_same pl ⟨.ref p, H, I, rfl, q⟩
noncomputable def tyV (K : PySem.W.Frag) (T : String) (x : V) (H : Hp) : Prop := match x with
  | .str _ => T = "str"
  | .int _ => T = "int"
  | .ref p => (T = "list" ∧ ∃ xs, SqL K H p xs) ∨ (T = "tuple" ∧ ∃ o, K.lookup p = some o ∧ o.cls = .type "tuple" ∧ o.dict = none) ∨
      (T = "dict" ∧ ((∃ kvs, H p = some (.dK kvs)) ∨ ∃ kvs, H p = some (.dT kvs))) ∨ (T = "set" ∧ ∃ S n, H p = some (.set S n))
  | _ => False
theorem tyV_is {pins : List (Addr × Obj)} {σ : St} {H : Hp} {s : Shared} {T : String} {x : V} {v : Value} (I : Inv X pins σ H s) (r : RelV x v) (ty : tyV X.K T x H) :
    s.TypeIs v T ∧ ∀ a, v = .ref a → ∃ ob, s.heap.get? a = some ob ∧ ob.dict = none := by
  cases x with
  | str z =>
    obtain ⟨t, rfl⟩ := r
    cases (show T = "str" from ty)
    exact ⟨typeIs_str s z t, fun _ e => nomatch e⟩
  | int i =>
    obtain ⟨t, rfl⟩ := r
    cases (show T = "int" from ty)
    exact ⟨typeIs_int s i t, fun _ e => nomatch e⟩
  | ref p =>
    cases r
    rcases ty with ⟨rfl, xs, hq⟩ | ⟨rfl, o, hk, hc, hd⟩ | ⟨rfl, hk⟩ | ⟨rfl, S, n, hk⟩
    · obtain ⟨its, _, pl, _⟩ := I.list hq
      refine ⟨pl.isList.typeIs, fun a e => ?_⟩
      cases e
      obtain ⟨o, n, e, c, hd, _⟩ := pl
      exact ⟨o, e, hd⟩
    · refine ⟨⟨o, I.kIn p o hk, hc⟩, fun a e => ?_⟩
      cases e
      exact ⟨o, I.kIn _ o hk, hd⟩
    · have z : ∃ o, s.heap.get? p = some o ∧ o.ExactDict := by
        rcases hk with ⟨kvs, hk⟩ | ⟨kvs, hk⟩
        · obtain ⟨_, _, _, _, o, _, _, e, ex, _⟩ := I.hok p _ hk
          exact ⟨o, e, ex⟩
        · obtain ⟨_, _, _, _, o, _, _, e, ex, _⟩ := I.hok p _ hk
          exact ⟨o, e, ex⟩
      obtain ⟨o, e, ex⟩ := z
      refine ⟨⟨o, e, ex.1⟩, fun a e2 => ?_⟩
      cases e2
      exact ⟨o, e, ex.2.1⟩
    · obtain ⟨o, _, _, _, e, ex, _⟩ := I.hok p _ hk
      refine ⟨⟨o, e, ex.1⟩, fun a e2 => ?_⟩
      cases e2
      exact ⟨o, e, ex.2.1⟩
  | _ => exact False.elim ty
variable {o e : Expr} {es : List Expr} {to : TE} {t : TA} {name : Str} {apos cpos : Pos} {T id : String} {r : V → List V → Hp → VK → Prop}
end
end L2
namespace L2
open PySem PySem.Spec PyProof.Rows
noncomputable def MtM (X : Cx) (id : String) (r : V → List V → Hp → VK → Prop) : Prop :=
  ∀ (pins : List (Addr × Obj)) (s : Shared) (σ : St) (H : Hp) (x : V) (xs : List V) (v : Value) (us : List Value) (Q : VK), Inv X pins σ H s → RelV x v → Vals xs us → r x xs H Q →
    wpAny (model X.prog X.w) X.A (call (.builtin id) (v :: us)) (EP X pins σ Q) X.xe s
theorem Vals.one : ∀ {x : V} {us : List Value}, Vals [x] us → ∃ u, us = [u] ∧ RelV x u
  | _, _, .cons r .nil => ⟨_, rfl, r⟩
theorem Vals.zero : ∀ {us : List Value}, Vals [] us → us = []
  | _, .nil => rfl
theorem Vals.dropLast {xs : List V} {us : List Value} (h : Vals xs us) : Vals xs.dropLast us.dropLast := by
  induction h with
  | nil => exact .nil
  | cons r t ih =>
    cases t with
    | nil => exact .nil
    | cons q t' => exact .cons r ih
theorem Vals.reverse {xs : List V} {us : List Value} (h : Vals xs us) : Vals xs.reverse us.reverse := by
  induction h with
  | nil => exact .nil
  | cons r t ih => rw [List.reverse_cons, List.reverse_cons]; exact Vals.append ih (.cons r .nil)
theorem erase_last {α : Type} (l : List α) : l.eraseIdx (l.length - 1) = l.dropLast := by
  induction l with
  | nil => rfl
  | cons a r ih =>
    cases r with
    | nil => rfl
    | cons b r =>
      have e : (a :: b :: r).length - 1 = ((b :: r).length - 1) + 1 := by
        have h1 : (a :: b :: r).length = r.length + 2 := rfl
        have h2 : (b :: r).length = r.length + 1 := rfl
        omega
      rw [e, List.eraseIdx_cons_succ, ih]
      all_goals rfl
section
variable {X : Cx} {pins : List (Addr × Obj)} {σ : St} {H : Hp} {s : Shared} {l b : Addr} {xs ys zs : List V}
theorem Inv.lset {its its' : List Value} {n : Nat} {f : Array Value → Array Value} {t' : Nat} (I : Inv X pins σ H s) (hH : H l = some (.lst xs))
    (e : s.heap.get? l = some { cls := .type "list", data := .seq its.toArray n }) (hf : f its.toArray = its'.toArray) (hv : Vals ys its') (hz : ys.length ≤ sizeLine) :
    Inv X pins σ (upd H l (.lst ys)) { s with heap := s.heap.update l (Obj.mapSeq f), toks := t' } := by
  have q := PySem.IsL.update e f
  rw [hf] at q
  refine I.write (x := l) (e := l) (by rw [hH]; exact trivial) (.inl rfl) (fun b' u hb hu => (Heap.get?_update_other s.heap (Obj.mapSeq f) (Ne.symm hb)).trans hu) ⟨_, q⟩ ?_
  exact ⟨hz, its', _, hv, q⟩
theorem Inv.lstM (I : Inv X pins σ H s) (hH : H l = some (.lst xs)) : xs.length ≤ sizeLine ∧ ∃ (its : List Value) (n : Nat), Vals xs its ∧ xs.length = its.length ∧ s.heap.get? l = some { cls := .type "list", data := .seq its.toArray n } := by
  obtain ⟨z, its, n, r, e⟩ := I.hok l _ hH
  exact ⟨z, its, n, r, r.length, e⟩
end
section
variable {X : Cx}
noncomputable def rAppend : V → List V → Hp → VK → Prop := fun x vs H Q => ∃ l xs y, x = .ref l ∧ vs = [y] ∧ H l = some (.lst xs) ∧ xs.length < sizeLine ∧ Q .non (upd H l (.lst (xs ++ [y])))
theorem mt_append : MtM X "list.append" rAppend := by
  intro pins s σ H x vs v us Q I rx rv h
  obtain ⟨l, xs, y, rfl, rfl, hH, hz, q⟩ := h
  cases rx
  obtain ⟨u, rfl, ru⟩ := rv.one
  obtain ⟨z, its, n, r, hl, e⟩ := I.lstM hH
  refine call_meets F.slot_list_append ⟨_, e, rfl⟩ F.entry_list_append (F.args_list_append_2 _ _) (PySem.list_append l its.toArray n u (by rw [List.size_toArray]; omega)) ⟨e, ?_⟩
  refine ⟨.non, _, I.lset (its' := its ++ [u]) hH e (by simp) (r.append (.cons ru .nil)) ?_, rfl, q⟩
  rw [List.length_append, List.length_singleton]
  omega
noncomputable def rPop : V → List V → Hp → VK → Prop := fun x vs H Q => ∃ l xs y, x = .ref l ∧ vs = [] ∧ H l = some (.lst xs) ∧ xs[xs.length - 1]? = some y ∧ Q y (upd H l (.lst xs.dropLast))
theorem mt_pop : MtM X "list.pop" rPop := by
  intro pins s σ H x vs v us Q I rx rv h
  obtain ⟨l, xs, y, rfl, rfl, hH, hy, q⟩ := h
  cases rx
  have hus := rv.zero
  subst hus
  obtain ⟨z, its, n, r, hl, e⟩ := I.lstM hH
  obtain ⟨u, hu, ru⟩ := r.get hy
  have hy' : its.toArray[its.toArray.size - 1]? = some u := by
    show its.toArray[its.length - 1]? = some u
    rw [← Array.getElem?_toList, ← hl]
    exact hu
  refine call_meets F.slot_list_pop ⟨_, e, rfl⟩ F.entry_list_pop (F.args_list_pop_1 _) (MeetsSeq.list_pop_last l its.toArray n u hy' (by rw [List.size_toArray]; omega)) ⟨e, ?_⟩
  refine ⟨y, _, I.lset (its' := its.dropLast) hH e ?_ r.dropLast ?_, ru, q⟩
  · show its.toArray.eraseIdxIfInBounds (its.toArray.size - 1) = its.dropLast.toArray
    rw [List.size_toArray, List.eraseIdxIfInBounds_toArray, erase_last]
  · rw [List.length_dropLast]
    omega
end
end L2
namespace L2
open PySem PySem.Spec PyProof.Rows
section
variable {κ : Type} [DecidableEq κ]
noncomputable def valV (kvs : List (κ × V)) (k : κ) : Option V := (kvs.find? fun kv => decide (kv.1 = k)).map (·.2)
noncomputable def putK (kvs : List (κ × V)) (k : κ) (v : V) : List (κ × V) :=
  if (kvs.any fun kv => decide (kv.1 = k)) = true then kvs.map (fun kv => if kv.1 = k then (kv.1, v) else kv) else kvs ++ [(k, v)]
theorem valV_nil {k : κ} : valV ([] : List (κ × V)) k = none := rfl
theorem valV_pos {p : κ × V} {r : List (κ × V)} {k : κ} (e : p.1 = k) : valV (p :: r) k = some p.2 := by simp [valV, List.find?_cons, e]
theorem valV_neg {p : κ × V} {r : List (κ × V)} {k : κ} (e : ¬ p.1 = k) : valV (p :: r) k = valV r k := by simp [valV, List.find?_cons, e]
theorem valV_any (k : κ) : ∀ kvs : List (κ × V), (kvs.any fun kv => decide (kv.1 = k)) = (valV kvs k).isSome
  | [] => rfl
  | p :: r => by
    rw [List.any_cons]
    by_cases e : p.1 = k
    · simp only [valV_pos e, decide_eq_true e, Bool.true_or, Option.isSome_some]
    · rw [valV_neg e, decide_eq_false e, Bool.false_or]; exact valV_any k r
theorem valV_map (k j : κ) (y : V) : ∀ kvs : List (κ × V), valV (kvs.map fun kv => if kv.1 = k then (kv.1, y) else kv) j = (valV kvs j).map fun x => if j = k then y else x
  | [] => rfl
  | p :: r => by
    have ih := valV_map k j y r
    rw [List.map_cons]
    by_cases h : p.1 = k
    · rw [if_pos h]
      by_cases e : p.1 = j
      · rw [valV_pos (p := (p.1, y)) e, valV_pos e, Option.map_some, if_pos (e.symm.trans h)]
      · rw [valV_neg (p := (p.1, y)) e, valV_neg e, ih]
    · rw [if_neg h]
      by_cases e : p.1 = j
      · rw [valV_pos (p := p) e, valV_pos e, Option.map_some, if_neg (fun z => h (e.trans z))]
      · rw [valV_neg (p := p) e, valV_neg e, ih]
theorem valV_snoc (k j : κ) (y : V) : ∀ kvs : List (κ × V), valV kvs k = none → valV (kvs ++ [(k, y)]) j = if j = k then some y else valV kvs j
  | [], _ => by
    by_cases e : k = j
    · rw [if_pos e.symm]; exact valV_pos (p := (k, y)) e
    · rw [if_neg (fun z => e z.symm)]; exact valV_neg (p := (k, y)) e
  | p :: r, hn => by
    rw [List.cons_append]
    have hk : ¬ p.1 = k := fun z => by rw [valV_pos z] at hn; cases hn
    rw [valV_neg hk] at hn
    have ih := valV_snoc k j y r hn
    by_cases e : p.1 = j
    · rw [valV_pos e, valV_pos e, if_neg (fun z => hk (e.trans z))]
    · rw [valV_neg e, valV_neg e, ih]
theorem valV_put (kvs : List (κ × V)) (k j : κ) (y : V) : valV (putK kvs k y) j = if j = k then some y else valV kvs j := by
  unfold putK
  by_cases a : (kvs.any fun kv => decide (kv.1 = k)) = true
  · rw [if_pos a, valV_map]
    rw [valV_any] at a
    by_cases e : j = k
    · obtain ⟨x, hx⟩ := Option.isSome_iff_exists.mp a
      rw [if_pos e, e, hx, Option.map_some, if_pos rfl]
    · rw [if_neg e]
      cases valV kvs j with
      | none => rfl
      | some x => rw [Option.map_some, if_neg e]
  · rw [if_neg a]
    refine valV_snoc k j y kvs ?_
    rw [valV_any] at a
    cases q : valV kvs k with
    | none => rfl
    | some x => rw [q] at a; exact (a rfl).elim
theorem length_putK (kvs : List (κ × V)) (k : κ) (v : V) : (putK kvs k v).length ≤ kvs.length + 1 := by
  unfold putK
  split
  · rw [List.length_map]; omega
  · rw [List.length_append, List.length_cons, List.length_nil]; omega
theorem putK_new {kvs : List (κ × V)} {k : κ} (v : V) (h : valV kvs k = none) : putK kvs k v = kvs ++ [(k, v)] := by
  unfold putK
  rw [valV_any, h]
  exact if_neg (by decide)
theorem RelO.isSome_eq {o : Option V} {u : Option Value} (r : RelO o u) : o.isSome = u.isSome := by
  cases o with
  | none => cases u with
    | none => rfl
    | some _ => exact (show False from r).elim
  | some _ => cases u with
    | none => exact (show False from r).elim
    | some _ => rfl
theorem KV.val {kvs : List (κ × V)} {vs : List (κ × Value)} (r : KV kvs vs) (k : κ) : RelO (valV kvs k) (valueAt vs k) := by
  unfold KV at r
  induction r with
  | nil => exact True.intro
  | @cons p q ps qs h t ih =>
    obtain ⟨h1, h2⟩ := h
    by_cases e : p.1 = k
    · have e' : q.1 = k := h1.symm.trans e
      have b : valueAt (q :: qs) k = some q.2 := by simp [valueAt, List.find?_cons, e']
      rw [valV_pos e, b]; exact h2
    · have e' : ¬ q.1 = k := fun z => e (h1.trans z)
      have b : valueAt (q :: qs) k = valueAt qs k := by simp [valueAt, List.find?_cons, e']
      rw [valV_neg e, b]; exact ih
theorem KV.any {kvs : List (κ × V)} {vs : List (κ × Value)} (r : KV kvs vs) (k : κ) : (kvs.any fun kv => decide (kv.1 = k)) = vs.any fun kv => decide (kv.1 = k) := by
  unfold KV at r
  induction r with
  | nil => rfl
  | cons h t ih => rw [List.any_cons, List.any_cons, ih, h.1]
theorem KV.repl {kvs : List (κ × V)} {vs : List (κ × Value)} (r : KV kvs vs) (k : κ) {y : V} {u : Value} (ry : RelV y u) :
    KV (kvs.map fun kv => if kv.1 = k then (kv.1, y) else kv) (vs.map fun kv => if kv.1 = k then (kv.1, u) else kv) := by
  unfold KV at r ⊢
  induction r with
  | nil => exact .nil
  | @cons p q ps qs h t ih =>
    rw [List.map_cons, List.map_cons]
    refine .cons ?_ ih
    obtain ⟨h1, h2⟩ := h
    by_cases e : p.1 = k
    · rw [if_pos e, if_pos (h1.symm.trans e)]; exact ⟨h1, ry⟩
    · rw [if_neg e, if_neg (fun z => e (h1.trans z))]; exact ⟨h1, h2⟩
theorem KV.put {kvs : List (κ × V)} {vs : List (κ × Value)} (r : KV kvs vs) (k : κ) {y : V} {u : Value} (ry : RelV y u) : KV (putK kvs k y) (stored vs k u) := by
  unfold putK stored
  rw [r.any k]
  by_cases e : (vs.any fun kv => decide (kv.1 = k)) = true
  · rw [if_pos e, if_pos e]; exact r.repl k ry
  · rw [if_neg e, if_neg e]; exact Paired.snoc r ⟨rfl, ry⟩
theorem KV.keys {kvs : List (κ × V)} {vs : List (κ × Value)} (r : KV kvs vs) : kvs.map (·.1) = vs.map (·.1) := by
  unfold KV at r
  induction r with
  | nil => rfl
  | cons h t ih => rw [List.map_cons, List.map_cons, ih, h.1]
theorem KV.length {kvs : List (κ × V)} {vs : List (κ × Value)} (r : KV kvs vs) : kvs.length = vs.length := Paired.length r
end
theorem kV_is {P : Program} {w : World} {k : Key} {u : Value} (r : RelV (kV k) u) : (mixKind P w).is k u = true := by
  cases k with
  | inl i => obtain ⟨t, e⟩ := (show ∃ t, u = Value.int i t from r); subst e; exact mixKind_int P w i t
  | inr x => obtain ⟨t, e⟩ := (show ∃ t, u = Value.str x t from r); subst e; exact mixKind_str P w x t
theorem items_are {P : Program} {w : World} : ∀ {ks : List Key} {us : List Value}, Vals (ks.map kV) us → ItemsAre (mixKind P w) ks us
  | [], _, r => by rw [List.map_nil] at r; cases r; exact .nil
  | k :: ks, _, r => by
    rw [List.map_cons] at r
    cases r with
    | cons h t => exact .cons (kV_is h) (items_are t)
noncomputable abbrev KT (H : Hp) : List (List Key × V) → List (List Key × Addr × Value) → Prop := Paired fun p q => p.1 = q.1 ∧ H q.2.1 = some (.tup (p.1.map kV)) ∧ RelV p.2 q.2.2
theorem KT.val {H : Hp} {kvs : List (List Key × V)} {xs : List (List Key × Addr × Value)} (r : KT H kvs xs) (k : List Key) : RelO (valV kvs k) ((atKey xs k).map (·.2)) := by
  induction r with
  | nil => exact True.intro
  | @cons p q ps qs h t ih =>
    obtain ⟨h1, _, h2⟩ := h
    by_cases e : p.1 = k
    · have e' : q.1 = k := h1.symm.trans e
      have b : atKey (q :: qs) k = some q.2 := by simp [atKey, List.find?_cons, e']
      rw [valV_pos e, b]; exact h2
    · have e' : ¬ q.1 = k := fun z => e (h1.trans z)
      have b : atKey (q :: qs) k = atKey qs k := by simp [atKey, List.find?_cons, e']
      rw [valV_neg e, b]; exact ih
theorem KT.repl {H : Hp} {kvs : List (List Key × V)} {xs : List (List Key × Addr × Value)} (r : KT H kvs xs) (k : List Key) {y : V} {u : Value} (ry : RelV y u) :
    KT H (kvs.map fun kv => if kv.1 = k then (kv.1, y) else kv) (xs.map (putAt k u)) := by
  induction r with
  | nil => exact .nil
  | @cons p q ps qs h t ih =>
    rw [List.map_cons, List.map_cons]
    refine .cons ?_ ih
    obtain ⟨h1, h2, h3⟩ := h
    unfold putAt
    by_cases e : p.1 = k
    · rw [if_pos e, if_pos (h1.symm.trans e)]; exact ⟨h1, h2, ry⟩
    · rw [if_neg e, if_neg (fun z => e (h1.trans z))]; exact ⟨h1, h2, h3⟩
theorem KT.put {H : Hp} {kvs : List (List Key × V)} {xs : List (List Key × Addr × Value)} (r : KT H kvs xs) (k : List Key) {b : Addr} {y : V} {u : Value} (hb : H b = some (.tup (k.map kV))) (ry : RelV y u) :
    KT H (putK kvs k y) (storedH xs k b u) := by
  have e : (kvs.any fun kv => decide (kv.1 = k)) = (atKey xs k).isSome := by
    rw [valV_any, (r.val k).isSome_eq, Option.isSome_map]
  unfold putK storedH
  rw [e]
  by_cases q : (atKey xs k).isSome = true
  · rw [if_pos q, if_pos q]; exact r.repl k ry
  · rw [if_neg q, if_neg q]; exact Paired.snoc r ⟨rfl, hb, ry⟩
theorem KT.keeps {H H' : Hp} {kvs : List (List Key × V)} {xs : List (List Key × Addr × Value)} (r : KT H kvs xs) (ht : ∀ b ys, H b = some (.tup ys) → H' b = some (.tup ys)) : KT H' kvs xs :=
  Paired.mapP r fun _ _ z => ⟨z.1, ht _ _ z.2.1, z.2.2⟩
section
variable {P : Program} {w : World} {H : Hp} {h : Heap} {a : Addr}
theorem rd_of {u : HO} (ok : HOk P w H h) (e : Rd H a u) : ObjOk P w H h a u := e.ok ok
theorem dk_rd {kvs : List (Key × V)} (ok : HOk P w H h) (e : Rd H a (.dK kvs)) : kvs.length ≤ sizeLine ∧ (a == sysModules) = false ∧ ∃ vs, KV kvs vs ∧ h.DictOf (mixKind P w) a vs :=
  show ObjOk P w H h a (.dK kvs) from rd_of ok e
theorem dk_of {kvs : List (Key × V)} (ok : HOk P w H h) (e : H a = some (.dK kvs)) : kvs.length ≤ sizeLine ∧ (a == sysModules) = false ∧ ∃ vs, KV kvs vs ∧ h.DictOf (mixKind P w) a vs := dk_rd ok (.inl e)
theorem key_of {ks : List Key} (ok : HOk P w H h) (e : H a = some (.tup (ks.map kV))) : (tupleKind (mixKind P w)).is h ks a := by
  obtain ⟨_, its, r, o, h1, h2, n, h3⟩ := (show ObjOk P w H h a (.tup (ks.map kV)) from ok a _ e)
  exact ⟨o, its.toArray, n, h1, h2, h3, by simpa using items_are r⟩
theorem dt_rd {kvs : List (List Key × V)} (ok : HOk P w H h) (e : Rd H a (.dT kvs)) : kvs.length ≤ sizeLine ∧ (a == sysModules) = false ∧
    ∃ xs, KT H kvs xs ∧ h.DictOfH (tupleKind (mixKind P w)) a xs := by
  obtain ⟨z, y, xs, r, o, es, ep, h1, h2, h3, h4, h5⟩ := (show ObjOk P w H h a (.dT kvs) from rd_of ok e)
  refine ⟨z, y, xs, r, o, es, ep, h1, h2, h3, h4, fun x hx => ?_, h5⟩
  have all : ∀ {l : List (List Key × V)} {m : List (List Key × Addr × Value)}, KT H l m → ∀ x ∈ m, (tupleKind (mixKind P w)).is h x.1 x.2.1 := by
    intro l m q
    induction q with
    | nil => intro x hx; exact nomatch hx
    | @cons p q ps qs hq t ih =>
      intro x hx
      rcases List.mem_cons.mp hx with e | hx
      · subst e
        exact key_of ok (by rw [← hq.1]; exact hq.2.1)
      · exact ih x hx
  exact all r x hx
theorem dt_of {kvs : List (List Key × V)} (ok : HOk P w H h) (e : H a = some (.dT kvs)) : kvs.length ≤ sizeLine ∧ (a == sysModules) = false ∧
    ∃ xs, KT H kvs xs ∧ h.DictOfH (tupleKind (mixKind P w)) a xs := dt_rd ok (.inl e)
end
noncomputable def DGet (H : Hp) (a : Addr) (y : V) (r : Option V) : Prop :=
  (∃ kvs k, Rd H a (.dK kvs) ∧ y = kV k ∧ r = valV kvs k) ∨ ∃ kvs k b, Rd H a (.dT kvs) ∧ y = .ref b ∧ H b = some (.tup (k.map kV)) ∧ r = valV kvs k
noncomputable def DPut (H : Hp) (a : Addr) (y v : V) (H' : Hp) : Prop :=
  (∃ kvs k, H a = some (.dK kvs) ∧ y = kV k ∧ kvs.length < sizeLine ∧ H' = upd H a (.dK (putK kvs k v))) ∨
  ∃ kvs k b, H a = some (.dT kvs) ∧ y = .ref b ∧ H b = some (.tup (k.map kV)) ∧ kvs.length < sizeLine ∧ H' = upd H a (.dT (putK kvs k v))
section
variable {X : Cx} {pins : List (Addr × Obj)} {σ : St} {H : Hp} {s : Shared} {a : Addr} {y v : V} {u r : Value} {o : Option V} {A : Around} {E : Value → Shared → Prop}
theorem Inv.big (I : Inv X pins σ H s) : sysModules < s.heap.objs.size := by
  have h : mainGlobals < s.heap.objs.size := (I.mod.glob.keeps I.bk).lt
  exact Nat.lt_trans (by decide) h
theorem d_getItem {Q : Value → Shared → Prop} (hu : A.units + 1 < cLine) (I : Inv X pins σ H s) (g : DGet H a y (some v)) (ry : RelV y u) (h : ∀ w' s', Inv X pins σ H s' → RelV v w' → Q w' s') :
    wpAny (model X.prog X.w) A (getItem (.ref a) u) Q E s := by
  rcases g with ⟨kvs, k, e, ey, l⟩ | ⟨kvs, k, b, e, ey, eb, l⟩
  · subst ey
    obtain ⟨z, hd, vs, rel, dd⟩ := dk_rd I.hok e
    obtain ⟨w', hw, rw'⟩ := RelO.some_of (v := v) (o := valueAt vs k) (by rw [l]; exact rel.val k)
    exact wpAny_getItem_of (kV_is ry) dd.mapOf hw (h w' _ (I.tok _) rw')
  · subst ey
    cases (show u = Value.ref b from ry)
    obtain ⟨z, hd, xs, rel, dd⟩ := dt_rd I.hok e
    obtain ⟨w', hw, rw'⟩ := RelO.some_of (v := v) (o := (atKey xs k).map (·.2)) (by rw [l]; exact rel.val k)
    obtain ⟨p, hp, hp2⟩ := Option.map_eq_some_iff.mp hw
    refine wpAny_getItem_heap (tupleKind_room_in1 hu) (key_of I.hok eb) dd hp ?_
    rw [hp2]
    exact h w' _ (I.tok _) rw'
theorem d_write {h' : Heap} {t' : Nat} {ob : HO} (I : Inv X pins σ H s) (mu : Mut (H a)) (hs : Heap.SameBut a s.heap h') (he : ∃ q, h'.get? a = some q) (new : ObjOk X.prog X.w (upd H a ob) h' a ob) :
    Inv X pins σ (upd H a ob) { s with heap := h', toks := t' } :=
  I.write (x := a) (e := a) mu (.inl rfl) (fun b q hb z => (hs.2 b hb).trans z) he new
theorem dk_new {P : Program} {w : World} {H' : Hp} {h' : Heap} {kvs : List (Key × V)} {vs : List (Key × Value)} (z : kvs.length ≤ sizeLine) (hd : (a == sysModules) = false) (rel : KV kvs vs) (dd : h'.DictOf (mixKind P w) a vs) :
    ObjOk P w H' h' a (.dK kvs) := ⟨z, hd, vs, rel, dd⟩
theorem d_setItem {H' : Hp} {Q : Unit → Shared → Prop} (hu : A.units + 1 < cLine) (I : Inv X pins σ H s) (g : DPut H a y v H') (ry : RelV y u) (rv : RelV v r) (h : ∀ s', Inv X pins σ H' s' → Q () s') :
    wpAny (model X.prog X.w) A (setItem (.ref a) u r) Q E s := by
  rcases g with ⟨kvs, k, e, ey, l, eH⟩ | ⟨kvs, k, b, e, ey, eb, l, eH⟩
  · subst ey eH
    obtain ⟨z, hd, vs, rel, dd⟩ := dk_of I.hok e
    have hz : vs.length ≤ sizeLine := by rw [← rel.length]; exact z
    have hl : (putK kvs k v).length ≤ sizeLine := by have := length_putK kvs k v; omega
    refine wpAny_setItem_pairs (hsz := hz) (kV_is ry) dd fun h' dd' hs => h _ ?_
    have he : ∃ q, h'.get? a = some q := let ⟨q, _, _, hq, _⟩ := dd'; ⟨q, hq⟩
    exact d_write I (by rw [e]; exact True.intro) hs he (dk_new hl hd (rel.put k rv) dd')
  · subst ey eH
    cases (show u = Value.ref b from ry)
    obtain ⟨z, hd, xs, rel, dd⟩ := dt_of I.hok e
    have hz : xs.length ≤ sizeLine := by rw [← Paired.length rel]; exact z
    have hl : (putK kvs k v).length ≤ sizeLine := by have := length_putK kvs k v; omega
    refine wpAny_setItem_heap (hsz := hz) (tupleKind_room_in1 hu) (key_of I.hok eb) dd fun h' dd' hs => h _ ?_
    obtain ⟨q, es, ep, hq, h2, h3, h4, _, h5⟩ := dd'
    refine d_write I (by rw [e]; exact True.intro) hs ⟨q, hq⟩ ⟨hl, hd, _, (rel.put k eb rv).keeps fun c ys ec => ?_, q, es, ep, hq, h2, h3, h4, h5⟩
    rw [upd_ne (ne_of ec e (fun z => nomatch z))]
    exact ec
end
section
variable {X : Cx} {pins : List (Addr × Obj)} {σ : St} {H : Hp} {s : Shared} {a : Addr} {kvs : List (Key × V)} {k : Key} {u : Value} {A : Around} {E : Value → Shared → Prop}
theorem d_len {Q : Value → Shared → Prop} (I : Inv X pins σ H s) (e : Rd H a (.dK kvs)) (h : ∀ t s', Inv X pins σ H s' → Q (.int kvs.length t) s') : wpAny (model X.prog X.w) A (call (.builtin "len") [.ref a]) Q E s := by
  obtain ⟨z, hd, vs, rel, dd⟩ := dk_rd I.hok e
  refine call_len_dict hd dd (by rw [← rel.length]; rw [sizeLine_eq] at z; omega) ?_
  rw [← rel.length]
  exact h _ _ (I.tok _)
end
noncomputable def NoSl (i : Expr) : Prop := ∀ ov iv, subscripted i false ov iv = operate [ov, iv] (getItem ov iv)
theorem subD_of {prog : Program} {w : World} {A : Around} {E : Value → Shared → Prop} {s : Shared} {env : Env} {value slice : Expr} {pos : Pos} {T id : String} {Q : Value → Shared → Prop}
    (hl : typeLookup (.type T) "__getitem__" = pure (some (.builtin id))) (hs : NoSl slice)
    (h : wpAny (model prog w) A (eval value env) (fun o s₁ => wpAny (model prog w) A (eval slice env) (fun i s₂ => s₂.TypeIs o T ∧ wpAny (model prog w) A (getItem o i) Q E s₂) E s₁) E s) :
    wpAny (model prog w) A (eval (.Subscript value slice pos) env) Q E s := by
  refine Subscript_ (wpAny_mono h (fun o s₁ h₁ => wpAny_mono h₁ (fun i s₂ h₂ => ?_) fun _ _ x => x) fun _ _ x => x)
  obtain ⟨hT, h₂⟩ := h₂
  unfold subscriptTail
  refine wpAny_bind ?_
  rw [getitemInPython_of_ne hT.not_modules]
  refine wpAny_bind (wpAny_specialOf hT hl ?_)
  have fin : wpAny (model prog w) A (subscripted slice false o i) (fun r s₃ => wpAny (model prog w) A (letTemporaryGo value o r >>= fun _ => pure r) Q E s₃) E s₂ := by
    rw [hs o i]
    exact wpAny_operating (wpAny_mono h₂ (fun r s₃ h₃ => wpAny_bind (wpAny_letTemporaryGo (wpAny_pure h₃))) fun _ _ x => x)
  first
    | exact wpAny_pure (wpAny_bind fin)
    | exact wpAny_bind (wpAny_pure (wpAny_bind fin))
    | exact wpAny_bind fin
theorem dict_typeIs {X : Cx} {pins : List (Addr × Obj)} {σ : St} {H : Hp} {s : Shared} {a : Addr} {y : V} {o : Option V} (I : Inv X pins σ H s) (g : DGet H a y o) : s.TypeIs (.ref a) "dict" := by
  rcases g with ⟨kvs, k, e, _, _⟩ | ⟨kvs, k, b, e, _, _, _⟩
  · obtain ⟨_, _, vs, _, dd⟩ := dk_rd I.hok e
    exact dd.typeIs
  · obtain ⟨_, _, xs, _, dd⟩ := dt_rd I.hok e
    exact dd.typeIs
theorem dk_empty {P : Program} {w : World} {H : Hp} (h : Heap) (hb : sysModules < h.objs.size) : ObjOk P w H (h.push { cls := .type "dict", data := .dict #[] }) h.objs.size (.dK []) :=
  ⟨Nat.zero_le _, beq_eq_false_iff_ne.mpr (Ne.symm (Nat.ne_of_lt hb)), [], .nil, Heap.DictOf.new h⟩
noncomputable def tDNewK : TE := fun _ H Q => ∀ p, H p = none → Q (.ref p) (upd H p (.dK []))
section
variable {X : Cx} {pos : Pos}
theorem pe_dnewK : PE X (.Dict [] [] pos) tDNewK := fun pins s σ H Q I h =>
  wpAny_Dict_empty ⟨.ref s.heap.objs.size, _, I.laid (a := s.heap.objs.size) (o := .dK []) (t' := s.toks) (fun _ _ q => Heap.get?_push_of_some _ q) (Nat.le_refl _) (dk_empty s.heap I.big), rfl, h _ (I.hok.fresh (Nat.le_refl _))⟩
end
noncomputable def tPairs : List (TE × TE) → St → Hp → (List (V × V) → Hp → Prop) → Prop
  | [], _, H, Q => Q [] H
  | (tk, tv) :: r, σ, H, Q => tk σ H fun x H1 => tv σ H1 fun y H2 => tPairs r σ H2 fun ps H3 => Q ((x, y) :: ps) H3
noncomputable abbrev VV : List (V × V) → List (Value × Value) → Prop := Paired fun p q => RelV p.1 q.1 ∧ RelV p.2 q.2
noncomputable def PPs (X : Cx) (pos : Pos) (keys : List (Option Expr)) (values : List Expr) (trs : List (TE × TE)) : Prop :=
  ∀ (pins : List (Addr × Obj)) (s : Shared) (σ : St) (H : Hp) (Q : List (V × V) → Hp → Prop), Inv X pins σ H s → tPairs trs σ H Q →
    wpAny (model X.prog X.w) X.A (evalPairs (pairTrees keys values X.env pos)) (fun vs s' => ∃ ps H', Inv X pins σ H' s' ∧ VV ps vs ∧ Q ps H') X.xe s
theorem pps_nil {X : Cx} {pos : Pos} : PPs X pos [] [] [] := fun pins s σ H Q I h => pairTrees_nil_walk ⟨[], H, I, .nil, h⟩
theorem pps_cons {X : Cx} {pos : Pos} {k v : Expr} {ks : List (Option Expr)} {vs : List Expr} {tk tv : TE} {trs : List (TE × TE)} (hk : PE X k tk) (hv : PE X v tv) (hr : PPs X pos ks vs trs) :
    PPs X pos (some k :: ks) (v :: vs) ((tk, tv) :: trs) := fun pins s σ H Q I h =>
  pairTrees_cons_walk (thn (hk pins s σ H _ I h) fun u s1 ⟨x, H1, I1, rx, q1⟩ => thn (hv pins s1 σ H1 _ I1 q1) fun w2 s2 ⟨y, H2, I2, ry, q2⟩ =>
    thn (hr pins s2 σ H2 _ I2 q2) fun ws s3 zq7 => by obtain ⟨ps, H3, I3, rel, q3⟩ := zq7; exact (⟨(x, y) :: ps, H3, I3, .cons ⟨rx, ry⟩ rel, q3⟩))
noncomputable def mergeK (kvs more : List (Key × V)) : List (Key × V) := more.foldl (fun acc kv => putK acc kv.1 kv.2) kvs
theorem KV.merge : ∀ {more : List (Key × V)} {rs : List (Key × Value)} {kvs : List (Key × V)} {vs : List (Key × Value)}, KV more rs → KV kvs vs → KV (mergeK kvs more) (merged vs rs) := by
  intro more rs kvs vs r
  unfold KV at r
  induction r generalizing kvs vs with
  | nil => intro q; exact q
  | @cons p q ps qs h t ih =>
    intro r0
    have e : KV (putK kvs p.1 p.2) (stored vs q.1 q.2) := by
      have := r0.put p.1 h.2
      rw [← h.1]; exact this
    exact ih e
theorem length_mergeK : ∀ (more kvs : List (Key × V)), (mergeK kvs more).length ≤ kvs.length + more.length
  | [], kvs => by show kvs.length ≤ kvs.length + 0; omega
  | p :: r, kvs => by
    have h1 := length_mergeK r (putK kvs p.1 p.2)
    have h2 := length_putK kvs p.1 p.2
    show (mergeK (putK kvs p.1 p.2) r).length ≤ _
    rw [List.length_cons]; omega
theorem carries_of {P : Program} {w : World} : ∀ {kvs : List (Key × V)} {ws : List (Value × Value)}, VV (kvs.map fun kv => (kV kv.1, kv.2)) ws → ∃ rs, Carries (mixKind P w) ws rs ∧ KV kvs rs
  | [], _, r => by rw [List.map_nil] at r; cases r; exact ⟨[], True.intro, .nil⟩
  | p :: kvs, _, r => by
    rw [List.map_cons] at r
    cases r with
    | @cons a b as bs h t =>
      obtain ⟨rs, c, q⟩ := carries_of (P := P) (w := w) t
      obtain ⟨b1, b2⟩ := b
      exact ⟨(p.1, b2) :: rs, ⟨kV_is h.1, rfl, c⟩, .cons ⟨rfl, h.2⟩ q⟩
noncomputable def tDisp (trs : List (TE × TE)) : TE := fun σ H Q => ∀ p, H p = none → tPairs trs σ (upd H p (.dK [])) fun ps H2 => H2 p = some (.dK []) ∧ ∃ kvs : List (Key × V), ps = kvs.map (fun kv => (kV kv.1, kv.2)) ∧ kvs.length ≤ 15 ∧ Q (.ref p) (upd H2 p (.dK (mergeK [] kvs)))
theorem pe_disp {X : Cx} {pos : Pos} {keys : List (Option Expr)} {values : List Expr} {trs : List (TE × TE)} (h : PPs X pos keys values trs) (hall : keys.all (·.isSome) = true) (hl : keys.length = values.length) (h0 : keys ≠ [])
    (h15 : keys.length ≤ 15) : PE X (.Dict keys values pos) (tDisp trs) := by
  intro pins s σ H Q I q
  have hn := I.hok.fresh (Nat.le_refl s.heap.objs.size)
  have I1 := I.laid (a := s.heap.objs.size) (o := .dK []) (h' := s.heap.push { cls := .type "dict", data := .dict #[] }) (t' := s.toks) (fun _ _ q => Heap.get?_push_of_some _ q) (Nat.le_refl _) (dk_empty s.heap I.big)
  refine wpAny_Dict_walk (knd := mixKind X.prog X.w) hall hl h0 h15 (thn (h pins _ σ _ _ I1 (q _ hn)) fun ws s2 zr2867 => ?_)
  obtain ⟨ps, H2, I2, rel, e, kvs, ep, lk, q2⟩ := zr2867
  subst ep
  obtain ⟨rs, c, rk⟩ := carries_of (P := X.prog) (w := X.w) rel
  obtain ⟨z, hd, vs0, r0, dd⟩ := dk_of I2.hok e
  cases r0
  refine ⟨rs, c, dd, fun h' dd' hs => ⟨.ref s.heap.objs.size, _, ?_, rfl, q2⟩⟩
  have hz : (mergeK [] kvs).length ≤ sizeLine := by
    have h1 := length_mergeK kvs []
    rw [List.length_nil] at h1
    rw [sizeLine_eq]; omega
  have he : ∃ q, h'.get? s.heap.objs.size = some q := let ⟨q, _, _, hq, _⟩ := dd'; ⟨q, hq⟩
  exact d_write I2 (by rw [e]; exact True.intro) hs he (dk_new hz hd (rk.merge .nil) dd')
noncomputable def IsD (H : Hp) (a : Addr) : Prop := (∃ kvs, Rd H a (.dK kvs)) ∨ ∃ kvs, Rd H a (.dT kvs)
theorem isD_at {X : Cx} {pins : List (Addr × Obj)} {σ : St} {H : Hp} {s : Shared} {a : Addr} (I : Inv X pins σ H s) (d : IsD H a) :
    s.TypeIs (.ref a) "dict" ∧ (∀ b, Value.ref a = .ref b → ∃ ob, s.heap.get? b = some ob ∧ ob.dict = none) ∧ (a == sysModules) = false := by
  rcases d with ⟨kvs, e⟩ | ⟨kvs, e⟩
  · obtain ⟨_, hd, vs, _, dd⟩ := dk_rd I.hok e
    refine ⟨dd.typeIs, fun b q => ?_, hd⟩
    cases q
    obtain ⟨ob, _, _, h1, h2, _⟩ := dd
    exact ⟨ob, h1, h2.2.1⟩
  · obtain ⟨_, hd, xs, _, dd⟩ := dt_rd I.hok e
    refine ⟨dd.typeIs, fun b q => ?_, hd⟩
    cases q
    obtain ⟨ob, _, _, h1, h2, _⟩ := dd
    exact ⟨ob, h1, h2.2.1⟩
end L2
namespace Att
open PySem PySem.W PySem.Calls PyProof.Rows
theorem ints_of_wellAll {P : Params} {h : Heap} : ∀ (ns : List Int) (vs : List Value), WellAll P h vs (ns.map WData.int) → IntsAre vs ns := by
  intro ns
  induction ns with
  | nil =>
    intro vs w
    rw [List.map_nil] at w
    cases w
    exact .nil
  | cons n ns ih =>
    intro vs w
    rw [List.map_cons] at w
    cases w with
    | cons a b =>
      cases a
      exact .cons _ _ (ih _ b)
theorem script_of {l : OpenLaw} {n : Nat} (hn : l.most = some n) {P : Params} {h : Heap} {args : List WData} {vals : List Value}
    (hpre : l.row.toRowW.claim.pre args = true) (hwl : WellAll P h vals args) :
    ∃ a vs ns, vals = [Value.ref a] ∧ args = [WData.list (ns.map WData.int)] ∧ h.get? a = some { cls := .type "list", data := .seq vs.toArray } ∧ IntsAre vs ns ∧ ns.length ≤ n := by
  have hsh : WShape.hasAll [] args [.list .int] = true := (pre_splitW hpre).1
  have hc : l.pre.holds [] { args := args } = true := (pre_splitW hpre).2
  obtain ⟨d, r, rfl, h1, h2⟩ := hasAllW_cons hsh
  obtain rfl := hasAllW_nil h2
  obtain ⟨xs, rfl, h3⟩ := hasW_list h1
  obtain ⟨ns, rfl⟩ := items_int h3
  have hlen : ns.length ≤ n := by
    unfold OpenLaw.pre at hc
    have h4 : (WTm.not (.lt (.lit (.int (n : Int))) (.len (.arg 0)))).holds [] { args := [.list (ns.map .int)] } = true := by
      have h4 := (holds_andW hc).1
      rw [hn] at h4
      exact h4
    have h5 := condW_of h4 (w_not (w_lt w_lit (w_len_list (w_arg rfl))))
    rw [List.length_map] at h5
    refine Nat.le_of_not_lt fun q => ?_
    have q' : (n : Int) < ((ns.length : Nat) : Int) := by omega
    first
      | (rw [decide_eq_true q'] at h5; exact absurd h5 (by decide))
      | (simp at h5; omega)
  cases hwl with
  | cons w1 w2 =>
    cases w2
    cases w1 with
    | list ho hall => exact ⟨_, _, ns, rfl, rfl, ho, ints_of_wellAll ns _ hall, hlen⟩
theorem post_true (l : OpenLaw) (args : List WData) : l.row.toRowW.claim.post args (.bool true) args = true :=
  postW_of (r := l.row.toRowW) (X := (true == true))
    (show WShape.has [] (.bool true) .bool = true by first | rfl | decide | simp [WShape.has, WShape.arms, WShape.armsAll])
    (show (WTm.eq .res (.lit (.bool true))).value [] { args := args, res := some (.bool true), after := args } = some (.bool (true == true)) from w_eq_bool (w_res rfl) w_lit) rfl
theorem attach_call {l : OpenLaw} {n : Nat} {q : Program} {loose : List Str} {XP : (Str → Option Value) → Heap → Prop} {YP : World → Heap → Prop} {d : DefRec}
    (hn : l.most = some n) (hdf : d.params.defaults = [])
    (call : ∀ (w : World) (s₀ s₁ : Shared) (mg mb : Str → Option Value) (fa : Addr) (o : Obj) (pm cd doc : Value) (a : Addr) (vs : List Value) (ns : List Int),
      Ground q loose [] XP w s₀ mg mb s₁.heap → YP w s₁.heap →
      s₁.heap.get? fa = some o → o.data = .func (docDef d.name d.params d.body d.scope pm cd doc) → s₁.heap.CodeRec cd d.name → mg d.name = some (.ref fa) →
      s₁.heap.get? a = some { cls := .type "list", data := .seq vs.toArray } → IntsAre vs ns → ns.length ≤ n → s₁.gens = #[] →
      codeAny (model l.prog w) callerA (.call (.ref fa) ⟨[.ref a], []⟩) (fun r s' => r = .ok (.ret (.bool true)) ∧ OldK s₁.heap s'.heap ∧ s'.os = s₁.os ∧ AllBare s'.gens) s₁) :
    WalkO q loose XP YP l.row.toRowW d [] (fun f vs => PySem.call f vs) := by
  intro w s₀ s₁ mg mb G Y fa o pm cd doc dV kV ho hd hcd hD hmg hg args vals as hpre hlay hrd hwl hlo
  obtain rfl : dV = .none := Dflts.none hD hdf
  obtain rfl : kV = .none := Dflts.noKw hD
  obtain ⟨a, vs, ns, rfl, rfl, hobj, hints, hlen⟩ := script_of hn hpre hwl
  refine enter_call (codeAny_mono (call w s₀ s₁ mg mb fa o pm cd doc a vs ns G Y ho (fd_plain hd) hcd hmg hobj hints hlen hg) fun r s' hq => ?_)
  obtain ⟨rfl, h2, h3, h4⟩ := hq
  exact ⟨.inl ⟨.bool true, .bool true, [], rfl, fun _ => rfl, .bool true, post_true l _, fun _ => ⟨List.Pairwise.nil, fun _ hm => (nomatch hm)⟩⟩, h2, h3, h4⟩
end Att
namespace L2
open PySem PySem.Spec PyProof.Rows
theorem vals_ints : ∀ {vs : List Value} {ns : List Int}, IntsAre vs ns → Vals (ns.map V.int) vs
  | _, _, .nil => .nil
  | _, _, .cons n t h => .cons ⟨t, rfl⟩ (vals_ints h)
noncomputable def Only (H : Hp) : Prop := ∀ b, H b = none ∨ ∃ o xs, H b = some (.frz o (.lst xs))
theorem law_call {P : Program} {w : World} {K : PySem.W.Frag} {mg mb : Str → Option Value} {CX : CXT} {k : Nat} {fa a : Addr} {fd : FuncData} {x : Str} {sp : Sp} {s₁ : Shared} {vs : List Value} {ns : List Int}
    (KX : K.In s₁.heap) (hns : s₁.heap.Ns mainGlobals mg) (hb : s₁.heap.Ns builtinsNs mb) (hbb : ∀ x : Str, x ≠ "__name__" → mb x = bootBuiltins x) (hlim : s₁.heap.NoLimit) (hg : s₁.gens = #[])
    (ha : s₁.heap.get? a = some { cls := .type "list", data := .seq vs.toArray }) (hi : IntsAre vs ns) (hl : ns.length ≤ sizeLine) (hr : Room k callerA)
    (F : ∀ base : Heap, K.In base → base.Ns mainGlobals mg → FnOk P w K mg base CX k fa fd [x] sp) (hbind : ∀ (s : Shared) (u : Value), BindsTo s fd ⟨[u], []⟩ [(x, u)])
    (hsp : ∀ H : Hp, Only H → SqL K H a (ns.map V.int) → sp [.ref a] H (fun v _ => v = .bl true) fun _ _ _ => False)
    (hCX : ∀ H e s', CX [] H s₁ (fun _ _ _ => False) e s' → False) :
    codeAny (model P w) callerA (.call (.ref fa) ⟨[.ref a], []⟩) (fun r s' => r = .ok (.ret (.bool true)) ∧ OldK s₁.heap s'.heap ∧ s'.os = s₁.os ∧ AllBare s'.gens) s₁ := by
  have rv := vals_ints hi
  have lenV := hi.length
  -- from an abstract heap in which nothing but the script may be tracked
  have core : ∀ H : Hp, Only H → SqL K H a (ns.map V.int) → HOk P w H s₁.heap → (∀ b, H b ≠ none → b = a) → (H a ≠ none → K.lookup a = none) →
      codeAny (model P w) callerA (.call (.ref fa) ⟨[.ref a], []⟩) (fun r s' => r = .ok (.ret (.bool true)) ∧ OldK s₁.heap s'.heap ∧ s'.os = s₁.os ∧ AllBare s'.gens) s₁ := by
    intro H hO hS hok hA hK
    have base_of : ∀ {b : Addr} {o : Obj}, s₁.heap.get? b = some o → H b = none → (hidT s₁.heap H).get? b = some o := fun e n => hidT_get e n
    have noA : ∀ {b : Addr} {o : Obj} {es : Array DictEntry} {ep : Nat}, s₁.heap.get? b = some o → o.data = .dict es ep → H b = none := fun {b o es ep} e d => by
      cases q : H b with
      | none => rfl
      | some u =>
        have e' : b = a := hA b (by rw [q]; simp)
        subst e'
        rw [ha] at e; cases e
        have d' : Data.seq vs.toArray _ = Data.dict es ep := d
        cases d'
    have nsK : ∀ {b : Addr} {m : Str → Option Value}, s₁.heap.Ns b m → (hidT s₁.heap H).Ns b m := fun {b m} zq8 => by obtain ⟨o, es, ep, e, d, r⟩ := zq8; exact (⟨o, es, ep, base_of e (noA e d), d, r⟩)
    have hKb : K.In (hidT s₁.heap H) := fun b o e => base_of (KX b o e) (by
      cases q : H b with
      | none => rfl
      | some u =>
        have e' : b = a := hA b (by rw [q]; simp)
        subst e'
        rw [hK (by rw [q]; simp)] at e; cases e)
    have hM : Mod K mg (hidT s₁.heap H) := ⟨hKb, nsK hns, ⟨mb, nsK hb, hbb⟩, let ⟨mc, h1, h2⟩ := hlim; ⟨mc, nsK h1, h2⟩⟩
    have e0 : Env0 P w K mg (hidT s₁.heap H) callerA [] s₁ H := ⟨rfl, hM, fun b o e => of_hidT e, Nat.le_of_eq (hidT_size _ _), trivial, fun b hb => absurd (show b ∈ ([] : List Addr) from hb) (by simp), hok, .of_eq hg⟩
    refine codeAny_mono ((F _ hKb (nsK hns)).run callerA [] s₁ H ⟨[.ref a], []⟩ [.ref a] [.ref a] _ _ hr e0 (hbind s₁ (.ref a)) (.cons rfl .nil) (hsp H hO hS)) fun r s' h => ?_
    cases r with
    | error e => exact (hCX H e s' h).elim
    | ok fl =>
      cases fl with
      | next => exact False.elim h
      | brk => exact False.elim h
      | cont => exact False.elim h
      | ret u =>
        obtain ⟨v, H', os, bare, un, hok', r', q⟩ := h
        have q' : v = .bl true := q
        subst q'
        obtain rfl : u = Value.bool true := r'
        refine ⟨rfl, OldK.of_keep fun b o e => ?_, os, bare⟩
        cases q : H b with
        | none => exact un.keep b o e q (by intro z; exact absurd (show b ∈ ([] : List Addr) from z) (by simp)) (by simp)
        | some u =>
          rcases hO b with z | ⟨ob, xs, z⟩
          · rw [q] at z; cases z
          · have z2 := un.frzs b ob _ z
            obtain ⟨e1, _⟩ := hok b _ z
            obtain ⟨e2, _⟩ := hok' b _ z2
            rw [e] at e1; cases e1
            exact e2
  cases hk : K.lookup a with
  | some o =>
    -- the script is one of the module's own objects
    have e := KX a o hk
    rw [ha] at e
    cases e
    refine core (fun _ => none) (fun _ => .inl rfl) (.inr ⟨_, vs.toArray, _, hk, rfl, rfl, rfl, by rw [List.size_toArray, lenV]; exact hl, by simpa using rv⟩) (fun b u z => by have z' : (none : Option HO) = some u := z; cases z') (fun b z => absurd rfl z) fun z => absurd rfl z
  | none =>
    refine core (fun b => if b = a then some (.frz { cls := .type "list", data := .seq vs.toArray } (.lst (ns.map V.int))) else none) (fun b => ?_) (.inl (.inr ⟨{ cls := .type "list", data := .seq vs.toArray }, if_pos rfl⟩)) (fun b u z => ?_) (fun b z => ?_) fun _ => hk
    · by_cases hb : b = a
      · exact .inr ⟨_, _, if_pos hb⟩
      · exact .inl (if_neg hb)
    · by_cases hb : b = a
      · have z' := (if_pos hb).symm.trans z
        cases z'
        subst hb
        exact ⟨ha, by rw [List.length_map]; exact hl, vs, _, rv, ha⟩
      · have z' := (if_neg hb).symm.trans z
        cases z'
    · by_cases hb : b = a
      · exact hb
      · exact absurd (if_neg hb) z
end L2
namespace L2
open PySem PySem.Spec PyProof.Rows
theorem walk_of {l : PySem.W.OpenLaw} {n k : Nat} {q : Program} {loose : List Str} {XP : (Str → Option Value) → Heap → Prop} {YP : World → Heap → Prop} {d : DefRec} {K : Params → PySem.W.Frag} {CX : World → CXT} {sp : World → Sp} {x : Str}
    (hn : l.most = some n) (hn2 : n ≤ sizeLine) (hdf : d.params.defaults = []) (hr : Room k callerA)
    (hY : ∀ (w : World) (h : Heap), YP w h → (K w.params).In h)
    (F : ∀ (w : World) (mg : Str → Option Value) (fa : Addr) (h : Heap), (K w.params).In h → h.Ns mainGlobals mg → mg d.name = some (.ref fa) →
      ∃ fd : FuncData, (∀ (s : Shared) (u : Value), BindsTo s fd ⟨[u], []⟩ [(x, u)]) ∧
        ∀ base : Heap, (K w.params).In base → base.Ns mainGlobals mg → FnOk l.prog w (K w.params) mg base (CX w) k fa fd [x] (sp w))
    (hsp : ∀ (w : World) (H : Hp) (a : Addr) (ns : List Int), ns.length ≤ n → Only H → SqL (K w.params) H a (ns.map V.int) → sp w [.ref a] H (fun v _ => v = .bl true) fun _ _ _ => False)
    (hCX : ∀ (w : World) (H : Hp) (s : Shared) (e : Value) (s' : Shared), CX w [] H s (fun _ _ _ => False) e s' → False) :
    PySem.W.WalkO q loose XP YP l.row.toRowW d [] (fun f vs => PySem.call f vs) := by
  refine Att.attach_call hn hdf fun w s₀ s₁ mg mb fa o pm cd doc a vs ns G Y ho hd hcd hmg hobj hints hlen hg => ?_
  have KX := hY w _ Y
  obtain ⟨fd, hb, hF⟩ := F w mg fa _ KX G.T.g hmg
  exact law_call KX G.T.g G.T.b G.T.builtins G.T.nolimit hg hobj hints (Nat.le_trans hlen hn2) hr hF hb (fun H hO hS => hsp w H a ns hlen hO hS) fun H e s' => hCX w H s₁ e s'
end L2
namespace L2
open PySem PySem.Spec PyProof.Rows
noncomputable def inClass (s : Stmt) (j : Nat) : Stmt := match s with
  | .ClassDef _ _ _ body _ _ _ _ _ _ _ => body.getD j (.Pass ⟨0, 0, 0, 0⟩)
  | _ => .Pass ⟨0, 0, 0, 0⟩
noncomputable def defArgs (s : Stmt) : Arguments := match s with
  | .FunctionDef _ a _ _ _ _ _ _ _ _ => a
  | _ => { posonlyargs := [], args := [], vararg := none, kwonlyargs := [], kw_defaults := [], kwarg := none, defaults := [] }
noncomputable def defBody (s : Stmt) : List Stmt := match s with
  | .FunctionDef _ _ b _ _ _ _ _ _ _ => b
  | _ => []
noncomputable def defScope (s : Stmt) : Scope := match s with
  | .FunctionDef _ _ _ _ _ _ sc _ _ _ => sc
  | _ => { kind := .function, names := [], isGenerator := false, isCoroutine := false }
noncomputable abbrev CX0 : CXT := fun _ _ _ _ _ _ => False
noncomputable abbrev E0 : XK := fun _ _ _ => False
theorem pass0 {X : Cx} : Passes CX0 X E0 := fun _ _ _ _ _ _ _ h => h.elim
structure Fun (K : PySem.W.Frag) (x qual : Str) (st : Stmt) (f : Addr) (fd : FuncData) : Prop where
  ex : ∃ (oc : Value) (od : Option Addr) (kV doc pm : Value) (an : Option Addr) (cdv ct : Value) (osl : Array (Option Value)),
    fd = PySem.W.fnOf x qual (defArgs st) (defBody st) (defScope st) .none kV doc pm an cdv ct ∧ K.lookup f = some ⟨oc, od, .func fd, osl⟩ ∧ PySem.W.codeIn K cdv qual = true
  kp : PySem.W.keepIn K (.ref f) = true
section
variable {P : Program} {w : World} {K : PySem.W.Frag} {mg : Str → Option Value} {base : Heap}
theorem Fun.ok {x qual : Str} {st : Stmt} {f : Addr} {fd : FuncData} {N ps : List Str} {k : Nat} {sp : Sp} (F : Fun K x qual st f fd) (S : FnScope N ps (defScope st)) (len : ∀ vs H Q E, sp vs H Q E → vs.length = ps.length)
    (hbody : ∀ (cdv : Value) (A : Around) (outer : List Env) (s : Shared) (H : Hp) (vs : List V) (Q : VK) (E : XK), Room k (A.deeper (envOfC qual (defScope st) s.heap.objs.size f cdv)) → sp vs H Q E →
      ∃ t, PSs (cxOf CX0 P w K mg base N qual (defScope st) f cdv A outer s H E).nox (defBody st) t ∧ t { nx := fun _ H' => Q .non H', rt := Q } (start N vs) H) : FnOk P w K mg base CX0 (k + 1) f fd ps sp := by
  obtain ⟨oc, od, kV, doc, pm, an, cdv, ct, osl, rfl, lk, hcd⟩ := F.ex
  refine fn_of lk hcd S len fun A outer s H vs Q E hr hsp => ?_
  obtain ⟨t, h, q⟩ := hbody cdv A outer s H vs Q E hr hsp
  exact ⟨t, h.nox, q⟩
theorem Fun.binds {x qual : Str} {st : Stmt} {f : Addr} {fd : FuncData} {ps : List Str} (F : Fun K x qual st f fd)
    (h : ∀ (kV doc pm : Value) (an : Option Addr) (cdv ct : Value) (us : List Value), us.length = ps.length → bindArgs (PySem.W.fnOf x qual (defArgs st) (defBody st) (defScope st) .none kV doc pm an cdv ct) ⟨us, []⟩ = pure (ps.zip us)) : Binds K fd ps [] := by
  obtain ⟨oc, od, kV, doc, pm, an, cdv, ct, osl, rfl, lk, hcd⟩ := F.ex
  exact .all (h kV doc pm an cdv ct)
theorem fun_mk {x qual : Str} {st : Stmt} {f : Addr} {oc : Value} {od an : Option Addr} {osl : Array (Option Value)} {kV doc pm cdv ct : Value} (l : K.lookup f = some ⟨oc, od, .func (PySem.W.fnOf x qual (defArgs st) (defBody st) (defScope st) .none kV doc pm an cdv ct), osl⟩)
    (c : PySem.W.codeIn K cdv qual = true) (k : PySem.W.keepIn K (.ref f) = true) : Fun K x qual st f (PySem.W.fnOf x qual (defArgs st) (defBody st) (defScope st) .none kV doc pm an cdv ct) := ⟨⟨oc, od, kV, doc, pm, an, cdv, ct, osl, rfl, l, c⟩, k⟩
end
theorem hu_of {A : Around} {k : Nat} (hr : Room k A) : A.units + 1 < cLine := Nat.lt_of_le_of_lt (Nat.add_le_add_left (by decide : 1 ≤ 64) _) hr.units
theorem small1000 {n : Nat} (h : n ≤ 1000) : n < sizeLine := Nat.lt_of_le_of_lt h (by decide)
theorem ite2 {c A B : Prop} [Decidable c] (h1 : c → A) (h2 : ¬ c → B) : if c then A else B := by
  by_cases h : c
  · rw [if_pos h]
    exact h1 h
  · rw [if_neg h]
    exact h2 h
noncomputable def Same (H H' : Hp) : Prop := ∀ b o, H b = some o → H' b = some o
theorem Same.refl (H : Hp) : Same H H := fun _ _ h => h
theorem Same.trans {H H1 H2 : Hp} (a : Same H H1) (b : Same H1 H2) : Same H H2 := fun c o h => b c o (a c o h)
theorem Same.free {H H' : Hp} (e : Same H H') {l : Addr} (h : H' l = Option.none) : H l = Option.none := by
  cases q : H l with
  | none => rfl
  | some o =>
    rw [e l o q] at h
    cases h
theorem Same.seq {K : PySem.W.Frag} {H H' : Hp} {a : Addr} {xs : List V} (e : Same H H') (h : SqL K H a xs) : SqL K H' a xs := by
  rcases h with (h | ⟨o, h⟩) | h
  · exact .inl (.inl (e _ _ h))
  · exact .inl (.inr ⟨o, e _ _ h⟩)
  · exact .inr h
end L2
namespace L2
open PySem PySem.Spec PyProof.Rows
section
variable {X : Cx}
theorem call_lenD : CallR X (.builtin "len") (fun xs H Q => ∃ a kvs, xs = [V.ref a] ∧ H a = some (.dK kvs) ∧ Q (.int kvs.length) H) := by
  intro pins s σ H xs us Q I r h
  obtain ⟨a, kvs, rfl, ha, q⟩ := h
  obtain ⟨u, rfl, ru⟩ := vals1 r
  cases ru
  exact d_len I (.inl ha) fun t s' I' => ⟨.int kvs.length, H, I', ⟨t, rfl⟩, q⟩
end
section
variable {κ : Type} [DecidableEq κ]
theorem valV_not {kvs : List (κ × V)} {k : κ} (h : valV kvs k = none) : ¬ k ∈ kvs.map (·.1) := by
  intro m
  obtain ⟨p, hp, e⟩ := List.mem_map.mp m
  have q : (kvs.any fun kv => decide (kv.1 = k)) = true := List.any_eq_true.mpr ⟨p, hp, decide_eq_true e⟩
  rw [valV_any, h] at q
  exact absurd q (by simp)
theorem nd_snoc : ∀ {l : List κ} {k : κ}, l.Nodup → ¬ k ∈ l → (l ++ [k]).Nodup
  | [], k, _, _ => by simp
  | a :: r, k, h, hk => by
    obtain ⟨h1, h2⟩ := List.nodup_cons.mp h
    show (a :: (r ++ [k])).Nodup
    refine List.nodup_cons.mpr ⟨fun m => ?_, nd_snoc h2 fun m => hk (List.mem_cons.mpr (Or.inr m))⟩
    rcases List.mem_append.mp m with q | q
    · exact h1 q
    · exact hk (List.mem_cons.mpr (Or.inl (List.mem_singleton.mp q).symm))
theorem nd_putK {kvs : List (κ × V)} {k : κ} (v : V) (hn : (kvs.map (·.1)).Nodup) (h : valV kvs k = none) : ((putK kvs k v).map (·.1)).Nodup := by
  rw [putK_new v h, List.map_append]
  exact nd_snoc hn (valV_not h)
end
end L2
namespace L2
open PySem PySem.Spec PyProof.Rows
theorem compLoop_any {prog : Program} {w : World} {A : Around} {R : Result → Shared → Prop} {s : Shared} {elt target iter : Expr} {ifs : List Expr} {scope : Scope} {pos : Pos} {it acc : Value} {env : Env} (I : Nat → Shared → Prop)
    (turn : ∀ n s, I n s → wpAny (model prog w) A (pyNext it) (fun r s₁ => match r with
      | none => R (.ok .next) s₁
      | some v => wpAny (model prog w) A (letOwnedTupleGo target it v) (fun _ s₁ => wpAny (model prog w) A (assign target env v) (fun _ s₂ =>
          wpAny (model prog w) A (forIn ifs true fun c r => if r = true then do let ok ← isTrue c env (eval c env); pure (ForInStep.yield ok) else pure (ForInStep.yield r)) (fun ok s₃ =>
            if ok = true then wpAny (model prog w) A (eval elt env) (fun x s₄ =>
              wpAny (model prog w) A (call (.builtin "list.append") [acc, x]) (fun _ s₅ => ∃ m, m < n ∧ I m s₅) (notedBy (model prog w) A env fun e s' => R (.error e) s') s₄) (notedBy (model prog w) A env fun e s' => R (.error e) s') s₃
            else ∃ m, m < n ∧ I m s₃) (notedBy (model prog w) A env fun e s' => R (.error e) s') s₂) (notedBy (model prog w) A env fun e s' => R (.error e) s') s₁) (notedBy (model prog w) A env fun e s' => R (.error e) s') s₁) (notedBy (model prog w) A env fun e s' => R (.error e) s') s)
    (n : Nat) (h : I n s) :
    codeAny (model prog w) A (.compLoop (.ListComp elt [⟨target, iter, ifs, 0⟩] scope pos) 0 it acc env) R s := by
  refine codeAny_loop rfl I (fun n s hI => ?_) n h
  show wpAny _ A ((compTurn (.ListComp elt [⟨target, iter, ifs, 0⟩] scope pos) 0 it acc env).onRaise (fun x => do noteFrame x env; theTreesLotGoes x)) _ _ s
  refine wpAny_noted ?_
  rw [compTurn_list]
  refine wpAny_bind (wpAny_standAt (wpAny_bind (wpAny_mono (turn n s hI) (fun r s₁ h₁ => ?_) fun _ _ h' => h')))
  cases r with
  | none => exact wpAny_pure h₁
  | some v =>
    refine wpAny_bind (wpAny_mono h₁ (fun _ s₁ h₁ => ?_) fun _ _ h' => h')
    refine wpAny_bind (wpAny_mono h₁ (fun _ s₂ h₂ => wpAny_bind (wpAny_mono h₂ (fun ok s₃ h₃ => ?_) fun _ _ h' => h')) fun _ _ h' => h')
    cases ok with
    | false => exact wpAny_pure ⟨rfl, h₃⟩
    | true =>
      exact wpAny_bind (wpAny_bind (wpAny_mono h₃ (fun x s₄ h₄ => wpAny_bind (wpAny_mono h₄ (fun _ s₅ h₅ => wpAny_pure (wpAny_pure ⟨rfl, h₅⟩)) fun _ _ h' => h')) fun _ _ h' => h'))
noncomputable def PTs (X : Cx) (ifs : List Expr) (t : TT) : Prop :=
  ∀ (pins : List (Addr × Obj)) (s : Shared) (σ : St) (H : Hp) (Q : Bool → Hp → Prop), Inv X pins σ H s → t σ H Q →
    wpAny (model X.prog X.w) X.A (forIn ifs true fun c r => if r = true then do let ok ← isTrue c X.env (eval c X.env); pure (ForInStep.yield ok) else pure (ForInStep.yield r)) (TP X pins σ Q) X.xe s
noncomputable def tYes : TT := fun _ H Q => Q true H
theorem pts_nil {X : Cx} : PTs X [] tYes := fun _ _ _ H _ I h => wpAny_tests_nil ⟨H, I, h⟩
theorem pts_one {X : Cx} {c : Expr} {t : TT} (hc : PT X c t) : PTs X [c] t := fun pins s σ H Q I h => wpAny_tests_one (hc pins s σ H Q I h)
theorem closure_of {env : Env} : ∀ (names : List (Str × NameKind)) (acc : List (Str × Addr)), (∀ x ∈ names, x.2 = .free → ∃ c, env.cells.lookup x.1 = some c) →
    ∃ cl, (forIn (m := Sem) names acc fun x r => match x with
      | (name, kind) => if (kind == NameKind.free) = true then do let c ← cellOf env name; pure (ForInStep.yield ((name, c) :: r)) else pure (ForInStep.yield r)) = pure cl ∧
      (∀ x c, cl.lookup x = some c → acc.lookup x = some c ∨ env.cells.lookup x = some c) ∧ (∀ x, (acc.lookup x).isSome = true → (cl.lookup x).isSome = true) ∧ (∀ x, (x, NameKind.free) ∈ names → (cl.lookup x).isSome = true)
  | [], acc, _ => ⟨acc, rfl, fun x c h => .inl h, fun x h => h, fun x h => nomatch h⟩
  | (n, k) :: r, acc, h => by
    by_cases hk : k = .free
    · subst hk
      obtain ⟨c, hc⟩ := h (n, .free) List.mem_cons_self rfl
      obtain ⟨cl, e, h1, h2, h3⟩ := closure_of r ((n, c) :: acc) (fun x hx => h x (List.mem_cons_of_mem _ hx))
      refine ⟨cl, ?_, fun x d hd => ?_, fun x hx => h2 x ?_, fun x hx => ?_⟩
      · simp only [List.forIn_cons, beq_self_eq_true, if_true, cellOf, hc]
        exact e
      · rcases h1 x d hd with q | q
        · simp only [List.lookup_cons] at q
          split at q
          · rename_i hb
            have : x = n := by simpa using hb
            subst this
            cases q
            exact .inr hc
          · exact .inl q
        · exact .inr q
      · simp only [List.lookup_cons]
        split
        · rfl
        · exact hx
      · rcases List.mem_cons.mp hx with q | q
        · cases q
          exact h2 n (by simp)
        · exact h3 x q
    · obtain ⟨cl, e, h1, h2, h3⟩ := closure_of r acc (fun x hx => h x (List.mem_cons_of_mem _ hx))
      refine ⟨cl, ?_, h1, h2, fun x hx => ?_⟩
      · have : (k == NameKind.free) = false := by simpa using hk
        simp only [List.forIn_cons, this, Bool.false_eq_true, if_false]
        exact e
      · rcases List.mem_cons.mp hx with q | q
        · cases q
          exact absurd rfl hk
        · exact h3 x q
noncomputable def compCx (X : Cx) (scope : Scope) (N : List Str) (cl : List (Str × Addr)) (C : Addr) (fp : List Addr) (s : Shared) (H : Hp) (xe : Value → Shared → Prop) : Cx where
  prog := X.prog
  w := X.w
  K := X.K
  mg := X.mg
  base := X.base
  A := X.A
  N := N
  s₀ := s
  H₀ := H
  env := compEnvC scope cl C X.env
  outer := X.stack
  stack := X.stack
  ex := fp
  fn := fun _ => false
  calm := X.calm
  pn := []
  xe := xe
noncomputable def inner (nt : Nat) (js : List Nat) (σ : St) : St := List.replicate nt none ++ js.map fun j => (σ[j]?).join
noncomputable def Wk (σ0 σ2 : St) : Prop := σ0.length = σ2.length ∧ ∀ (i : Nat) v, σ0[i]? = some (some v) → σ2[i]? = some (some v)
noncomputable def TgOk (g : TG) (nt : Nat) : Prop := ∀ (x : V) (σ0 : St) (H : Hp) (Q : St → Hp → Prop), (∀ i, i < nt → σ0[i]? = some none) → g x σ0 H Q → g x σ0 H fun σ2 H2 => Wk σ0 σ2 ∧ Q σ2 H2
theorem Wk.set {σ0 : St} {i : Nat} {v : V} (h : σ0[i]? = some none) : Wk σ0 (σ0.set i (some v)) := by
  refine ⟨by simp, fun j w e => ?_⟩
  by_cases hj : j = i
  · subst hj; rw [h] at e; cases e
  · rw [List.getElem?_set_ne (Ne.symm hj)]; exact e
theorem Wk.trans {a b c : St} (h : Wk a b) (h' : Wk b c) : Wk a c := ⟨h.1.trans h'.1, fun i v e => h'.2 i v (h.2 i v e)⟩
theorem tgOk_name {i nt : Nat} (hi : i < nt) : TgOk (gName i) nt := fun x σ0 H Q h q => ⟨Wk.set (h i hi), q⟩
theorem inner_none {nt : Nat} {js : List Nat} {σ : St} : ∀ i, i < nt → (inner nt js σ)[i]? = some none := fun i hi => by
  unfold inner
  rw [List.getElem?_append_left (by simpa using hi)]
  simp [hi]
noncomputable def tComp (nt : Nat) (js : List Nat) (wi : TI) (g : TG) (tc : TT) (te : TE) : TE := fun σ H Q => wi σ H fun J H1 => ∀ D, H1 D = none → ∃ W : Nat → Nat → List V → Hp → Prop, (∃ m, W 0 m [] (upd H1 D (.lst []))) ∧
  ∀ i m ys H2, W i m ys H2 → (J.stop i H2 ∧ Q (.ref D) H2) ∨ (J.go i H2 ∧ ∃ N : List V → Hp → Prop, (∀ ys' H', N ys' H' → ∃ m', m' < m ∧ W (i + 1) m' ys' H') ∧
    ∀ x H', J.yld i H2 x H' → g x (inner nt js σ) H' fun σ2 H3 => tc σ2 H3 fun b H4 => if b = true then te σ2 H4 fun y H5 => H5 D = some (.lst ys) ∧ ys.length < sizeLine ∧ N (ys ++ [y]) (upd H5 D (.lst (ys ++ [y]))) else N ys H4)
section
variable {X : Cx}
structure CompOk (X : Cx) (scope : Scope) (N : List Str) (nt : Nat) (js : List Nat) : Prop where
  kind : scope.kind = .function
  nd : N.Nodup
  len : N.length = nt + js.length
  /-- each name of around: its slot there, where it is a cell or free -/
  at_ : ∀ (k : Nat) (j : Nat) (x : Str), js[k]? = some j → N[nt + k]? = some x → X.N[j]? = some x ∧ (X.env.scope.names.lookup x = some .cell ∨ X.env.scope.names.lookup x = some .free)
  frl : ∀ (k : Nat) (x : Str), N[nt + k]? = some x → scope.names.lookup x = some .free
  own : ∀ y ∈ scope.names, y.2 ≠ .cell
  loc : ∀ y ∈ scope.names, y.2 = .local → scope.names.lookup y.1 = some .local
  free : ∀ y ∈ scope.names, y.2 = .free → X.env.scope.names.lookup y.1 = some .cell ∨ X.env.scope.names.lookup y.1 = some .free
theorem relabel_free {env : Env} : ∀ {names : List (Str × NameKind)} {x : Str}, ((names.map fun (n, k) => if (k == NameKind.free && env.scope.kind == .function && env.kindOf n == some .cell) then (n, NameKind.cell) else (n, k)).lookup x = some .cell ∨ (names.map fun (n, k) => if (k == NameKind.free && env.scope.kind == .function && env.kindOf n == some .cell) then (n, NameKind.cell) else (n, k)).lookup x = some .free) →
    (∀ y ∈ names, y.2 ≠ .cell) → (x, NameKind.free) ∈ names
  | [], x, h, _ => by rcases h with h | h <;> simp at h
  | (n, k) :: r, x, h, hc => by
    have ih := @relabel_free env r x
    have hr : ∀ y ∈ r, y.2 ≠ .cell := fun y hy => hc y (List.mem_cons_of_mem _ hy)
    cases hx : x == n with
    | true =>
      have e : x = n := by simpa using hx
      subst e
      have kf : k = .free := by
        simp only [List.map_cons] at h
        by_cases q : (k == NameKind.free && env.scope.kind == .function && env.kindOf x == some .cell) = true
        · simp only [Bool.and_eq_true, beq_iff_eq] at q
          exact q.1.1
        · rw [if_neg q] at h
          simp only [List.lookup_cons, beq_self_eq_true] at h
          rcases h with h | h
          · cases h
            exact absurd rfl (hc _ List.mem_cons_self)
          · exact Option.some.inj h
      subst kf
      exact List.mem_cons_self
    | false =>
      refine List.mem_cons_of_mem _ (ih ?_ hr)
      simp only [List.map_cons] at h
      by_cases q : (k == NameKind.free && env.scope.kind == .function && env.kindOf n == some .cell) = true
      · rw [if_pos q] at h; simpa only [List.lookup_cons, hx] using h
      · rw [if_neg q] at h; simpa only [List.lookup_cons, hx] using h
theorem lookup_relabel_free {env : Env} : ∀ {names : List (Str × NameKind)} {x : Str}, names.lookup x = some .free →
    ((names.map fun (n, k) => if (k == NameKind.free && env.scope.kind == .function && env.kindOf n == some .cell) then (n, NameKind.cell) else (n, k)).lookup x = some .cell ∨ (names.map fun (n, k) => if (k == NameKind.free && env.scope.kind == .function && env.kindOf n == some .cell) then (n, NameKind.cell) else (n, k)).lookup x = some .free)
  | [], _, h => by simp at h
  | (n, k) :: r, x, h => by
    have ih := @lookup_relabel_free env r x
    simp only [List.map_cons]
    cases hx : x == n with
    | true =>
      simp only [List.lookup_cons, hx] at h
      cases h
      by_cases q : (NameKind.free == NameKind.free && env.scope.kind == .function && env.kindOf n == some .cell) = true
      · rw [if_pos q]; simp only [List.lookup_cons, hx]; simp
      · rw [if_neg q]; simp only [List.lookup_cons, hx]; simp
    | false =>
      simp only [List.lookup_cons, hx] at h
      by_cases q : (k == NameKind.free && env.scope.kind == .function && env.kindOf n == some .cell) = true
      · rw [if_pos q]; simp only [List.lookup_cons, hx]; exact ih h
      · rw [if_neg q]; simp only [List.lookup_cons, hx]; exact ih h
theorem comp_start {scope : Scope} {N : List Str} {nt : Nat} {js : List Nat} {cl : List (Str × Addr)} {fp : List Addr} {pins : List (Addr × Obj)} {σ : St} {H H1 : Hp} {s : Shared} {h' : Heap} {C : Addr} {tk : Nat} {xe : Value → Shared → Prop} {m : Str → Option Value}
    (S : CompOk X scope N nt js) (I : Inv X pins σ H s) (hf : ∀ b ∈ fp, FpOk X pins H b) (hcl : ∀ x c, cl.lookup x = some c → X.env.cells.lookup x = some c) (hcl2 : ∀ x, (x, NameKind.free) ∈ scope.names → (cl.lookup x).isSome = true)
    (hfp : ∀ b ∈ fp, b < s.heap.objs.size) (hC : s.heap.objs.size ≤ C) (k : ∀ b o, s.heap.get? b = some o → h'.get? b = some o) (hs : ∀ b o, H b = some o → H1 b = some o) (hs2 : ∀ b, H b = none → b < s.heap.objs.size → H1 b = none) (hok : HOk X.prog X.w H1 h') (hn : h'.Ns C m) (hC0 : H1 C = none)
    (hm : ∀ x, m x = none) :
    Inv (compCx X scope N cl C fp s H xe) [] (inner nt js σ) H1 { s with heap := h', toks := tk } := by
  have hfs : ∀ b ∈ fp, b ∉ frs X.stack := fun b hb z => by
    obtain ⟨f0, f1, f2, _⟩ := hf b hb
    rcases List.mem_cons.mp (I.stkSub b z) with q | q
    · exact f1 q
    · exact f2 q
  refine ⟨⟨I.ok.mod, S.kind, I.ok.glob, I.ok.blt, hC, fun x y c h1 h2 => I.ok.inj x y c (hcl x c h1) (hcl y c h2), fun x hx => ?_, fun x c z => (Bool.false_ne_true z).elim, I.ok.hd, I.ok.frames, .inl rfl, fun b hb => ?_, I.bs, Nat.le_trans I.ok.bsz I.sz, fun b o e hb => ?_, hfs, I.stack, I.stkFree⟩,
    rfl, I.bare, ?_, ⟨m, hn, fun i x v h1 h2 h3 => ?_⟩, fun x c e => ?_, hC0, fun x c e => ?_, fun p hp => absurd (show p ∈ ([] : List (Addr × Obj)) from hp) (by simp), hok, ?_⟩
  · have q : (x, NameKind.free) ∈ scope.names := relabel_free (env := X.env) hx S.own
    exact Option.isSome_iff_exists.mp (hcl2 x q)
  · obtain ⟨f0, f1, f2, f3, f4, f5⟩ := hf b hb
    refine ⟨Nat.ne_of_lt (Nat.lt_of_lt_of_le (hfp b hb) hC), fun x c e => f4 x c (hcl x c e)⟩
  · have := hf b hb
    obtain ⟨f0, f1, f2, f3, f4, f5⟩ := this
    rcases f3 with f3 | f3
    · exact I.ok.noex b o e f3
    · exact absurd (Nat.lt_of_lt_of_le (Heap.lt_size e) (Nat.le_trans I.ok.bsz f3)) (Nat.lt_irrefl _)
  · refine ⟨fun b o e n _ _ => k b o e, fun b o e n _ _ => ⟨o.slots, k b o e⟩, fun b o e n _ => hs2 b n (Heap.lt_size e), fun b o e _ => ⟨o, k b o e⟩, fun b xs e => hs b _ e, fun b o u e => hs b _ e, fun b ps e => ⟨#[], by rw [hs b _ e]; simp⟩⟩
  · by_cases hi : i < nt
    · rw [inner_none i hi] at h2; cases h2
    · obtain ⟨k', rfl⟩ : ∃ k', i = nt + k' := ⟨i - nt, by omega⟩
      unfold inner at h2
      rw [List.getElem?_append_right (by simp)] at h2
      simp only [List.length_replicate, Nat.add_sub_cancel_left, List.getElem?_map] at h2
      cases ej : js[k']? with
      | none => rw [ej] at h2; cases h2
      | some j =>
        rw [ej] at h2
        simp only [Option.map_some, Option.some.injEq] at h2
        obtain ⟨hN, hk⟩ := S.at_ k' j x ej h1
        have hσ : σ[j]? = some (some v) := by
          cases q : σ[j]? with
          | none => rw [q] at h2; cases h2
          | some z => rw [q] at h2; simp only [Option.join] at h2; rw [← h2]; rfl
        have vis : Vis X.env.scope x := by rcases hk with q | q; exact .inr (.inl q); exact .inr (.inr q)
        obtain ⟨m0, hn0, hl0⟩ := I.loc
        obtain ⟨u, r, l⟩ := hl0 j x v hN hσ vis
        refine ⟨u, r, ?_⟩
        rcases l with ⟨q, _⟩ | ⟨q, c, e, z⟩
        · have q' : X.env.scope.names.lookup x = some .local := q
          rw [q'] at hk
          rcases hk with hk | hk <;> cases hk
        · have hv : (relabel scope X.env).names.lookup x = some .cell ∨ (relabel scope X.env).names.lookup x = some .free := lookup_relabel_free (env := X.env) (S.frl k' x h1)
          have q : (x, NameKind.free) ∈ scope.names := relabel_free (env := X.env) hv S.own
          obtain ⟨c', e'⟩ := Option.isSome_iff_exists.mp (hcl2 x q)
          have e2 := hcl x c' e'
          rw [e] at e2; cases e2
          obtain ⟨oc, hoc, hd⟩ := z
          exact .inr ⟨hv, c, e', oc, k _ _ hoc, hd⟩
  · obtain ⟨v, oc, hoc, hd⟩ := I.cell x c (hcl x c e)
    exact ⟨v, oc, k _ _ hoc, hd⟩
  · have e2 := hcl x c e
    obtain ⟨v, oc, hoc, hd⟩ := I.cell x c e2
    exact hs2 c (I.freeC x c e2) (Heap.lt_size hoc)
  · unfold inner
    show _ = N.length
    rw [S.len]
    simp
theorem Inv.wk {Y : Cx} {pins : List (Addr × Obj)} {σ0 σ2 : St} {H : Hp} {s : Shared} (I : Inv Y pins σ2 H s) (h : Wk σ0 σ2) : Inv Y pins σ0 H s := I.weak h.1 h.2
theorem pe_comp {elt tg iter : Expr} {ifs : List Expr} {scope : Scope} {pos : Pos} {N : List Str} {nt : Nat} {js : List Nat} {wi : TI} {g : TG} {tc : TT} {te : TE}
    (hca : X.calm = true) (S : CompOk X scope N nt js) (hi : PI X tg iter wi)
    (hg : ∀ cl C fp s H xe, PG (compCx X scope N cl C fp s H xe) tg g) (hgo : TgOk g nt)
    (hc : ∀ cl C fp s H xe, PTs (compCx X scope N cl C fp s H xe) ifs tc)
    (he : ∀ cl C fp s H xe, PE (compCx X scope N cl C fp s H xe) elt te)
    (hs : ∀ x, foldedSetIterable iter X.env x = pure x := by intro _; rfl) :
    PE X (.ListComp elt [⟨tg, iter, ifs, 0⟩] scope pos) (tComp nt js wi g tc te) := by
  intro pins s σ H Q I h
  obtain ⟨cl, hclos, hcl1, _, hcl2⟩ := closure_of (env := X.env) scope.names [] (fun x hx hk => I.ok.has x.1 (S.free x hx hk))
  have hcl : ∀ x c, cl.lookup x = some c → X.env.cells.lookup x = some c := fun x c e => (hcl1 x c e).elim (fun z => by simp at z) fun z => z
  have hclos' : closureFor scope X.env = pure cl := by
    unfold closureFor
    simp only []
    rw [hclos]
    rfl
  rw [eval_ListComp]
  refine wpAny_comprehension_free (use := none) rfl hs hclos' S.kind S.loc (thn (hi pins s σ H _ I h) fun v s1 h1 => thn h1 fun itv s2 h2 => ?_)
  obtain ⟨it, fp, tn, J, H2, e, I2, T, st2, f2, q2⟩ := h2
  subst e
  have hfresh : H2 s2.heap.objs.size = none := I2.hok.fresh (Nat.le_refl _)
  obtain ⟨W, ⟨m0, w0⟩, turn⟩ := q2 s2.heap.objs.size hfresh
  refine wpAny_newObj_type (wpAny_newFunctionEnv S.own (by intro y hy; simp at hy) (fun h₁ hns₁ hsb₁ => ?_) S.kind)
  dsimp only at hns₁ hsb₁ ⊢
  generalize hG : s2.heap.push { cls := .type "list", dict := none, data := .seq ([] : List Value).toArray } = G at hns₁ hsb₁ ⊢
  have hGs : G.objs.size = s2.heap.objs.size + 1 := by rw [← hG, Heap.size_push]
  have kold : ∀ b o, s2.heap.get? b = some o → h₁.get? b = some o := fun b o e =>
    hsb₁.extBut b o (by rw [hGs]; exact Nat.ne_of_lt (Nat.lt_succ_of_lt (Heap.lt_size e))) (Heap.get?_push_of_some _ (hG ▸ Heap.get?_push_of_some _ e))
  have kD : h₁.get? s2.heap.objs.size = some { cls := .type "list", dict := none, data := .seq ([] : List Value).toArray } :=
    hsb₁.extBut _ _ (by rw [hGs]; exact Nat.ne_of_lt (Nat.lt_succ_self _)) (Heap.get?_push_of_some _ (hG ▸ Heap.get?_push_size _ rfl))
  have hok1 : HOk X.prog X.w (upd H2 s2.heap.objs.size (.lst [])) h₁ := I2.hok.laid kold (Nat.le_refl _) ⟨Nat.zero_le _, [], 0, .nil, kD⟩
  have hfpl : ∀ b ∈ fp, b < s2.heap.objs.size := fun b hb => by
    obtain ⟨o, e, _⟩ := T.obj _ _ st2 b hb
    exact Heap.lt_size e
  have hC0 : (upd H2 s2.heap.objs.size (.lst [])) G.objs.size = none := by
    rw [upd_ne (by rw [hGs]; exact Nat.ne_of_gt (Nat.lt_succ_self _))]
    exact I2.hok.fresh (by rw [hGs]; exact Nat.le_succ _)
  generalize hRR : (compPost (model X.prog X.w) X.A X.xe none (EP X pins σ Q) (.ref s2.heap.objs.size) G.objs.size) = RR
  have stat : ∀ {H' : Hp}, (∀ b ∈ fp, H' b = none) → ∀ b ∈ fp, FpOk (compCx X scope N cl G.objs.size fp s2 H2 (notedBy (model X.prog X.w) X.A (compEnvC scope cl G.objs.size X.env) fun e s' => RR (.error e) s')) [] H' b := fun {H'} hn b hb => by
    obtain ⟨f0, f1, f2', f3, f4, f5⟩ := f2 b hb
    refine ⟨hn b hb, Nat.ne_of_lt (Nat.lt_of_lt_of_le (hfpl b hb) (by show _ ≤ G.objs.size; rw [hGs]; exact Nat.le_succ _)), fun z => ?_, .inl hb, fun x c e => f4 x c (hcl x c e), fun p hp => absurd (show p ∈ ([] : List (Addr × Obj)) from hp) (by simp)⟩
    rcases List.mem_cons.mp (I2.stkSub b z) with q | q
    · exact f1 q
    · exact f2' q
  have I3 : ∀ tk, Inv (compCx X scope N cl G.objs.size fp s2 H2 (notedBy (model X.prog X.w) X.A (compEnvC scope cl G.objs.size X.env) fun e s' => RR (.error e) s')) [] (inner nt js σ) (upd H2 s2.heap.objs.size (.lst [])) { s2 with heap := h₁, toks := tk } := fun tk =>
    comp_start S I2 f2 hcl hcl2 hfpl (by rw [hGs]; exact Nat.le_succ _) kold (fun b o e => by rw [upd_ne (ne_of_none e hfresh)]; exact e) (fun b n hb => by rw [upd_ne (Nat.ne_of_lt hb)]; exact n) hok1 hns₁ hC0 (fun _ => rfl)
  have loop : ∀ s₃ : Shared, s₃ = { s2 with heap := h₁, toks := s2.toks + ([] : List (Str × Value)).length } →
      codeAny (model X.prog X.w) X.A (.compLoop (.ListComp elt [⟨tg, iter, ifs, 0⟩] scope pos) 0 (.ref it) (.ref s2.heap.objs.size) (compEnvC scope cl G.objs.size X.env)) RR s₃ := by
    rintro s₃ rfl
    refine compLoop_any (fun n s' => ∃ i ys H', Inv (compCx X scope N cl G.objs.size fp s2 H2 (notedBy (model X.prog X.w) X.A (compEnvC scope cl G.objs.size X.env) fun e s' => RR (.error e) s')) [] (inner nt js σ) H' s' ∧ tn i s'.heap ∧ (∀ b ∈ fp, H' b = none) ∧ W i n ys H') ?_ m0
      ⟨0, [], _, I3 _, T.keep _ _ _ st2 fun b hb o e => kold b o e, fun b hb => by rw [upd_ne (Nat.ne_of_lt (hfpl b hb))]; exact (f2 b hb).1, w0⟩
    rintro n s3 ⟨i, ys, H3, J3, st3, fr3, w3⟩
    rcases turn i n ys H3 w3 with ⟨stop, qn⟩ | ⟨go, NN, hN, step⟩
    · refine thn (T.done (compCx X scope N cl G.objs.size fp s2 H2 (notedBy (model X.prog X.w) X.A (compEnvC scope cl G.objs.size X.env) fun e s' => RR (.error e) s')) rfl rfl rfl hca i [] s3 (inner nt js σ) H3 _ J3 (stat fr3) st3 stop) fun r s4 zr3434 => ?_
      obtain ⟨hr, I4⟩ := zr3434
      subst hr
      show RR (.ok .next) s4
      rw [← hRR]
      obtain ⟨mC, hnC, _⟩ := id I4.loc
      refine ⟨mC, hnC, fun h'' hs'' => ?_⟩
      have keepC : ∀ b o, b ≠ G.objs.size → s4.heap.get? b = some o → h''.get? b = some o := fun b o hb e => hs''.extBut b o hb e
      have un : Un (frs X.stack) fp H2 H3 s2.heap h'' := by
        have u := I4.base
        refine ⟨fun b o e n hb hx => keepC b o ?_ (u.keep b o e n hb hx), fun b o e n hb hx => ?_, u.free, fun b o e hx => ?_, u.tups, u.frzs, u.tbls⟩
        · exact Nat.ne_of_lt (Nat.lt_of_lt_of_le (Heap.lt_size e) (by rw [hGs]; exact Nat.le_succ _))
        · obtain ⟨sl, e1⟩ := u.slot b o e n hb hx
          exact ⟨sl, keepC b _ (Nat.ne_of_lt (Nat.lt_of_lt_of_le (Heap.lt_size e) (by rw [hGs]; exact Nat.le_succ _))) e1⟩
        · obtain ⟨o', e1⟩ := u.there b o e hx
          exact ⟨o', keepC b _ (Nat.ne_of_lt (Nat.lt_of_lt_of_le (Heap.lt_size e) (by rw [hGs]; exact Nat.le_succ _))) e1⟩
      have hok' : HOk X.prog X.w H3 h'' := fun b u e => (I4.hok b u e).stay (fun c v hc q => keepC c v (by
          have cf : H3 G.objs.size = none := I4.free
          rintro rfl
          rcases hc with z | z
          · rw [z] at cf; rw [cf] at e; cases e
          · rw [cf] at z; cases z) q) (fun _ q => q) fun _ _ q => q
      exact ⟨.ref s2.heap.objs.size, H3, I2.call' (s' := { s4 with heap := h'' }) I4.os un hok' I4.bare (fun b hb => by
        obtain ⟨f0, f1, f2', f3, f4, f5⟩ := f2 b hb
        exact ⟨f3, f1, f4, f5⟩), rfl, qn⟩
    · refine thn (T.item (compCx X scope N cl G.objs.size fp s2 H2 (notedBy (model X.prog X.w) X.A (compEnvC scope cl G.objs.size X.env) fun e s' => RR (.error e) s')) rfl rfl rfl hca i [] s3 (inner nt js σ) H3 _ J3 (stat fr3) st3 go) fun r s4 zr3458 => ?_
      obtain ⟨u, hr, h4⟩ := zr3458
      subst hr
      refine thn h4 fun _ s5 zr3460 => ?_
      obtain ⟨x, H5, I5, r5, y5, st5, fr5⟩ := zr3460
      have I5' := I5.pinned (stat fr5) (T.obj _ _ st5)
      have g5 := hgo x (inner nt js σ) H5 _ inner_none (step x H5 y5)
      refine thn (hg cl G.objs.size fp s2 H2 _ _ s5 _ H5 x u _ I5' r5 g5) fun _ s6 zr3463 => ?_
      obtain ⟨σ6, H6, I6, wk6, q6⟩ := zr3463
      refine thn (hc cl G.objs.size fp s2 H2 _ _ s6 σ6 H6 _ I6 q6) fun ok s7 zr3464 => ?_
      obtain ⟨H7, I7, q7⟩ := zr3464
      have again : ∀ {s8 : Shared} {H8 : Hp} {ys' : List V}, Inv (compCx X scope N cl G.objs.size fp s2 H2 (notedBy (model X.prog X.w) X.A (compEnvC scope cl G.objs.size X.env) fun e s' => RR (.error e) s')) ([] ++ pinsAt fp s5.heap) σ6 H8 s8 → NN ys' H8 →
          ∃ m, m < n ∧ ∃ i ys H', Inv (compCx X scope N cl G.objs.size fp s2 H2 (notedBy (model X.prog X.w) X.A (compEnvC scope cl G.objs.size X.env) fun e s' => RR (.error e) s')) [] (inner nt js σ) H' s8 ∧ tn i s8.heap ∧ (∀ b ∈ fp, H' b = none) ∧ W i m ys H' := fun {s8 H8 ys'} I8 n8 => by
        obtain ⟨m', hm, w8⟩ := hN ys' H8 n8
        refine ⟨m', hm, i + 1, ys', H8, (I8.unpinned).wk wk6, T.keep _ _ _ st5 fun b hb o e => (I8.pin (b, o) (List.mem_append_right _ (List.mem_append_right _ (mem_pinsAt hb e)))).1, fun b hb => ?_, w8⟩
        obtain ⟨o, e, d⟩ := T.obj _ _ st5 b hb
        exact (I8.pin (b, o) (List.mem_append_right _ (List.mem_append_right _ (mem_pinsAt hb e)))).2.1
      cases ok with
      | false =>
        rw [if_neg Bool.false_ne_true] at q7 ⊢
        exact again I7 q7
      | true =>
        rw [if_pos rfl] at q7 ⊢
        refine thn (he cl G.objs.size fp s2 H2 _ _ s7 σ6 H7 _ I7 q7) fun y s8 zr3477 => ?_
        obtain ⟨yv, H8, I8, r8, hD8, hl8, q8⟩ := zr3477
        refine thn (mt_append (X := compCx X scope N cl G.objs.size fp s2 H2 (notedBy (model X.prog X.w) X.A (compEnvC scope cl G.objs.size X.env) fun e s' => RR (.error e) s')) _ s8 σ6 H8 (.ref s2.heap.objs.size) [yv] (.ref s2.heap.objs.size) [y] (fun _ H9 => NN (ys ++ [yv]) H9) I8 rfl (.cons r8 .nil) ⟨_, ys, yv, rfl, rfl, hD8, hl8, q8⟩) fun v9 s9 zr3478 => ?_
        obtain ⟨x9, H9, I9, r9, q9⟩ := zr3478
        exact again I9 q9
  subst hRR
  exact codeAny_compStart_list (loop _ rfl) (T.self _ 0 _ _ _ (T.keep _ _ _ st2 fun b hb o e => kold b o e) (loop _ rfl))
end
end L2
namespace PySem
theorem lri_nolen : typeLookup (.type "list_reverseiterator") "__len__" = pure none := by rw [typeLookup_type, builtinLookup_eq_fast]; kernel_rfl
theorem lri_hint : typeLookup (.type "list_reverseiterator") "__length_hint__" = pure (some (.builtin "list_reverseiterator.__length_hint__")) := by rw [typeLookup_type, builtinLookup_eq_fast]; kernel_rfl
section
variable {prog : Program} {w : World} {A : Around} {E : Value → Shared → Prop} {s : Shared}
theorem extend_rev {R : Result → Shared → Prop} (hh : A.handled = none) (S : Addr) (res : Value) (c₀ : Nat) (hS : s.heap.get? S = some { cls := .type "list", data := .seq #[] c₀ })
    {I l : Addr} {items : Array Value} (hi : s.heap.IsRevIter I l ((items.size : Int) - 1)) (hl : s.heap.IsList l items) (hIl : l ≠ I) (hSI : S ≠ I) (hSl : S ≠ l)
    (hR : ∀ h' tk acc' c', (∀ b o, b ≠ S → b ≠ I → s.heap.get? b = some o → h'.get? b = some o) → h'.get? S = some { cls := .type "list", dict := none, data := .seq acc' c', slots := #[] } →
      ItemsOf (fun i v => items[items.size - 1 - i]? = some v) acc' items.size → R (.ok (.ret res)) { s with heap := h', toks := tk }) (hn : items.size ≤ sizeLine) :
    wpAny (model prog w) A.in1 (Builtin.List.listExtendWith (.ref S) (.ref I) res)
      (fun fin s' => match fin with | .done f => R (.ok f) s' | .again c' => c'.quiet = true ∧ codeAny (model prog w) A c' R s') (fun e s' => R (.error e) s') s := by
  have W := (Walks.listRev (prog := prog) (w := w) (A := A.in1) hh I l hIl items)
  have hSf : S ∉ [I, l] := fun hm => by
    rcases List.mem_cons.mp hm with e | e
    · exact hSI e
    · exact hSl (List.mem_singleton.mp e)
  have hst : 0 ≤ items.size ∧ s.heap.IsRevIter I l ((items.size : Int) - 1 - ((0 : Nat) : Int)) ∧ s.heap.IsList l items := ⟨Nat.zero_le _, by simpa using hi, hl⟩
  unfold Builtin.List.listExtendWith
  refine wpAny_bind (wpAny_typeOf hi.typeIs ?_)
  have h1 : Builtin.List.listSameRef (.ref S) (.ref I) = false := by simp [Builtin.List.listSameRef, hSI]
  have h2 : (Value.type "list_reverseiterator" == Value.type "list") = false := by decide
  have h3 : (Value.type "list_reverseiterator" == Value.type "tuple") = false := by decide
  simp only [h1, h2, h3, Bool.or_false, Bool.false_eq_true, if_false]
  refine wpAny_bind (W.self 0 _ _ _ hst ?_)
  refine wpAny_bind (wpAny_holding ?_)
  unfold Builtin.List.listLengthHint
  refine wpAny_bind (wpAny_specialOf hi.typeIs lri_nolen ?_)
  show wpAny _ A.in1 (specialOf (Value.ref I) (Str.ofString "__length_hint__") >>= _) _ _ _
  refine wpAny_bind (wpAny_specialOf hi.typeIs lri_hint ?_)
  (generalize hid : ("list_reverseiterator.__length_hint__" : String) = id0; (fail_if_success (clear hid id0)); wp_delta; rw [show splitId id0 = some ("list_reverseiterator", "__length_hint__") from by subst hid; decide +kernel]; subst hid)
  refine wpAny_bind (wpAny_isInstance (b := true) hi.typeIs (by rw [isSubtype_type]; kernel_rfl) ?_)
  refine wpAny_pure ?_
  rw [if_neg (by decide)]
  refine wpAny_pure ⟨plainId_quiet F.plain_extend_loop _, codeAny_extend_loopS W.toS hn _ hSf _ items.size 0 _ _ _ rfl (Nat.zero_le _) hst hS (ItemsOf.nil _) fun s' acc' c' hm hS' hacc => ?_⟩
  rw [Moved.eq_with hm]
  refine hR s'.heap s'.toks acc' c' (fun b ob hb hbI e => hm.heap b ob (fun hmem => ?_) e) hS' hacc
  rcases List.mem_cons.mp hmem with e' | hmem
  · exact hb e'
  · exact hbI (List.mem_singleton.mp hmem)
theorem list_init_rev {R : Result → Shared → Prop} (hh : A.handled = none) (S : Addr) (hS : s.heap.get? S = some { cls := .type "list", data := .seq #[] })
    {I l : Addr} {items : Array Value} (hi : s.heap.IsRevIter I l ((items.size : Int) - 1)) (hl : s.heap.IsList l items) (hIl : l ≠ I) (hSI : S ≠ I) (hSl : S ≠ l)
    (hR : ∀ h' tk acc' c', (∀ b o, b ≠ S → b ≠ I → s.heap.get? b = some o → h'.get? b = some o) → h'.get? S = some { cls := .type "list", dict := none, data := .seq acc' c', slots := #[] } →
      ItemsOf (fun i v => items[items.size - 1 - i]? = some v) acc' items.size → R (.ok (.ret .none)) { s with heap := h', toks := tk }) (hn : items.size ≤ sizeLine) :
    wpAny (model prog w) A.in1 (Builtin.«list.__init__» ⟨[.ref S, .ref I], []⟩)
      (fun fin s' => match fin with | .done f => R (.ok f) s' | .again c' => c'.quiet = true ∧ codeAny (model prog w) A c' R s') (fun e s' => R (.error e) s') s := by
  show wpAny _ _ (do let old ← Builtin.List.listItems (.ref S); Builtin.List.listUpdate (.ref S) (fun _ => #[]); letGo old.toList.reverse; Builtin.List.listExtendWith (.ref S) (.ref I) .none) _ _ s
  refine wpAny_bind ?_
  unfold Builtin.List.listItems
  refine wpAny_bind (wpAny_seqItems hS rfl (wpAny_pure ?_))
  show wpAny _ _ (updateSeq S (fun _ => #[]) >>= fun _ => letGo (#[] : Array Value).toList.reverse >>= fun _ => Builtin.List.listExtendWith (.ref S) (.ref I) .none) _ _ s
  refine wpAny_bind (wpAny_updateSeq hS rfl ?_)
  have hS₂ := Heap.get?_update_self (Obj.mapSeq (fun _ => (#[] : Array Value))) hS rfl
  have oth : ∀ b o, b ≠ S → s.heap.get? b = some o → (s.heap.update S (Obj.mapSeq (fun _ => (#[] : Array Value)))).get? b = some o :=
    fun b o hb e => (Heap.get?_update_other _ _ (Ne.symm hb)).trans e
  refine wpAny_bind (wpAny_letGo ?_)
  refine extend_rev (s := { s with heap := s.heap.update S (Obj.mapSeq (fun _ => (#[] : Array Value))) }) hh S .none _ hS₂ (hi.at fun o e => oth _ o (Ne.symm hSI) e) (hl.at fun o e => oth _ o (Ne.symm hSl) e) hIl hSI hSl (fun h' tk acc' c' hk hS' hacc => ?_) hn
  exact hR h' tk acc' c' (fun b o hb hbI e => hk b o hb hbI (oth b o hb e)) hS' hacc
theorem call_list_rev {Q : Value → Shared → Prop} (hh : A.handled = none) {I l : Addr} {items : Array Value} (hi : s.heap.IsRevIter I l ((items.size : Int) - 1)) (hl : s.heap.IsList l items) (hIl : l ≠ I)
    (hQ : ∀ h' tk acc' c', (∀ b o, b ≠ I → s.heap.get? b = some o → h'.get? b = some o) →
      h'.get? s.heap.objs.size = some { cls := .type "list", dict := none, data := .seq acc' c', slots := #[] } → ItemsOf (fun i v => items[items.size - 1 - i]? = some v) acc' items.size → Q (.ref s.heap.objs.size) { s with heap := h', toks := tk }) (hn : items.size ≤ sizeLine) :
    wpAny (model prog w) A (call (.type "list") [.ref I]) Q E s := by
  refine callType_codes (Q₁ := fun obj s₁ => obj = .ref s.heap.objs.size ∧ s₁ = { s with heap := s.heap.push { cls := .type "list", data := .seq #[] } }) F.called_list (F.typeCall_list_1 _) F.entry_list_init
    (code_list_new _ ⟨rfl, rfl⟩) fun obj s₁ h₁ => ?_
  obtain ⟨rfl, rfl⟩ := h₁
  have hS : (s.heap.push { cls := .type "list", data := .seq #[] }).get? s.heap.objs.size = some { cls := .type "list", data := .seq #[] } := Heap.get?_push_size _ rfl
  have up : ∀ b o, s.heap.get? b = some o → (s.heap.push { cls := .type "list", data := .seq #[] }).get? b = some o := fun b o e => Heap.get?_push_of_some _ e
  obtain ⟨oi, hoi, _⟩ := id hi
  obtain ⟨ol, hol, _⟩ := id hl
  refine ⟨⟨_, hS, rfl⟩, F.args_list_init_2 _ _, list_init_rev (s := { s with heap := s.heap.push { cls := .type "list", data := .seq #[] } }) (A := A.in1) hh _ hS (hi.at fun o e => up _ o e) (hl.at fun o e => up _ o e) hIl (Nat.ne_of_gt (Heap.lt_size hoi)) (Nat.ne_of_gt (Heap.lt_size hol)) (fun h' tk acc' c' hk hS' hacc => ?_) hn⟩
  exact ⟨rfl, hQ h' tk acc' c' (fun b o hb e => hk b o (Nat.ne_of_lt (Heap.lt_size e)) hb (up b o e)) hS' hacc⟩
end
end PySem
namespace L2
open PySem PySem.Spec PyProof.Rows
theorem Same.seqT {K : PySem.W.Frag} {H H' : Hp} {a : Addr} {xs : List V} (e : Same H H') (h : SqT K H a xs) : SqT K H' a xs := by
  rcases h with (h | ⟨o, h⟩) | h
  · exact .inl (.inl (e _ _ h))
  · exact .inl (.inr ⟨o, e _ _ h⟩)
  · exact .inr h
section
variable {X : Cx} {a b c : Expr} {ta tb tc : TE} {pos : Pos}
noncomputable def rIsI (K : PySem.W.Frag) : List V → Hp → VK → Prop := fun xs H Q => ∃ x t T k, xs = [x, .ty T] ∧ TyOf K H x t ∧ PySem.W.kitOne K t (.type T) = some k ∧ Q (.bl k) H
theorem call_isi : CallR X (.builtin "isinstance") (rIsI X.K) := by
  intro pins s σ H xs us Q I r h
  obtain ⟨x, t, T, k, rfl, ty, e, q⟩ := h
  obtain ⟨u, w', rfl, r1, r2⟩ := vals2 r
  cases r2
  exact isinst_ok I r1 ty e fun tk => ⟨.bl k, H, I.tok tk, rfl, q⟩
theorem pe_ty {x : Str} {T : String} (hg : Gl X x) (hm : X.mg x = none) (hv : bootBuiltins x = some (.type T)) (hn : x ≠ "__name__" := by decide) (hd : (x == ("__debug__" : Str)) = false := by decide) : PE X (.Name x pos) (tC (.ty T)) :=
  pe_bltn hg hm hv rfl hn hd
theorem truth_of_bools {prog : Program} {w : World} {A : Around} {its : Array Value} {bs : List Bool} (h : Vals (bs.map V.bl) its.toList) : TruthOf prog w A (fun i v => its[i]? = some v) (fun i => bs.getD i true) := by
  intro i v s Q E hP hq
  have h1 : its.toList[i]? = some v := by simpa using hP
  have hlt : i < its.toList.length := (List.getElem?_eq_some_iff.mp h1).1
  have hl := h.length
  have hb : i < bs.length := by rw [← hl] at hlt; simpa using hlt
  obtain ⟨u, hu, ru⟩ := h.get (i := i) (x := V.bl bs[i]) (by simp [hb])
  rw [h1] at hu; cases hu
  cases ru
  refine wpAny_truthy_bool ?_
  have e : bs.getD i true = bs[i] := by simp [List.getD, hb]
  show Q bs[i] s
  have hq : Q (bs.getD i true) s := hq
  rw [e] at hq
  exact hq
theorem range_all (bs : List Bool) : (List.range bs.length).all (fun i => bs.getD i true) = bs.all id := by
  rw [Bool.eq_iff_iff]
  simp only [List.all_eq_true, List.mem_range]
  constructor
  · intro h b hb
    obtain ⟨i, hi, e⟩ := List.getElem_of_mem hb
    have := h i hi
    simp [List.getD, hi, e] at this
    simpa using this
  · intro h i hi
    have := h bs[i] (List.getElem_mem hi)
    simpa [List.getD, hi] using this
theorem range_any (bs : List Bool) : (List.range bs.length).any (fun i => bs.getD i true) = bs.any id := by
  rw [Bool.eq_iff_iff]
  simp only [List.any_eq_true, List.mem_range]
  constructor
  · rintro ⟨i, hi, e⟩
    refine ⟨bs[i], List.getElem_mem hi, ?_⟩
    simpa [List.getD, hi] using e
  · rintro ⟨b, hb, e⟩
    obtain ⟨i, hi, e'⟩ := List.getElem_of_mem hb
    refine ⟨i, hi, ?_⟩
    simp only [List.getD, List.getElem?_eq_getElem hi, Option.getD_some, e']
    exact e
noncomputable def rAll (K : PySem.W.Frag) : List V → Hp → VK → Prop := fun xs H Q => ∃ (p : Addr) (bs : List Bool), xs = [.ref p] ∧ SqL K H p (bs.map V.bl) ∧ Q (.bl (bs.all id)) H
noncomputable def rAny (K : PySem.W.Frag) : List V → Hp → VK → Prop := fun xs H Q => ∃ (p : Addr) (bs : List Bool), xs = [.ref p] ∧ SqL K H p (bs.map V.bl) ∧ Q (.bl (bs.any id)) H
theorem call_all_l (hc : X.calm = true) : CallR X (.builtin "all") (rAll X.K) := by
  intro pins s σ H xs us Q I r h
  obtain ⟨p, bs, rfl, hq, q⟩ := h
  obtain ⟨u, rfl, rx⟩ := vals1 r
  cases rx
  obtain ⟨its, rv, pl, hz⟩ := I.list hq
  refine call_all_walk (wpAny_pyIter_list pl.isList ?_)
  have hne : p ≠ s.heap.objs.size := by
    obtain ⟨o, n, ho, _⟩ := pl
    exact Nat.ne_of_lt (Heap.lt_size ho)
  refine ⟨_, _, _, _, _, _, fun i => bs.getD i true, rfl, Walks.list (A := X.A.in1) (I.ok.hd hc) _ p hne its.toArray, ⟨⟨_, Heap.get?_push_size _ rfl, rfl, rfl⟩, pl.isList.at fun o e => Heap.get?_push_of_some _ e⟩, truth_of_bools (by simpa using rv), fun h' tk hk => ?_⟩
  have hl : its.toArray.size = bs.length := by have := rv.length; simp at this ⊢; omega
  rw [hl, range_all]
  exact ⟨.bl (bs.all id), H, I.kept fun b o e => hk b o (by simp; exact Nat.ne_of_lt (Heap.lt_size e)) (Heap.get?_push_of_some _ e), rfl, q⟩
theorem call_any_l (hc : X.calm = true) : CallR X (.builtin "any") (rAny X.K) := by
  intro pins s σ H xs us Q I r h
  obtain ⟨p, bs, rfl, hq, q⟩ := h
  obtain ⟨u, rfl, rx⟩ := vals1 r
  cases rx
  obtain ⟨its, rv, pl, hz⟩ := I.list hq
  refine call_any_walk (wpAny_pyIter_list pl.isList ?_)
  have hne : p ≠ s.heap.objs.size := by
    obtain ⟨o, n, ho, _⟩ := pl
    exact Nat.ne_of_lt (Heap.lt_size ho)
  refine ⟨_, _, _, _, _, _, fun i => bs.getD i true, rfl, Walks.list (A := X.A.in1) (I.ok.hd hc) _ p hne its.toArray, ⟨⟨_, Heap.get?_push_size _ rfl, rfl, rfl⟩, pl.isList.at fun o e => Heap.get?_push_of_some _ e⟩, truth_of_bools (by simpa using rv), fun h' tk hk => ?_⟩
  have hl : its.toArray.size = bs.length := by have := rv.length; simp at this ⊢; omega
  rw [hl, range_any]
  exact ⟨.bl (bs.any id), H, I.kept fun b o e => hk b o (by simp; exact Nat.ne_of_lt (Heap.lt_size e)) (Heap.get?_push_of_some _ e), rfl, q⟩
theorem preSum_take (ns : List Int) : ∀ n, n ≤ ns.length → preSum (fun i => ns.getD i 0) n = (ns.take n).sum
  | 0, _ => by simp [preSum]
  | n + 1, h => by
    have ih := preSum_take ns n (by omega)
    have e : ns[n]? = some (ns[n]'(by omega)) := by simp
    show preSum (fun i => ns.getD i 0) n + ns.getD n 0 = _
    rw [ih, List.take_add_one, e, List.sum_append, List.getD, e]
    simp
theorem preSum_list (ns : List Int) : preSum (fun i => ns.getD i 0) ns.length = ns.sum := by
  rw [preSum_take ns _ (Nat.le_refl _), List.take_length]
noncomputable def rSum (K : PySem.W.Frag) : List V → Hp → VK → Prop := fun xs H Q => ∃ (p : Addr) (ns : List Int), xs = [.ref p] ∧ SqL K H p (ns.map V.int) ∧ Q (.int ns.sum) H
theorem call_sum_l (hc : X.calm = true) : CallR X (.builtin "sum") (rSum X.K) := by
  intro pins s σ H xs us Q I r h
  obtain ⟨p, ns, rfl, hq, q⟩ := h
  obtain ⟨u, rfl, rx⟩ := vals1 r
  cases rx
  obtain ⟨its, rv, pl, hz⟩ := I.list hq
  refine call_sum_walkG (wpAny_pyIter_list pl.isList ?_)
  have hne : p ≠ s.heap.objs.size := by
    obtain ⟨o, n, ho, _⟩ := pl
    exact Nat.ne_of_lt (Heap.lt_size ho)
  refine ⟨_, _, _, _, _, _, fun i => ns.getD i 0, rfl, Walks.list (A := X.A.in1) (I.ok.hd hc) _ p hne its.toArray, ⟨⟨_, Heap.get?_push_size _ rfl, rfl, rfl⟩, pl.isList.at fun o e => Heap.get?_push_of_some _ e⟩, fun b hb => ?_, fun i v hv => ?_, fun h' tk t' hk => ?_⟩
  · obtain ⟨o, n, ho, _⟩ := pl
    rcases List.mem_cons.mp hb with e | e
    · rw [e]; exact Nat.lt_of_lt_of_le (Nat.lt_succ_self _) (by simp)
    · rw [List.mem_singleton.mp e]; exact Nat.lt_of_lt_of_le (Heap.lt_size ho) (by simp)
  · have h1 : its[i]? = some v := by simpa using hv
    have hlt : i < its.length := (List.getElem?_eq_some_iff.mp h1).1
    have hl := rv.length
    have hb : i < ns.length := by rw [← hl] at hlt; simpa using hlt
    obtain ⟨u, hu, t, ru⟩ := rv.get (i := i) (x := V.int ns[i]) (by simp [hb])
    rw [h1] at hu; cases hu
    exact ⟨t, by rw [ru]; simp [List.getD, hb]⟩
  · have hl : its.toArray.size = ns.length := by have := rv.length; simp at this ⊢; omega
    rw [hl, preSum_list]
    exact ⟨.int ns.sum, H, I.kept fun b o e => hk b o (by simp; exact Nat.ne_of_lt (Heap.lt_size e)) (Heap.get?_push_of_some _ e), ⟨t', rfl⟩, q⟩
noncomputable def tListRev (t : TE) : TE := fun σ H Q => t σ H fun x H1 => ∃ p, x = .ref p ∧ ∃ ys, H1 p = some (.lst ys) ∧ ∀ l, H1 l = none → Q (.ref l) (upd H1 l (.lst ys.reverse))
end
end L2
namespace L2
open PySem PySem.Spec PyProof.Rows
section
variable {X : Cx} {a b c e : Expr} {ta tb tc te : TE} {pos p p2 pos2 : Pos} {tg : Expr}
theorem pe_listrev (hc : X.calm = true) (hg : Gl X "list") (hm : X.mg "list" = none) (hg2 : Gl X "reversed") (hm2 : X.mg "reversed" = none) (he : PE X e te) (hse : starEach [e] X.env = [(false, eval e X.env)] := by rfl) :
    PE X (.Call (.Name "list" p) [.Call (.Name "reversed" p2) [e] [] pos2] [] pos) (tListRev te) := by
  intro pins s σ H Q I h
  refine wpAny_Call_Name_kw (ld_blt I hg hm (by decide +kernel : bootBuiltins "list" = some (.type "list")) ?_)
  refine PyProof.Rows.callWith_type1 (Calls.spliced_cons ?_) rfl rfl
  refine wpAny_Call_Name_kw (ld_blt I hg2 hm2 boot_reversed ?_)
  refine PyProof.Rows.callWith_type1 (Q := _) ?_ hse rfl
  rw [hse]
  refine Calls.spliced_cons (thn (he pins s σ H _ I h) fun u s1 ⟨x, H1, I1, r1, pp, e1, ys, hq', q⟩ => Calls.spliced_nil ?_)
  subst e1
  cases r1
  have hq : SqL X.K H1 pp ys := .of hq'
  obtain ⟨its, rv, pl, hz⟩ := I1.list hq
  have hlen := rv.length
  refine call_reversed_list pl.isList ?_
  have hlt : pp < s1.heap.objs.size := by
    obtain ⟨o, n, ho, _⟩ := pl
    exact Heap.lt_size ho
  refine Calls.spliced_nil (call_list_rev (I.ok.hd hc) (I := s1.heap.objs.size) (l := pp) (items := its.toArray) ⟨_, Heap.get?_push_size _ rfl, rfl, rfl⟩ (pl.isList.at fun o e => Heap.get?_push_of_some _ e) (Nat.ne_of_lt hlt) (fun h' tk acc' c' hk hS hacc => ?_) (by simp only [List.size_toArray]; omega))
  have kp : ∀ b o, s1.heap.get? b = some o → h'.get? b = some o := fun b o e => hk b o (Nat.ne_of_lt (Heap.lt_size e)) (Heap.get?_push_of_some _ e)
  have hrev : acc' = its.reverse.toArray := by
    apply Array.ext_getElem?
    intro i
    have hs1 := hacc.1
    simp only [List.size_toArray] at hs1
    by_cases hi : i < its.length
    · have h1 : acc'[i]? = some (acc'[i]'(by omega)) := by simp [hs1, hi]
      have h2 := hacc.2 i _ h1
      rw [h1, ← h2]
      simp only [List.size_toArray, List.getElem?_toArray]
      rw [List.getElem?_reverse hi]
    · simp only [List.getElem?_toArray]
      rw [Array.getElem?_eq_none (by omega), List.getElem?_eq_none (by simp; omega)]
  subst hrev
  have hsz : s1.heap.objs.size ≤ (s1.heap.push (revObj pp ((its.toArray.size : Int) - 1))).objs.size := by rw [Heap.size_push]; exact Nat.le_succ _
  exact ⟨.ref (s1.heap.push (revObj pp ((its.toArray.size : Int) - 1))).objs.size, upd H1 _ (.lst ys.reverse), I1.laid (t' := tk) kp hsz ⟨by simp; omega, its.reverse, c', rv.reverse, hS⟩, rfl, q _ (I1.hok.fresh hsz)⟩
noncomputable def rSlS : V → Option Int → Option Int → Hp → VK → Prop := fun x lo hi H Q => ∃ z, x = .str z ∧ z.length ≤ sizeLine ∧ Q (.str (Txt.slice z lo hi)) H
theorem sl_str : SlR X rSlS := by
  intro pins s σ H x v vl vu lo hi sl Q I rx hs pl pu h
  obtain ⟨z, rfl, hz, q⟩ := h
  obtain ⟨t, rfl⟩ := rx
  refine ⟨"str", _, F.slot_str_getitem.lookup, typeIs_str _ _ _, ?_⟩
  have fin : ∀ (t' : Tok) (k : Nat), EP X pins σ Q (.str (Txt.slice z lo hi) t') { s with toks := k } := fun t' k => ⟨.str _, H, I.tok k, ⟨t', rfl⟩, q⟩
  obtain ⟨o, h1, h2, h3⟩ := hs
  cases pl with
  | none => cases pu with
    | none => exact wpAny_getItem_str_slice (l := none) (u := none) (st := none) ⟨o, h1, h2, h3⟩ rfl (post_val_or_str ⟨Nat.le_trans (Txt.slice_le z _ _) hz, fun t' k => fin t' k⟩)
    | int j uj => exact wpAny_getItem_str_slice (l := none) (u := some (j, uj)) (st := none) ⟨o, h1, h2, h3⟩ rfl (post_val_or_str ⟨Nat.le_trans (Txt.slice_le z _ _) hz, fun t' k => fin t' k⟩)
  | int i ui => cases pu with
    | none => exact wpAny_getItem_str_slice (l := some (i, ui)) (u := none) (st := none) ⟨o, h1, h2, h3⟩ rfl (post_val_or_str ⟨Nat.le_trans (Txt.slice_le z _ _) hz, fun t' k => fin t' k⟩)
    | int j uj => exact wpAny_getItem_str_slice (l := some (i, ui)) (u := some (j, uj)) (st := none) ⟨o, h1, h2, h3⟩ rfl (post_val_or_str ⟨Nat.le_trans (Txt.slice_le z _ _) hz, fun t' k => fin t' k⟩)
end
end L2
namespace L2
open PySem PySem.Spec PyProof.Rows
noncomputable def FnL (K : PySem.W.Frag) (mg : Str → Option Value) (x : Str) (st : Stmt) (ps : List Str) : Prop :=
  ∃ f fd, Fun K x x st f fd ∧ mg x = some (.ref f) ∧ Binds K fd ps []
noncomputable def Fn (P : Program) (w : World) (K : PySem.W.Frag) (mg : Str → Option Value) (base : Heap) (x : Str) (k : Nat) (ps : List Str) (sp : Sp) : Prop :=
  ∃ f fd, FnOk P w K mg base CX0 k f fd ps sp ∧ mg x = some (.ref f) ∧ PySem.W.keepIn K (.ref f) = true ∧ Binds K fd ps []
section
variable {P : Program} {w : World} {K : PySem.W.Frag} {mg : Str → Option Value} {base : Heap}
theorem FnL.ok {x : Str} {st : Stmt} {N ps : List Str} {k : Nat} {sp : Sp} (F : FnL K mg x st ps) (S : FnScope N ps (defScope st)) (len : ∀ vs H Q E, sp vs H Q E → vs.length = ps.length)
    (hbody : ∀ (f : Addr) (cdv : Value) (A : Around) (outer : List Env) (s : Shared) (H : Hp) (vs : List V) (Q : VK) (E : XK), Room k (A.deeper (envOfC x (defScope st) s.heap.objs.size f cdv)) → sp vs H Q E →
      ∃ t, PSs (cxOf CX0 P w K mg base N x (defScope st) f cdv A outer s H E).nox (defBody st) t ∧ t { nx := fun _ H' => Q .non H', rt := Q } (start N vs) H) : Fn P w K mg base x (k + 1) ps sp := by
  obtain ⟨f, fd, F, m, b⟩ := F
  exact ⟨f, fd, F.ok S len (hbody f), m, F.kp, b⟩
theorem fnL_mk {x : Str} {st : Stmt} {ps : List Str} {h : Heap} {f : Addr} {oc : Value} {od an : Option Addr} {osl : Array (Option Value)} {kV doc pm cdv ct : Value} (X : K.In h) (G : h.Ns mainGlobals mg)
    (a : PySem.W.nsIn K mainGlobals x = some (some (.ref f)))
    (l : K.lookup f = some ⟨oc, od, .func (PySem.W.fnOf x x (defArgs st) (defBody st) (defScope st) .none kV doc pm an cdv ct), osl⟩)
    (c : PySem.W.codeIn K cdv x = true) (k : PySem.W.keepIn K (.ref f) = true)
    (hb : ∀ (kV doc pm : Value) (an : Option Addr) (cdv ct : Value) (us : List Value), us.length = ps.length → bindArgs (PySem.W.fnOf x x (defArgs st) (defBody st) (defScope st) .none kV doc pm an cdv ct) ⟨us, []⟩ = pure (ps.zip us)) : FnL K mg x st ps :=
  ⟨f, _, fun_mk l c k, PySem.W.mg_of X G a, (fun_mk l c k).binds hb⟩
end
section
variable {X : Cx} {k : Nat} {ps : List Str} {sp : Sp} {x : Str} {p pos : Pos} {e : Expr} {es : List Expr} {t : TA}
theorem pe_callF (F : Fn X.prog X.w X.K X.mg X.base x k ps sp) (hr : Room k X.A) (hg : Gl X x) (ha : PA X (e :: es) t) (hdb : (x == ("__debug__" : Str)) = false := by decide)
    (he : starEach (e :: es) X.env = (false, eval e X.env) :: starEach es X.env := by rfl) (hpl : (backTo pos (starEach es X.env)).any (·.1) = false := by rfl) :
    PE X (.Call (.Name x p) (e :: es) [] pos) (tCall sp [] E0 t) := by
  obtain ⟨f, fd, F, m, kp, b⟩ := F
  exact pe_call F hr hg m kp b .nil pass0 ha hdb he hpl
end
structure Wlk (J : It) (xs : List V) (C : Hp → Prop) : Prop where
  go : ∀ i H, C H → i < xs.length → J.go i H
  yld : ∀ i H x H', C H → i < xs.length → J.yld i H x H' → xs[i]? = some x ∧ H' = H
  stop : ∀ i H, C H → xs.length ≤ i → J.stop i H
theorem wlk_list {K : PySem.W.Frag} {a : Addr} {xs : List V} : Wlk (Itl K a) xs (fun H => SqL K H a xs) :=
  ⟨fun i H h hi => ⟨xs, xs[i], h, by simp [hi]⟩, fun i H x H' h _ y => ⟨y.2 xs h, y.1⟩, fun i H h hi => ⟨xs, h, hi⟩⟩
theorem wlk_tup {K : PySem.W.Frag} {a : Addr} {xs : List V} : Wlk (Itt K a) xs (fun H => SqT K H a xs) :=
  ⟨fun i H h hi => ⟨xs, xs[i], h, by simp [hi]⟩, fun i H x H' h _ y => ⟨y.2 xs h, y.1⟩, fun i H h hi => ⟨xs, h, hi⟩⟩
noncomputable def rngV (lo : Int) (n : Nat) : List V := (List.range n).map fun (i : Nat) => V.int (lo + (i : Int))
theorem rngV_length (lo : Int) (n : Nat) : (rngV lo n).length = n := by simp [rngV]
theorem rngV_get {lo : Int} {n i : Nat} (h : i < n) : (rngV lo n)[i]? = some (.int (lo + i)) := by simp [rngV, h]
theorem wlk_range {lo : Int} {n : Nat} : Wlk (Itr lo n) (rngV lo n) (fun _ => True) :=
  ⟨fun i H _ hi => by rw [rngV_length] at hi; exact hi, fun i H x H' _ hi y => by
    obtain ⟨e, y⟩ := y
    rw [rngV_length] at hi
    rw [rngV_get hi, y]; exact ⟨rfl, e⟩, fun i H _ hi => by rw [rngV_length] at hi; exact hi⟩
theorem for_wlk {J : It} {xs : List V} {C : Hp → Prop} (w : Wlk J xs C) {g : TG} {tb : TS} {D : Ends} {σ : St} {H : Hp} (Pv : Nat → St → Hp → Prop) (h0 : Pv 0 σ H) (hl : ∀ i σ H, Pv i σ H → C H)
    (hs : ∀ i x σ H, i < xs.length → xs[i]? = some x → Pv i σ H → g x σ H fun σ2 H2 => tb { D with nx := Pv (i + 1), ct := Pv (i + 1), bk := D.nx } σ2 H2) (hd : ∀ σ H, Pv xs.length σ H → D.nx σ H) :
    ∃ W : Nat → Nat → St → Hp → Prop, (∃ m, W 0 m σ H) ∧ ∀ i m σ H, W i m σ H →
      (J.stop i H ∧ D.nx σ H) ∨ (J.go i H ∧ ∃ N : St → Hp → Prop, (∀ σ' H', N σ' H' → ∃ m', m' < m ∧ W (i + 1) m' σ' H') ∧ ∀ x H', J.yld i H x H' → g x σ H' fun σ2 H2 => tb { D with nx := N, ct := N, bk := D.nx } σ2 H2) := by
  refine ⟨fun i m σ H => m = xs.length - i ∧ i ≤ xs.length ∧ Pv i σ H, ⟨xs.length, by simp, Nat.zero_le _, h0⟩, ?_⟩
  rintro i m σ H ⟨rfl, hi, p⟩
  have q := hl i σ H p
  by_cases hlt : i < xs.length
  · refine .inr ⟨w.go i H q hlt, Pv (i + 1), fun σ' H' p' => ⟨xs.length - (i + 1), by omega, rfl, hlt, p'⟩, fun x H' y => ?_⟩
    obtain ⟨e1, e2⟩ := w.yld i H x H' q hlt y
    subst e2
    exact hs i x σ _ hlt e1 p
  · have e : i = xs.length := by omega
    subst e
    exact .inl ⟨w.stop _ H q (Nat.le_refl _), hd σ H p⟩
theorem comp_wlk {J : It} {xs : List V} {C : Hp → Prop} (w : Wlk J xs C) {g : TG} {tc : TT} {te : TE} {σ0 : St} {Q : VK} {H1 : Hp} {D : Addr} (Pv : Nat → List V → Hp → Prop) (h0 : Pv 0 [] (upd H1 D (.lst []))) (hl : ∀ i ys H, Pv i ys H → C H)
    (hs : ∀ i x ys H, i < xs.length → xs[i]? = some x → Pv i ys H → g x σ0 H fun σ2 H3 => tc σ2 H3 fun b H4 => if b = true then te σ2 H4 fun y H5 => H5 D = some (.lst ys) ∧ ys.length < sizeLine ∧ Pv (i + 1) (ys ++ [y]) (upd H5 D (.lst (ys ++ [y]))) else Pv (i + 1) ys H4)
    (hd : ∀ ys H, Pv xs.length ys H → Q (.ref D) H) :
    ∃ W : Nat → Nat → List V → Hp → Prop, (∃ m, W 0 m [] (upd H1 D (.lst []))) ∧
      ∀ i m ys H2, W i m ys H2 → (J.stop i H2 ∧ Q (.ref D) H2) ∨ (J.go i H2 ∧ ∃ N : List V → Hp → Prop, (∀ ys' H', N ys' H' → ∃ m', m' < m ∧ W (i + 1) m' ys' H') ∧
        ∀ x H', J.yld i H2 x H' → g x σ0 H' fun σ2 H3 => tc σ2 H3 fun b H4 => if b = true then te σ2 H4 fun y H5 => H5 D = some (.lst ys) ∧ ys.length < sizeLine ∧ N (ys ++ [y]) (upd H5 D (.lst (ys ++ [y]))) else N ys H4) := by
  refine ⟨fun i m ys H => m = xs.length - i ∧ i ≤ xs.length ∧ Pv i ys H, ⟨xs.length, by simp, Nat.zero_le _, h0⟩, ?_⟩
  rintro i m ys H ⟨rfl, hi, p⟩
  have q := hl i ys H p
  by_cases hlt : i < xs.length
  · refine .inr ⟨w.go i H q hlt, Pv (i + 1), fun σ' H' p' => ⟨xs.length - (i + 1), by omega, rfl, hlt, p'⟩, fun x H' y => ?_⟩
    obtain ⟨e1, e2⟩ := w.yld i H x H' q hlt y
    subst e2
    exact hs i x ys _ hlt e1 p
  · have e : i = xs.length := by omega
    subst e
    exact .inl ⟨w.stop _ H q (Nat.le_refl _), hd ys H p⟩
end L2
namespace L2
open PySem PySem.Spec PyProof.Rows
noncomputable def cellOrFree (xs : List (Str × NameKind)) (x : Str) : Bool := xs.lookup x == some .cell || xs.lookup x == some .free
noncomputable def compChk (XN : List Str) (xs sn : List (Str × NameKind)) (N : List Str) (nt : Nat) (js : List Nat) : Bool :=
  decide N.Nodup && N.length == nt + js.length && (js.zip (N.drop nt)).all (fun p => XN[p.1]? == some p.2 && cellOrFree xs p.2) && (N.drop nt).all (fun x => sn.lookup x == some .free)
    && sn.all (fun y => y.2 != .cell) && sn.all (fun y => y.2 != .local || sn.lookup y.1 == some .local) && sn.all (fun y => y.2 != .free || cellOrFree xs y.1)
theorem cellOrFree_iff {xs : List (Str × NameKind)} {x : Str} (h : cellOrFree xs x = true) : xs.lookup x = some .cell ∨ xs.lookup x = some .free := by
  unfold cellOrFree at h
  rw [Bool.or_eq_true] at h
  simpa using h
theorem compOk_of {X : Cx} {scope : Scope} {N : List Str} {nt : Nat} {js : List Nat} (XN : List Str) (xs : List (Str × NameKind)) (hk : scope.kind = .function) (hN : X.N = XN) (hx : X.env.scope.names = xs)
    (h : compChk XN xs scope.names N nt js = true) : CompOk X scope N nt js := by
  subst hN hx
  unfold compChk at h
  simp only [Bool.and_eq_true] at h
  obtain ⟨⟨⟨⟨⟨⟨h1, h2⟩, h3⟩, h4⟩, h5⟩, h6⟩, h7⟩ := h
  refine ⟨hk, of_decide_eq_true h1, by simpa using h2, fun k j x e1 e2 => ?_, fun k x e => ?_, fun y hy => ?_, fun y hy e => ?_, fun y hy e => ?_⟩
  · have hm : (j, x) ∈ js.zip (N.drop nt) := by
      have e2' : (N.drop nt)[k]? = some x := by rw [List.getElem?_drop]; exact e2
      have : (js.zip (N.drop nt))[k]? = some (j, x) := by rw [List.getElem?_zip_eq_some]; exact ⟨e1, e2'⟩
      exact List.mem_of_getElem? this
    have q := List.all_eq_true.mp h3 _ hm
    rw [Bool.and_eq_true] at q
    exact ⟨by simpa using q.1, cellOrFree_iff q.2⟩
  · have hm : x ∈ N.drop nt := by
      have e2' : (N.drop nt)[k]? = some x := by rw [List.getElem?_drop]; exact e
      exact List.mem_of_getElem? e2'
    simpa using List.all_eq_true.mp h4 _ hm
  · simpa using List.all_eq_true.mp h5 _ hy
  · have q := List.all_eq_true.mp h6 _ hy
    rw [e] at q
    simpa using q
  · have q := List.all_eq_true.mp h7 _ hy
    rw [e] at q
    exact cellOrFree_iff (by simpa using q)
end L2
namespace L2
open PySem PySem.Spec PyProof.Rows
theorem ex_kS {s : Str} {P : Key → Prop} : (∃ k, V.str s = kV k ∧ P k) ↔ P (Sum.inr s) := by
  constructor
  · rintro ⟨k, e, p⟩
    cases k with
    | inl i => cases e
    | inr x => cases e; exact p
  · exact fun p => ⟨_, rfl, p⟩
theorem ex_kI {i : Int} {P : Key → Prop} : (∃ k, V.int i = kV k ∧ P k) ↔ P (Sum.inl i) := by
  constructor
  · rintro ⟨k, e, p⟩
    cases k with
    | inl i => cases e; exact p
    | inr x => cases e
  · exact fun p => ⟨_, rfl, p⟩
section
variable {X : Cx} {o i value e : Expr} {td ty tv : TE} {pos pos' : Pos}
noncomputable def tDG (td ty : TE) : TE := fun σ H Q => td σ H fun x H1 => ty σ H1 fun y H2 => ∃ a, x = .ref a ∧ ∃ k, y = kV k ∧ ∃ kvs v, H2 a = some (.dK kvs) ∧ valV kvs k = some v ∧ Q v H2
theorem pe_dg (hu : X.A.units + 1 < cLine) (ho : PE X o td) (hi : PE X i ty) (hs : NoSl i) : PE X (.Subscript o i pos) (tDG td ty) := by
  intro pins s σ H Q I h
  refine subD_of PySem.F.slot_dict_getitem.lookup hs (thn (ho pins s σ H _ I h) fun u s1 ⟨x, H1, I1, rx, q1⟩ => thn (hi pins s1 σ H1 _ I1 q1) fun iv s2 zr3873 => ?_)
  obtain ⟨y, H2, I2, ry, a, ex, k, ey, kvs, v, hd, hv, q2⟩ := zr3873
  subst ex
  obtain rfl : u = Value.ref a := rx
  have g : DGet H2 a y (some v) := .inl ⟨kvs, k, .inl hd, ey, hv.symm⟩
  exact ⟨dict_typeIs I2 g, d_getItem hu I2 g ry fun w' s3 I3 rw' => ⟨v, H2, I3, rw', q2⟩⟩
noncomputable def sDP (td ty tv : TE) : TS := fun D σ H => tv σ H fun v H1 => td σ H1 fun x H2 => ty σ H2 fun y H3 => ∃ a, x = .ref a ∧ ∃ k, y = kV k ∧ ∃ kvs, H3 a = some (.dK kvs) ∧ kvs.length < sizeLine ∧ D.nx σ (upd H3 a (.dK (putK kvs k v)))
theorem ps_dp (hu : X.A.units + 1 < cLine) (ho : PE X o td) (hi : PE X i ty) (hv : PE X value tv) (hs : swapsWith value (some (.Subscript o i pos')) pos.line X.env = pure false) :
    PS X (.Assign [.Subscript o i pos'] value pos) (sDP td ty tv) := by
  intro pins s σ H D I h
  refine wpAny_Assign_Subscript (thn (hv pins s σ H _ I h) fun r s1 ⟨v, H1, I1, rv, q1⟩ => thn (ho pins s1 σ H1 _ I1 q1) fun u s2 ⟨x, H2, I2, rx, q2⟩ => thn (hi pins s2 σ H2 _ I2 q2) fun iv s3 zr3882 => ?_) hs
  obtain ⟨y, H3, I3, ry, a, ex, k, ey, kvs, hd, hl, q3⟩ := zr3882
  subst ex
  obtain rfl : u = Value.ref a := rx
  have g : DPut H3 a y v (upd H3 a (.dK (putK kvs k v))) := .inl ⟨kvs, k, hd, ey, hl, rfl⟩
  exact d_setItem hu I3 g ry rv fun s4 I4 => ⟨σ, _, I4, q3⟩
end
end L2
namespace L2
open PySem PySem.Spec PyProof.Rows
theorem while_rd {c : TT} {tb : TS} {D : Ends} {σ : St} {H : Hp} (W : Nat → St → Hp → Prop) (hend : St → Hp → Prop) (h0 : ∃ m, W m σ H)
    (hs : ∀ R : St → Hp → Prop, (∀ σ H, hend σ H → R σ H) → ∀ m σ H, W m σ H → c σ H fun b H1 => if b = true then ∃ N : St → Hp → Prop, (∀ σ' H', N σ' H' → ∃ m', m' < m ∧ W m' σ' H') ∧ tb { D with nx := N, ct := N, bk := R } σ H1 else R σ H1)
    (hnx : ∀ σ H, hend σ H → D.nx σ H) : tWhile c tb D σ H := ⟨W, h0, fun m σ H w => hs D.nx hnx m σ H w⟩
theorem cxK {CX : CXT} {P : Program} {w : World} {K : PySem.W.Frag} {mg : Str → Option Value} {base : Heap} {N : List Str} {q : Str} {sc : Scope} {f : Addr} {cd : Value} {A : Around} {o : List Env} {s : Shared} {H : Hp} {E : XK} :
    (cxOf CX P w K mg base N q sc f cd A o s H E).K = K := rfl
theorem cpK {X : Cx} {sc : Scope} {N : List Str} {cl : List (Str × Addr)} {C : Addr} {fp : List Addr} {s : Shared} {H : Hp} {xe : Value → Shared → Prop} : (compCx X sc N cl C fp s H xe).K = X.K := rfl
end L2
namespace L2
open PySem PySem.Spec PyProof.Rows
theorem scal_ii (i j : Int) : scal (.int i) (.int j) = true := rfl
theorem scal_ss (i j : Str) : scal (.str i) (.str j) = true := rfl
theorem scal_bb (i j : Bool) : scal (.bl i) (.bl j) = true := rfl
theorem scal_nn : scal .non .non = true := rfl
theorem scal_in (i : Int) : scal (.int i) .non = true := rfl
theorem scal_si (s : Str) (i : Int) : scal (.str s) (.int i) = true := rfl
section
variable {X : Cx} {a b o e l : Expr} {es : List Expr} {ta tb to : TE} {t : TA} {pos : Pos} {tg : Expr}
theorem OpR.imp {f : Value → Value → Sem Value} {r r' : R2} (h : OpR X f r) (i : ∀ x y H Q, r' x y H Q → r x y H Q) : OpR X f r' := fun pins s σ H x y v u Q I rx ry q => h pins s σ H x y v u Q I rx ry (i _ _ _ _ q)
theorem CallR.imp {f : Value} {r r' : List V → Hp → VK → Prop} (h : CallR X f r) (i : ∀ x H Q, r' x H Q → r x H Q) : CallR X f r' := fun pins s σ H xs us Q I rx q => h pins s σ H xs us Q I rx (i _ _ _ q)
theorem IxR.imp {r r' : R2} (h : IxR X r) (i : ∀ x y H Q, r' x y H Q → r x y H Q) : IxR X r' := fun value slice pins s σ H x y v u Q I rx ry q hs => h value slice pins s σ H x y v u Q I rx ry (i _ _ _ _ q) hs
theorem SlR.imp {r r' : V → Option Int → Option Int → Hp → VK → Prop} (h : SlR X r) (i : ∀ x lo hi H Q, r' x lo hi H Q → r x lo hi H Q) : SlR X r' := fun pins s σ H x v vl vu lo hi sl Q I rx hs pl pu q => h pins s σ H x v vl vu lo hi sl Q I rx hs pl pu (i _ _ _ _ _ q)
noncomputable def rLenL : List V → Hp → VK → Prop := fun xs H Q => ∃ p, xs = [.ref p] ∧ ∃ ys, H p = some (.lst ys) ∧ Q (.int ys.length) H
noncomputable def rLenT : List V → Hp → VK → Prop := fun xs H Q => ∃ p, xs = [.ref p] ∧ ∃ ys, H p = some (.tup ys) ∧ Q (.int ys.length) H
theorem call_lenL : CallR X (.builtin "len") rLenL := call_len_seq.imp fun _ _ _ zq9 => by obtain ⟨p, e, ys, h, q⟩ := zq9; exact (⟨p, ys, e, .inl (.of h), q⟩)
theorem call_lenT : CallR X (.builtin "len") rLenT := call_len_seq.imp fun _ _ _ zq10 => by obtain ⟨p, e, ys, h, q⟩ := zq10; exact (⟨p, ys, e, .inr (.of h), q⟩)
noncomputable def rIL : R2 := fun x y H Q => ∃ p, x = .ref p ∧ ∃ i, y = .int i ∧ ∃ xs, H p = some (.lst xs) ∧ ∃ v, atI xs i = some v ∧ Q v H
noncomputable def rIT : R2 := fun x y H Q => ∃ p, x = .ref p ∧ ∃ i, y = .int i ∧ ∃ xs, H p = some (.tup xs) ∧ ∃ v, atI xs i = some v ∧ Q v H
theorem ix_L : IxR X rIL := ix_list.imp fun _ _ _ _ zq11 => by obtain ⟨p, e, i, e2, xs, h, v, ha, q⟩ := zq11; exact (⟨p, xs, i, v, e, e2, .of h, ha, q⟩)
theorem ix_T : IxR X rIT := ix_tup.imp fun _ _ _ _ zq12 => by obtain ⟨p, e, i, e2, xs, h, v, ha, q⟩ := zq12; exact (⟨p, xs, i, v, e, e2, .of h, ha, q⟩)
noncomputable def rIS : R2 := fun x y H Q => ∃ z, x = .str z ∧ ∃ i, y = .int i ∧ z.length ≤ sizeLine ∧ ∃ c, atI z.cps.toList i = some c ∧ Q (.str ⟨#[c]⟩) H
theorem ix_S : IxR X rIS := ix_str.imp fun _ _ _ _ zq13 => by obtain ⟨z, e, i, e2, h, c, ha, q⟩ := zq13; exact (⟨z, i, c, e, e2, h, ha, q⟩)
noncomputable def rSL : V → Option Int → Option Int → Hp → VK → Prop := fun x lo hi H Q => ∃ a, x = .ref a ∧ ∃ xs, H a = some (.lst xs) ∧ ∀ p, H p = none → Q (.ref p) (upd H p (.lst (cutV xs lo hi)))
theorem sl_L : SlR X rSL := sl_list.imp fun _ _ _ _ _ zq14 => by obtain ⟨a, e, xs, h, q⟩ := zq14; exact (⟨a, xs, e, .of h, q⟩)
noncomputable def rSQ (K : PySem.W.Frag) : V → Option Int → Option Int → Hp → VK → Prop := fun x lo hi H Q => ∃ a, x = .ref a ∧ ∃ xs, SqL K H a xs ∧ ∀ p, H p = none → Q (.ref p) (upd H p (.lst (cutV xs lo hi)))
theorem sl_Q : SlR X (rSQ X.K) := sl_list.imp fun _ _ _ _ _ zq15 => by obtain ⟨a, e, xs, h, q⟩ := zq15; exact (⟨a, xs, e, h, q⟩)
noncomputable def iL (K : PySem.W.Frag) (tl : TE) : TI := fun σ H R => tl σ H fun x H1 => ∃ a, x = .ref a ∧ ∃ xs, H1 a = some (.lst xs) ∧ R (Itl K a) H1
noncomputable def iT (K : PySem.W.Frag) (tl : TE) : TI := fun σ H R => tl σ H fun x H1 => ∃ a, x = .ref a ∧ ∃ xs, H1 a = some (.tup xs) ∧ R (Itt K a) H1
theorem pi_L {tl : TE} (hl : PE X l tl) : PI X tg l (iL X.K tl) := by
  intro pins s σ H R I h
  refine thn (hl pins s σ H _ I h) fun v s1 zr3930 => ?_
  obtain ⟨x, H1, I1, r1, a, e, xs, hq, q⟩ := zr3930
  subst e
  cases r1
  obtain ⟨its, rv, p, hz⟩ := I1.list (SqL.of hq)
  refine wpAny_pyIter_list p.isList ?_
  refine ⟨s1.heap.objs.size, [s1.heap.objs.size], _, _, H1, rfl, I1.kept (t' := s1.toks) fun b o e => Heap.get?_push_of_some _ e, turn_list a _, ⟨_, Heap.get?_push_size _ rfl, rfl, rfl⟩, fun b hb => ?_, q⟩
  have e : b = s1.heap.objs.size := by simpa using hb
  subst e
  exact I1.fpOk (Nat.le_refl _) (I1.hok.fresh (Nat.le_refl _))
theorem pi_T {tl : TE} (hl : PE X l tl) : PI X tg l (iT X.K tl) := by
  intro pins s σ H R I h
  refine thn (hl pins s σ H _ I h) fun v s1 zr3941 => ?_
  obtain ⟨x, H1, I1, r1, a, e, xs, hq, q⟩ := zr3941
  subst e
  cases r1
  obtain ⟨its, rv, p, hz⟩ := I1.tuple (SqT.of hq)
  refine wpAny_pyIter_tuple (show s1.heap.IsTuple a its.toArray from p) ?_
  refine ⟨s1.heap.objs.size, [s1.heap.objs.size], _, _, H1, rfl, I1.kept (t' := s1.toks) fun b o e => Heap.get?_push_of_some _ e, turn_tuple a _, ⟨_, Heap.get?_push_size _ rfl, rfl, rfl⟩, fun b hb => ?_, q⟩
  have e : b = s1.heap.objs.size := by simpa using hb
  subst e
  exact I1.fpOk (Nat.le_refl _) (I1.hok.fresh (Nat.le_refl _))
noncomputable abbrev RM := Addr → List V → Hp → VK → Prop
noncomputable def MtL (X : Cx) (id : String) (r : RM) : Prop := MtR X id fun x vs H Q => ∃ p, x = .ref p ∧ r p vs H Q
noncomputable def tML (r : RM) (to : TE) (t : TA) : TE := fun σ H Q => to σ H fun x H1 => ∃ p, x = .ref p ∧ (∃ xs, H1 p = some (.lst xs)) ∧ t σ H1 fun vs H2 => r p vs H2 Q
variable {name : Str} {id : String} {r : RM} {apos cpos : Pos}
theorem pe_mL (slot : Slot "list" name id) (hty : typeOf (.builtin id) = pure (.type "method_descriptor")) (hm : MtL X id r) (ho : PE X o to) (ha : PA X (e :: es) t)
    (hbase : attributeBase o name X.env (eval o X.env) = eval o X.env := by rfl)
    (hfew : ((backTo cpos (starEach (e :: es) X.env)).all (fun x => !x.1) && (backToKw cpos (keywordEach [] X.env)).all (fun x => x.1.isSome)
      && decide ((e :: es).length + ([] : List Keyword).length + (if ([] : List Keyword).isEmpty then 0 else 1) < 30)) = true := by rfl)
    (hline : (apos.endLine == cpos.line) = true := by rfl) (hs : starEach (e :: es) X.env = (false, eval e X.env) :: starEach es X.env := by rfl) (hplain : (backTo cpos (starEach es X.env)).any (·.1) = false := by rfl) :
    PE X (.Call (.Attribute o name apos) (e :: es) [] cpos) (tML r to t) := by
  intro pins s σ H Q I h
  refine wpAny_Call_method_late hbase hfew hline rfl (thn (ho pins s σ H _ I h) fun v s1 ⟨x, H1, I1, r1, p, ex, ⟨xs, hp⟩, q1⟩ => ?_)
  subst ex
  have ty : tyV X.K "list" (.ref p) H1 := .inl ⟨rfl, xs, .of hp⟩
  obtain ⟨h1, h2⟩ := tyV_is I1 r1 ty
  refine ⟨"list", id, PySem.F.plainAttrs_list, slot, hty, h1, h2, ?_⟩
  have hA := ha cpos pins s1 σ H1 _ I1 q1
  rw [hs] at hA ⊢
  refine Calls.callWith_builtin (by show (false || (backTo cpos (starEach es X.env)).any (·.1)) = false; rw [hplain] <;> rfl) (Calls.evalArgs_plain ?_)
  refine thn hA fun us s2 zr3969 => ?_
  obtain ⟨vs, H2, I2, rr, q2⟩ := zr3969
  exact hm pins s2 σ H2 (.ref p) vs v us Q I2 r1 rr ⟨p, rfl, q2⟩
theorem pe_mL0 (slot : Slot "list" name id) (hty : typeOf (.builtin id) = pure (.type "method_descriptor")) (hm : MtL X id r) (ho : PE X o to)
    (hbase : attributeBase o name X.env (eval o X.env) = eval o X.env := by rfl) (hline : (apos.endLine == cpos.line) = true := by rfl) : PE X (.Call (.Attribute o name apos) [] [] cpos) (tML r to tNil) := by
  intro pins s σ H Q I h
  refine wpAny_Call_method0_late hbase hline (thn (ho pins s σ H _ I h) fun v s1 ⟨x, H1, I1, r1, p, ex, ⟨xs, hp⟩, q1⟩ => ?_)
  subst ex
  have ty : tyV X.K "list" (.ref p) H1 := .inl ⟨rfl, xs, .of hp⟩
  obtain ⟨h1, h2⟩ := tyV_is I1 r1 ty
  exact ⟨"list", id, PySem.F.plainAttrs_list, slot, hty, h1, h2, Calls.callWith_builtin rfl (PySem.evalArgs_none (hm pins s1 σ H1 _ [] v [] Q I1 r1 .nil ⟨p, rfl, q1⟩))⟩
noncomputable def rmAppend : RM := fun p vs H Q => ∃ y, vs = [y] ∧ ∃ xs, H p = some (.lst xs) ∧ xs.length < sizeLine ∧ Q .non (upd H p (.lst (xs ++ [y])))
theorem ml_append : MtL X "list.append" rmAppend := fun pins s σ H x vs v us Q I rx rv zq16 => by obtain ⟨p, e, y, e2, xs, h, hl, q⟩ := zq16; exact (mt_append pins s σ H x vs v us Q I rx rv ⟨p, xs, y, e, e2, h, hl, q⟩)
noncomputable def rmPop : RM := fun p vs H Q => vs = [] ∧ ∃ xs, H p = some (.lst xs) ∧ ∃ y, xs[xs.length - 1]? = some y ∧ Q y (upd H p (.lst xs.dropLast))
theorem ml_pop : MtL X "list.pop" rmPop := fun pins s σ H x vs v us Q I rx rv zq17 => by obtain ⟨p, e, e2, xs, h, y, hl, q⟩ := zq17; exact (mt_pop pins s σ H x vs v us Q I rx rv ⟨p, xs, y, e, e2, h, hl, q⟩)
noncomputable def rInL (neg : Bool) : R2 := fun x y H Q => ∃ p, y = .ref p ∧ ∃ xs, H p = some (.lst xs) ∧ flatV x = true ∧ xs.all flatV = true ∧ Q (.bl (if neg then !inV x xs else inV x xs)) H
noncomputable def rInT (neg : Bool) : R2 := fun x y H Q => ∃ p, y = .ref p ∧ ∃ xs, H p = some (.tup xs) ∧ flatV x = true ∧ xs.all flatV = true ∧ Q (.bl (if neg then !inV x xs else inV x xs)) H
theorem op_inL : OpR X (compareOp .In) (rInL false) := op_in_seq.imp fun _ _ _ _ zq18 => by obtain ⟨p, e, xs, h, f1, f2, q⟩ := zq18; exact (⟨p, xs, e, .inl (.of h), f1, f2, q⟩)
theorem op_inT : OpR X (compareOp .In) (rInT false) := op_in_seq.imp fun _ _ _ _ zq19 => by obtain ⟨p, e, xs, h, f1, f2, q⟩ := zq19; exact (⟨p, xs, e, .inr (.of h), f1, f2, q⟩)
theorem op_notInT : OpR X (compareOp .NotIn) (rInT true) := op_notIn_seq.imp fun _ _ _ _ zq20 => by obtain ⟨p, e, xs, h, f1, f2, q⟩ := zq20; exact (⟨p, xs, e, .inr (.of h), f1, f2, q⟩)
noncomputable def rTupL : List V → Hp → VK → Prop := fun xs H Q => ∃ p, xs = [.ref p] ∧ ∃ ys, H p = some (.lst ys) ∧ ∀ l, H l = none → Q (.ref l) (upd H l (.tup ys))
theorem call_tupL : CallR X (.type "tuple") rTupL := call_tuple_of.imp fun _ _ _ zq21 => by obtain ⟨p, e, ys, h, q⟩ := zq21; exact (⟨p, ys, e, .inl ⟨.of h, q⟩⟩)
noncomputable def rCS : R2 := fun x y H Q => ∃ i, x = .str i ∧ ∃ j, y = .str j ∧ i.length + j.length ≤ sizeLine ∧ Q (.str (i ++ j)) H
theorem op_catS : OpR X (binaryOp .Add) rCS := op_add_str.imp fun _ _ _ _ zq22 => by obtain ⟨i, e, j, e2, h, q⟩ := zq22; exact (⟨i, j, e, e2, h, q⟩)
noncomputable def rLenS : List V → Hp → VK → Prop := fun xs H Q => ∃ z, xs = [.str z] ∧ z.length ≤ sizeLine ∧ Q (.int z.length) H
theorem call_lenS : CallR X (.builtin "len") rLenS := call_len_str
end
end L2
namespace L2
open PySem PySem.Spec PyProof.Rows
section
variable {X : Cx}
theorem ps_setC {i : Nat} {y : Str} {py spos : Pos} {elt tg iter : Expr} {ifs : List Expr} {scope : Scope} {pos : Pos} {N : List Str} {nt : Nat} {js : List Nat} {wi : TI} {g : TG} {tc : TT} {te : TE}
    (hN : X.N.Nodup) (hi0 : X.N[i]? = some y) (hy : Loc X.env.scope y) (hca : X.calm = true) (S : CompOk X scope N nt js) (hi : PI X tg iter wi)
    (hg : ∀ cl C fp s H xe, PG (compCx X scope N cl C fp s H xe) tg g) (hgo : TgOk g nt)
    (hc : ∀ cl C fp s H xe, PTs (compCx X scope N cl C fp s H xe) ifs tc)
    (he : ∀ cl C fp s H xe, PE (compCx X scope N cl C fp s H xe) elt te)
    (hs : ∀ x, foldedSetIterable iter X.env x = pure x := by intro _; rfl)
    (hsw : swapsWith (.ListComp elt [⟨tg, iter, ifs, 0⟩] scope pos) (some (.Name y py)) spos.line X.env = pure true := by rfl)
    (hf : X.fn y = true ∨ X.env.scope.names.lookup y = some .local := by first | exact .inl rfl | exact .inr rfl | assumption) :
    PS X (.Assign [.Name y py] (.ListComp elt [⟨tg, iter, ifs, 0⟩] scope pos) spos) (tAsg (tComp nt js wi g tc te) (gName i)) := by
  intro pins s σ H D I h
  obtain ⟨cl, hclos, hcl1, _, hcl2⟩ := closure_of (env := X.env) scope.names [] (fun x hx hk => I.ok.has x.1 (S.free x hx hk))
  have hcl : ∀ x c, cl.lookup x = some c → X.env.cells.lookup x = some c := fun x c e => (hcl1 x c e).elim (fun z => by simp at z) fun z => z
  have hclos' : closureFor scope X.env = pure cl := by
    unfold closureFor
    simp only []
    rw [hclos]
    rfl
  rw [exec_Assign_Name_used _ _ _ _ hsw]
  refine wpAny_bind (wpAny_standAt (wpAny_bind ?_))
  show wpAny _ X.A (do let _ ← comprehension (.ListComp elt [⟨tg, iter, ifs, 0⟩] scope pos) scope X.env _ (newList []) false (eval iter X.env) (some (assign (.Name y py) X.env))) _ _ s
  refine wpAny_bind (wpAny_mono (wpAny_comprehension_free (use := some (assign (.Name y py) X.env)) (Q := fun _ s' => SP X pins D .next s') rfl hs hclos' S.kind S.loc (thn (hi pins s σ H _ I h) fun v s1 h1 => thn h1 fun itv s2 h2 => ?_)) (fun _ s' hq => wpAny_pure (wpAny_pure hq)) fun _ _ e => e)
  obtain ⟨it, fp, tn, J, H2, e, I2, T, st2, f2, q2⟩ := h2
  subst e
  have hfresh : H2 s2.heap.objs.size = none := I2.hok.fresh (Nat.le_refl _)
  obtain ⟨W, ⟨m0, w0⟩, turn⟩ := q2 s2.heap.objs.size hfresh
  refine wpAny_newObj_type (wpAny_newFunctionEnv S.own (by intro y hy; simp at hy) (fun h₁ hns₁ hsb₁ => ?_) S.kind)
  dsimp only at hns₁ hsb₁ ⊢
  generalize hG : s2.heap.push { cls := .type "list", dict := none, data := .seq ([] : List Value).toArray } = G at hns₁ hsb₁ ⊢
  have hGs : G.objs.size = s2.heap.objs.size + 1 := by rw [← hG, Heap.size_push]
  have kold : ∀ b o, s2.heap.get? b = some o → h₁.get? b = some o := fun b o e =>
    hsb₁.extBut b o (by rw [hGs]; exact Nat.ne_of_lt (Nat.lt_succ_of_lt (Heap.lt_size e))) (Heap.get?_push_of_some _ (hG ▸ Heap.get?_push_of_some _ e))
  have kD : h₁.get? s2.heap.objs.size = some { cls := .type "list", dict := none, data := .seq ([] : List Value).toArray } :=
    hsb₁.extBut _ _ (by rw [hGs]; exact Nat.ne_of_lt (Nat.lt_succ_self _)) (Heap.get?_push_of_some _ (hG ▸ Heap.get?_push_size _ rfl))
  have hok1 : HOk X.prog X.w (upd H2 s2.heap.objs.size (.lst [])) h₁ := I2.hok.laid kold (Nat.le_refl _) ⟨Nat.zero_le _, [], 0, .nil, kD⟩
  have hfpl : ∀ b ∈ fp, b < s2.heap.objs.size := fun b hb => by
    obtain ⟨o, e, _⟩ := T.obj _ _ st2 b hb
    exact Heap.lt_size e
  have hC0 : (upd H2 s2.heap.objs.size (.lst [])) G.objs.size = none := by
    rw [upd_ne (by rw [hGs]; exact Nat.ne_of_gt (Nat.lt_succ_self _))]
    exact I2.hok.fresh (by rw [hGs]; exact Nat.le_succ _)
  generalize hRR : (compPost (model X.prog X.w) X.A X.xe (some (assign (.Name y py) X.env)) (fun _ s' => SP X pins D .next s') (.ref s2.heap.objs.size) G.objs.size) = RR
  have stat : ∀ {H' : Hp}, (∀ b ∈ fp, H' b = none) → ∀ b ∈ fp, FpOk (compCx X scope N cl G.objs.size fp s2 H2 (notedBy (model X.prog X.w) X.A (compEnvC scope cl G.objs.size X.env) fun e s' => RR (.error e) s')) [] H' b := fun {H'} hn b hb => by
    obtain ⟨f0, f1, f2', f3, f4, f5⟩ := f2 b hb
    refine ⟨hn b hb, Nat.ne_of_lt (Nat.lt_of_lt_of_le (hfpl b hb) (by show _ ≤ G.objs.size; rw [hGs]; exact Nat.le_succ _)), fun z => ?_, .inl hb, fun x c e => f4 x c (hcl x c e), fun p hp => absurd (show p ∈ ([] : List (Addr × Obj)) from hp) (by simp)⟩
    rcases List.mem_cons.mp (I2.stkSub b z) with q | q
    · exact f1 q
    · exact f2' q
  have I3 : ∀ tk, Inv (compCx X scope N cl G.objs.size fp s2 H2 (notedBy (model X.prog X.w) X.A (compEnvC scope cl G.objs.size X.env) fun e s' => RR (.error e) s')) [] (inner nt js σ) (upd H2 s2.heap.objs.size (.lst [])) { s2 with heap := h₁, toks := tk } := fun tk =>
    comp_start S I2 f2 hcl hcl2 hfpl (by rw [hGs]; exact Nat.le_succ _) kold (fun b o e => by rw [upd_ne (ne_of_none e hfresh)]; exact e) (fun b n hb => by rw [upd_ne (Nat.ne_of_lt hb)]; exact n) hok1 hns₁ hC0 (fun _ => rfl)
  have loop : ∀ s₃ : Shared, s₃ = { s2 with heap := h₁, toks := s2.toks + ([] : List (Str × Value)).length } →
      codeAny (model X.prog X.w) X.A (.compLoop (.ListComp elt [⟨tg, iter, ifs, 0⟩] scope pos) 0 (.ref it) (.ref s2.heap.objs.size) (compEnvC scope cl G.objs.size X.env)) RR s₃ := by
    rintro s₃ rfl
    refine compLoop_any (fun n s' => ∃ i ys H', Inv (compCx X scope N cl G.objs.size fp s2 H2 (notedBy (model X.prog X.w) X.A (compEnvC scope cl G.objs.size X.env) fun e s' => RR (.error e) s')) [] (inner nt js σ) H' s' ∧ tn i s'.heap ∧ (∀ b ∈ fp, H' b = none) ∧ W i n ys H') ?_ m0
      ⟨0, [], _, I3 _, T.keep _ _ _ st2 fun b hb o e => kold b o e, fun b hb => by rw [upd_ne (Nat.ne_of_lt (hfpl b hb))]; exact (f2 b hb).1, w0⟩
    rintro n s3 ⟨i, ys, H3, J3, st3, fr3, w3⟩
    rcases turn i n ys H3 w3 with ⟨stop, qn⟩ | ⟨go, NN, hN, step⟩
    · refine thn (T.done (compCx X scope N cl G.objs.size fp s2 H2 (notedBy (model X.prog X.w) X.A (compEnvC scope cl G.objs.size X.env) fun e s' => RR (.error e) s')) rfl rfl rfl hca i [] s3 (inner nt js σ) H3 _ J3 (stat fr3) st3 stop) fun r s4 zr4056 => ?_
      obtain ⟨hr, I4⟩ := zr4056
      subst hr
      show RR (.ok .next) s4
      rw [← hRR]
      obtain ⟨mC, hnC, _⟩ := id I4.loc
      have I5 : Inv X pins σ H3 s4 := I2.call' (s' := s4) I4.os I4.base I4.hok I4.bare (fun b hb => by
        obtain ⟨f0, f1, f2', f3, f4, f5⟩ := f2 b hb
        exact ⟨f3, f1, f4, f5⟩)
      show wpAny _ X.A (assign (.Name y py) X.env (.ref s2.heap.objs.size)) _ _ s4
      have hCL : G.objs.size ≠ X.env.locals := Nat.ne_of_gt (Nat.lt_of_lt_of_le I2.lt (by rw [hGs]; exact Nat.le_succ _))
      have hCc : ∀ x c, X.env.cells.lookup x = some c → c ≠ G.objs.size := fun x c e z => by
        obtain ⟨v, q⟩ := I2.cell x c e
        exact absurd (Nat.lt_of_lt_of_le q.lt (by rw [z, hGs]; exact Nat.le_succ _)) (Nat.lt_irrefl _)
      refine wpAny_assign_Name (store_ok2 I5 hN hi0 hy (v := .ref s2.heap.objs.size) rfl (fun s6 I6 zr4069 => ?_) hf)
      obtain ⟨ad, sb, had⟩ := zr4069
      have hadC : G.objs.size ≠ ad := by
        rcases had with z | z
        · rw [z]; exact hCL
        · exact fun e => hCc _ _ z e.symm
      refine ⟨mC, hnC.sameBut sb hadC, fun h'' hs'' => ?_⟩
      refine ⟨_, H3, Inv.turned (t' := s6.toks) (it := G.objs.size) I6 (fun b o hb e => hs''.extBut b o hb e) I4.free hCL (.inr (Nat.le_trans I2.sz (by rw [hGs]; exact Nat.le_succ _))) hCc (fun p hp z => ?_), qn⟩
      have e := (I2.pin p hp).1
      exact absurd (Nat.lt_of_lt_of_le (Heap.lt_size e) (by rw [z, hGs]; exact Nat.le_succ _)) (Nat.lt_irrefl _)
    · refine thn (T.item (compCx X scope N cl G.objs.size fp s2 H2 (notedBy (model X.prog X.w) X.A (compEnvC scope cl G.objs.size X.env) fun e s' => RR (.error e) s')) rfl rfl rfl hca i [] s3 (inner nt js σ) H3 _ J3 (stat fr3) st3 go) fun r s4 zr4078 => ?_
      obtain ⟨u, hr, h4⟩ := zr4078
      subst hr
      refine thn h4 fun _ s5 zr4080 => ?_
      obtain ⟨x, H5, I5, r5, y5, st5, fr5⟩ := zr4080
      have I5' := I5.pinned (stat fr5) (T.obj _ _ st5)
      have g5 := hgo x (inner nt js σ) H5 _ inner_none (step x H5 y5)
      refine thn (hg cl G.objs.size fp s2 H2 _ _ s5 _ H5 x u _ I5' r5 g5) fun _ s6 zr4083 => ?_
      obtain ⟨σ6, H6, I6, wk6, q6⟩ := zr4083
      refine thn (hc cl G.objs.size fp s2 H2 _ _ s6 σ6 H6 _ I6 q6) fun ok s7 zr4084 => ?_
      obtain ⟨H7, I7, q7⟩ := zr4084
      have again : ∀ {s8 : Shared} {H8 : Hp} {ys' : List V}, Inv (compCx X scope N cl G.objs.size fp s2 H2 (notedBy (model X.prog X.w) X.A (compEnvC scope cl G.objs.size X.env) fun e s' => RR (.error e) s')) ([] ++ pinsAt fp s5.heap) σ6 H8 s8 → NN ys' H8 →
          ∃ m, m < n ∧ ∃ i ys H', Inv (compCx X scope N cl G.objs.size fp s2 H2 (notedBy (model X.prog X.w) X.A (compEnvC scope cl G.objs.size X.env) fun e s' => RR (.error e) s')) [] (inner nt js σ) H' s8 ∧ tn i s8.heap ∧ (∀ b ∈ fp, H' b = none) ∧ W i m ys H' := fun {s8 H8 ys'} I8 n8 => by
        obtain ⟨m', hm, w8⟩ := hN ys' H8 n8
        refine ⟨m', hm, i + 1, ys', H8, (I8.unpinned).wk wk6, T.keep _ _ _ st5 fun b hb o e => (I8.pin (b, o) (List.mem_append_right _ (List.mem_append_right _ (mem_pinsAt hb e)))).1, fun b hb => ?_, w8⟩
        obtain ⟨o, e, d⟩ := T.obj _ _ st5 b hb
        exact (I8.pin (b, o) (List.mem_append_right _ (List.mem_append_right _ (mem_pinsAt hb e)))).2.1
      cases ok with
      | false =>
        rw [if_neg Bool.false_ne_true] at q7 ⊢
        exact again I7 q7
      | true =>
        rw [if_pos rfl] at q7 ⊢
        refine thn (he cl G.objs.size fp s2 H2 _ _ s7 σ6 H7 _ I7 q7) fun y s8 zr4097 => ?_
        obtain ⟨yv, H8, I8, r8, hD8, hl8, q8⟩ := zr4097
        refine thn (mt_append (X := compCx X scope N cl G.objs.size fp s2 H2 (notedBy (model X.prog X.w) X.A (compEnvC scope cl G.objs.size X.env) fun e s' => RR (.error e) s')) _ s8 σ6 H8 (.ref s2.heap.objs.size) [yv] (.ref s2.heap.objs.size) [y] (fun _ H9 => NN (ys ++ [yv]) H9) I8 rfl (.cons r8 .nil) ⟨_, ys, yv, rfl, rfl, hD8, hl8, q8⟩) fun v9 s9 zr4098 => ?_
        obtain ⟨x9, H9, I9, r9, q9⟩ := zr4098
        exact again I9 q9
  subst hRR
  exact codeAny_compStart_list (loop _ rfl) (T.self _ 0 _ _ _ (T.keep _ _ _ st2 fun b hb o e => kold b o e) (loop _ rfl))
end
end L2
namespace L2
open PySem PySem.Spec PyProof.Rows
noncomputable def CompG (J : It) (σ0 : St) (g : TG) (tc : TT) (te : TE) (Q : VK) (H1 : Hp) (D : Addr) : Prop := ∃ W : Nat → Nat → List V → Hp → Prop, (∃ m, W 0 m [] (upd H1 D (.lst []))) ∧
  ∀ i m ys H2, W i m ys H2 → (J.stop i H2 ∧ Q (.ref D) H2) ∨ (J.go i H2 ∧ ∃ N : List V → Hp → Prop, (∀ ys' H', N ys' H' → ∃ m', m' < m ∧ W (i + 1) m' ys' H') ∧
    ∀ x H', J.yld i H2 x H' → g x σ0 H' fun σ2 H3 => tc σ2 H3 fun b H4 => if b = true then te σ2 H4 fun y H5 => H5 D = some (.lst ys) ∧ ys.length < sizeLine ∧ N (ys ++ [y]) (upd H5 D (.lst (ys ++ [y]))) else N ys H4)
theorem tComp_eq (nt : Nat) (js : List Nat) (wi : TI) (g : TG) (tc : TT) (te : TE) : tComp nt js wi g tc te = fun σ H Q => wi σ H fun J H1 => ∀ D, H1 D = none → CompG J (inner nt js σ) g tc te Q H1 D := rfl
noncomputable def ForG (J : It) (g : TG) (tb : TS) (D : Ends) (σ : St) (H1 : Hp) : Prop := ∃ W : Nat → Nat → St → Hp → Prop, (∃ m, W 0 m σ H1) ∧ ∀ i m σ H, W i m σ H →
  (J.stop i H ∧ D.nx σ H) ∨ (J.go i H ∧ ∃ N : St → Hp → Prop, (∀ σ' H', N σ' H' → ∃ m', m' < m ∧ W (i + 1) m' σ' H') ∧ ∀ x H', J.yld i H x H' → g x σ H' fun σ2 H2 => tb { D with nx := N, ct := N, bk := D.nx } σ2 H2)
theorem tFor_eq (wi : TI) (g : TG) (tb : TS) : tFor wi g tb = fun D σ H => wi σ H fun J H1 => ForG J g tb D σ H1 := rfl
theorem for_g {J : It} {xs : List V} {C : Hp → Prop} (w : Wlk J xs C) {g : TG} {tb : TS} {D : Ends} {σ : St} {H : Hp} (Pv : Nat → St → Hp → Prop) (h0 : Pv 0 σ H) (hl : ∀ i σ H, Pv i σ H → C H)
    (hs : ∀ i x σ H, i < xs.length → xs[i]? = some x → Pv i σ H → g x σ H fun σ2 H2 => tb { D with nx := Pv (i + 1), ct := Pv (i + 1), bk := D.nx } σ2 H2) (hd : ∀ σ H, Pv xs.length σ H → D.nx σ H) : ForG J g tb D σ H :=
  for_wlk w Pv h0 hl hs hd
theorem comp_g {J : It} {xs : List V} {C : Hp → Prop} (w : Wlk J xs C) {g : TG} {tc : TT} {te : TE} {σ0 : St} {Q : VK} {H1 : Hp} {D : Addr} (Pv : Nat → List V → Hp → Prop) (h0 : Pv 0 [] (upd H1 D (.lst []))) (hl : ∀ i ys H, Pv i ys H → C H)
    (hs : ∀ i x ys H, i < xs.length → xs[i]? = some x → Pv i ys H → g x σ0 H fun σ2 H3 => tc σ2 H3 fun b H4 => if b = true then te σ2 H4 fun y H5 => H5 D = some (.lst ys) ∧ ys.length < sizeLine ∧ Pv (i + 1) (ys ++ [y]) (upd H5 D (.lst (ys ++ [y]))) else Pv (i + 1) ys H4)
    (hd : ∀ ys H, Pv xs.length ys H → Q (.ref D) H) : CompG J σ0 g tc te Q H1 D := comp_wlk w Pv h0 hl hs hd
theorem inner0 (js : List Nat) (σ : St) : inner 0 js σ = js.map fun j => (σ[j]?).join := rfl
theorem inner1 (js : List Nat) (σ : St) : inner 1 js σ = none :: js.map fun j => (σ[j]?).join := rfl
theorem inner2 (js : List Nat) (σ : St) : inner 2 js σ = none :: none :: js.map fun j => (σ[j]?).join := rfl
theorem inner3 (js : List Nat) (σ : St) : inner 3 js σ = none :: none :: none :: js.map fun j => (σ[j]?).join := rfl
theorem Same.upd_new {H H1 : Hp} {p : Addr} {o : HO} (s : Same H H1) (hp : H1 p = none) : Same H (upd H1 p o) := fun b u e => by
  have e1 := s b u e
  rw [upd_ne (ne_of_none e1 hp)]; exact e1
theorem Same.upd0 {H : Hp} {p : Addr} {o : HO} (hp : H p = none) : Same H (upd H p o) := (Same.refl H).upd_new hp
end L2
namespace L2
open PySem PySem.Spec PyProof.Rows
noncomputable def IsB (H : Hp) (x : V) (T : String) (k : Bool) : Prop := match x with
  | .non => k = false
  | .bl _ => k = (T == "bool" || T == "int")
  | .int _ => k = (T == "int")
  | .str _ => k = (T == "str")
  | .ref a => (∃ vs, H a = some (.tup vs) ∧ k = (T == "tuple")) ∨ (∃ vs, H a = some (.lst vs) ∧ k = (T == "list"))
  | _ => False
noncomputable def rIsB : List V → Hp → VK → Prop := fun xs H Q => ∃ x T, xs = [x, .ty T] ∧ (T = "int" ∨ T = "str" ∨ T = "bool" ∨ T = "tuple" ∨ T = "list") ∧ ∃ k, IsB H x T k ∧ Q (.bl k) H
theorem kit_all (K : PySem.W.Frag) {T : String} (h : T = "int" ∨ T = "str" ∨ T = "bool" ∨ T = "tuple" ∨ T = "list") :
    PySem.W.kitOne K (.type "NoneType") (.type T) = some false ∧ PySem.W.kitOne K (.type "bool") (.type T) = some (T == "bool" || T == "int") ∧ PySem.W.kitOne K (.type "int") (.type T) = some (T == "int") ∧
    PySem.W.kitOne K (.type "str") (.type T) = some (T == "str") ∧ PySem.W.kitOne K (.type "tuple") (.type T) = some (T == "tuple") ∧ PySem.W.kitOne K (.type "list") (.type T) = some (T == "list") := by
  rcases h with rfl | rfl | rfl | rfl | rfl
  all_goals exact ⟨rfl, rfl, rfl, rfl, rfl, rfl⟩
theorem call_isB {X : Cx} : CallR X (.builtin "isinstance") rIsB := call_isi.imp fun xs H Q ⟨x, T, e, hT, k, hk, q⟩ => by
  obtain ⟨k1, k2, k3, k4, k5, k6⟩ := kit_all X.K hT
  cases x with
  | non => cases hk; exact ⟨_, _, T, _, e, .non, k1, q⟩
  | bl b => cases hk; exact ⟨_, _, T, _, e, .bl b, k2, q⟩
  | int b => cases hk; exact ⟨_, _, T, _, e, .int b, k3, q⟩
  | str b => cases hk; exact ⟨_, _, T, _, e, .str b, k4, q⟩
  | ref a =>
    rcases hk with ⟨vs, h, rfl⟩ | ⟨vs, h, rfl⟩
    · exact ⟨_, _, T, _, e, .tup h, k5, q⟩
    · exact ⟨_, _, T, _, e, .lst h, k6, q⟩
  | _ => exact hk.elim
end L2
namespace L2
open PySem
noncomputable def smallB (c : Nat) : Bool := decide (97 ≤ c) && decide (c ≤ 122)
end L2
namespace L2
open PySem
theorem str_len_append (a b : Str) : (a ++ b).length = a.length + b.length := by
  show (a ++ b).cps.size = a.cps.size + b.cps.size
  exact Array.size_append
end L2
namespace L2
open PySem PySem.Spec PyProof.Rows
section
variable {X : Cx} {a b o e l : Expr} {es : List Expr} {ta tb to : TE} {t : TA} {pos : Pos} {tg : Expr}
noncomputable def CDivW (i j : Int) : Prop := 0 < j ∧ j < 18446744073709551616
theorem op_fdivW : OpR X (binaryOp .FloorDiv) (rI CDivW fun i j => .int (i / j)) := opI fun i j _ _ _ _ _ hc q => by
  have h1 : (0 : Int) < j := hc.1
  have h2 : j < 18446744073709551616 := hc.2
  refine floordiv_int (by omega) (by rw [Int.fdiv_eq_ediv_of_nonneg i (by omega)]; exact q) (.inl (PyProof.noPylong_of_log2 ?_))
  have h3 : j.natAbs < 2 ^ 64 := by omega
  exact Nat.lt_trans ((Nat.log2_lt (by omega)).mpr h3) (by decide)
noncomputable abbrev RMS := Str → List V → Hp → VK → Prop
noncomputable def MtS (X : Cx) (id : String) (r : RMS) : Prop := MtR X id fun x vs H Q => ∃ p, x = .str p ∧ r p vs H Q
noncomputable def tMS (r : RMS) (to : TE) (t : TA) : TE := fun σ H Q => to σ H fun x H1 => ∃ p, x = .str p ∧ t σ H1 fun vs H2 => r p vs H2 Q
variable {name : Str} {id : String} {r : RMS} {apos cpos : Pos}
theorem pe_mS (slot : Slot "str" name id) (hty : typeOf (.builtin id) = pure (.type "method_descriptor")) (hm : MtS X id r) (ho : PE X o to) (ha : PA X (e :: es) t)
    (hbase : attributeBase o name X.env (eval o X.env) = eval o X.env := by rfl)
    (hfew : ((backTo cpos (starEach (e :: es) X.env)).all (fun x => !x.1) && (backToKw cpos (keywordEach [] X.env)).all (fun x => x.1.isSome)
      && decide ((e :: es).length + ([] : List Keyword).length + (if ([] : List Keyword).isEmpty then 0 else 1) < 30)) = true := by rfl)
    (hline : (apos.endLine == cpos.line) = true := by rfl) (hs : starEach (e :: es) X.env = (false, eval e X.env) :: starEach es X.env := by rfl) (hplain : (backTo cpos (starEach es X.env)).any (·.1) = false := by rfl) :
    PE X (.Call (.Attribute o name apos) (e :: es) [] cpos) (tMS r to t) := by
  intro pins s σ H Q I h
  refine wpAny_Call_method_late hbase hfew hline rfl (thn (ho pins s σ H _ I h) fun v s1 zr4188 => ?_)
  obtain ⟨x, H1, I1, r1, p, ex, q1⟩ := zr4188
  subst ex
  obtain ⟨h1, h2⟩ := tyV_is I1 r1 (show tyV X.K "str" (.str p) H1 from rfl)
  refine ⟨"str", id, PySem.F.plainAttrs_str, slot, hty, h1, h2, ?_⟩
  have hA := ha cpos pins s1 σ H1 _ I1 q1
  rw [hs] at hA ⊢
  refine Calls.callWith_builtin (by show (false || (backTo cpos (starEach es X.env)).any (·.1)) = false; rw [hplain] <;> rfl) (Calls.evalArgs_plain ?_)
  refine thn hA fun us s2 zr4195 => ?_
  obtain ⟨vs, H2, I2, rr, q2⟩ := zr4195
  exact hm pins s2 σ H2 (.str p) vs v us Q I2 r1 rr ⟨p, rfl, q2⟩
theorem strsAre_of {ns : List Str} : ∀ {us : List Value}, Vals (ns.map V.str) us → StrsAre us ns := by
  induction ns with
  | nil => intro us h; cases h; exact .nil
  | cons n ns ih =>
    intro us h
    cases h with
    | cons r1 r2 =>
      obtain ⟨t, rfl⟩ := r1
      exact .cons _ _ (ih r2)
noncomputable def rmJoin : RMS := fun z vs H Q => ∃ p, vs = [.ref p] ∧ ∃ ys : List Str, H p = some (.lst (ys.map V.str)) ∧ (ys.map (·.length)).sum + ys.length * z.length ≤ 16777216 ∧ Q (.str (Txt.join z ys)) H
theorem ms_join : MtS X "str.join" rmJoin := by
  intro pins s σ H x vs v us Q I rx rv h
  obtain ⟨z, rfl, p, rfl, ys, hp, hok, q⟩ := h
  obtain ⟨t, rfl⟩ := rx
  obtain ⟨u, rfl, ru⟩ := vals1 rv
  cases ru
  obtain ⟨its, r, pl, hz⟩ := I.list (SqL.of hp)
  exact join_list pl.isList (ys := ys) (by simpa using strsAre_of r) hok fun t' k => ⟨.str _, H, I.tok k, ⟨t', rfl⟩, q⟩
noncomputable def rmIndex : RMS := fun z vs H Q => ∃ y, vs = [.str y] ∧ ∃ i rest, Builtin.Str.occurrences z y 0 z.length 1 = i :: rest ∧ Q (.int (i : Nat)) H
theorem ms_index : MtS X "str.index" rmIndex := by
  intro pins s σ H x vs v us Q I rx rv h
  obtain ⟨z, rfl, y, rfl, i, rest, ho, q⟩ := h
  obtain ⟨t, rfl⟩ := rx
  obtain ⟨u, rfl, ru⟩ := vals1 rv
  obtain ⟨t', rfl⟩ := ru
  exact SC.index ho ⟨.int i, H, I.tok _, ⟨_, rfl⟩, q⟩
end
end L2
namespace L2
open PySem PySem.Spec PyProof.Rows
theorem str_ext {a b : Str} (h : a.cps.toList = b.cps.toList) : a = b := by
  cases a; cases b; congr 1; exact Array.ext' h
theorem append_cps (a b : Str) : (a ++ b).cps.toList = a.cps.toList ++ b.cps.toList := by
  show (a.cps ++ b.cps).toList = _
  simp
theorem filterMap_range' (l : List Nat) (s : Nat) : ∀ n, s + n ≤ l.length → ((List.range n).map fun k => s + k).filterMap (fun i => l[i]?) = (l.drop s).take n
  | 0, _ => by simp
  | n + 1, h => by
    rw [List.range_succ, List.map_append, List.filterMap_append, filterMap_range' l s n (by omega), List.take_add_one]
    have e : l[s + n]? = some (l[s + n]'(by omega)) := by simp
    simp [e, List.getElem?_drop]
theorem sl_idx (lo hi : Option Int) (n : Nat) : Builtin.Str.strSliceIndices lo hi 1 n = (List.range (HT.sIx n n hi - HT.sIx n 0 lo)).map fun k => HT.sIx n 0 lo + k := by
  have clip : ∀ (v : Int) (d : Nat), (if (1 : Int) > 0 then max 0 (min (if v < 0 then v + (n : Int) else v) (n : Int)) else max (-1) (min (if v < 0 then v + (n : Int) else v) ((n : Int) - 1))) = ((HT.sIx n d (some v) : Nat) : Int) := fun v d => by
    rw [if_pos (by decide)]
    show max 0 (min (if v < 0 then v + (n : Int) else v) (n : Int)) = (((if v < 0 then (v + (n : Int)).toNat else min v.toNat n) : Nat) : Int)
    split <;> rw [Int.max_def, Int.min_def] <;> split <;> split <;> omega
  have base : ∀ (a b : Nat), sliceRange (a : Int) (b : Int) 1 = (List.range (b - a)).map fun k => a + k := fun a b => by
    unfold sliceRange
    simp only [show (1 : Int) > 0 by decide, if_true, Int.one_mul]
    have e : (if (a : Int) < (b : Int) then ((b : Int) - (a : Int) + 1 - 1) / 1 else 0).toNat = b - a := by
      split
      · rw [Int.ediv_one]; omega
      · show (0 : Int).toNat = b - a
        rw [Int.toNat_zero]; omega
    rw [e]
    refine List.map_congr_left fun k _ => ?_
    omega
  unfold Builtin.Str.strSliceIndices
  cases lo with
  | none => cases hi with
    | none => exact base 0 n
    | some v => simp only []; rw [clip v n]; exact base 0 _
  | some u => cases hi with
    | none => simp only []; rw [clip u 0]; exact base _ n
    | some v => simp only []; rw [clip u 0, clip v n]; exact base _ _
theorem slice_cps (x : Str) (lo hi : Option Int) : (Txt.slice x lo hi).cps.toList = (x.cps.toList.drop (HT.sIx x.length 0 lo)).take (HT.sIx x.length x.length hi - HT.sIx x.length 0 lo) := by
  have h1 := HT.sIx_le x.length x.length (Nat.le_refl _) hi
  have h0 := HT.sIx_le x.length 0 (Nat.zero_le _) lo
  have hl : x.cps.toList.length = x.length := by show x.cps.toList.length = x.cps.size; simp
  unfold Txt.slice
  rw [sl_idx]
  split
  · rename_i h
    simp only [beq_self_eq_true, Bool.true_and, List.length_map, List.length_range, beq_iff_eq] at h
    have e0 : HT.sIx x.length 0 lo = 0 := by omega
    rw [h, e0, List.drop_zero, ← hl, List.take_length]
  · show ((List.map _ _).filterMap (fun i => x.cps[i]?)).toArray.toList = _
    rw [List.toList_toArray]
    rw [← filterMap_range' _ _ _ (by omega)]
    refine congrArg (fun f => List.filterMap f _) (funext fun i => ?_)
    simp
theorem join_cps (ys : List Str) : (Txt.join (Str.ofString "") ys).cps.toList = ys.flatMap fun y => y.cps.toList := by
  have key : ∀ (l : List Str) (acc : Array Nat), (l.foldl (fun acc p => acc ++ (Str.ofString "").cps ++ p.cps) acc).toList = acc.toList ++ l.flatMap fun y => y.cps.toList := by
    intro l
    induction l with
    | nil => intro acc; simp
    | cons a l ih =>
      intro acc
      rw [List.foldl_cons, ih]
      have e : (Str.ofString "").cps = #[] := by decide +kernel
      simp [e]
  show ((ys.drop 1).foldl _ (ys.headD Str.empty).cps).toList = _
  rw [key]
  cases ys with
  | nil => simp; decide +kernel
  | cons a l => simp
structure IsNm (w : Str) : Prop where
  pos : 1 ≤ w.length
  le : w.length ≤ 8
  small : ∀ c ∈ w.cps.toList, smallB c = true
theorem len_cps (x : Str) : x.cps.toList.length = x.length := by show x.cps.toList.length = x.cps.size; simp
theorem IsNm.cons {w : Str} (h : IsNm w) : ∃ c cs, w.cps.toList = c :: cs ∧ smallB c = true ∧ (∀ x ∈ cs, smallB x = true) ∧ cs.length ≤ 7 := by
  have hl := len_cps w
  cases e : w.cps.toList with
  | nil => rw [e] at hl; have := h.pos; simp at hl; omega
  | cons c cs =>
    rw [e] at hl
    have := h.le
    exact ⟨c, cs, rfl, h.small c (by rw [e]; simp), fun x hx => h.small x (by rw [e]; simp [hx]), by simp at hl; omega⟩
theorem IsNm.of {w : Str} {c : Nat} {cs : List Nat} (e : w.cps.toList = c :: cs) (hc : smallB c = true) (hcs : ∀ x ∈ cs, smallB x = true) (hl : cs.length ≤ 7) : IsNm w := by
  have h := len_cps w
  rw [e] at h
  simp at h
  refine ⟨by omega, by omega, fun x hx => ?_⟩
  rw [e] at hx
  rcases List.mem_cons.mp hx with rfl | q
  · exact hc
  · exact hcs x q
theorem letters_at {r : Int} (h0 : 0 ≤ r) (h1 : r < 26) : atI (Str.ofString "abcdefghijklmnopqrstuvwxyz").cps.toList r = some (97 + r.toNat) := by
  obtain ⟨n, rfl⟩ := Int.eq_ofNat_of_zero_le h0
  rw [show (Str.ofString "abcdefghijklmnopqrstuvwxyz").cps.toList = List.range' 97 26 by decide +kernel]
  refine atI_nat ?_
  rw [List.getElem?_range' (by omega)]
  simp
theorem letters_len : (Str.ofString "abcdefghijklmnopqrstuvwxyz").length ≤ sizeLine := by decide +kernel
theorem letters_index {c : Nat} (h : smallB c = true) : Builtin.Str.occurrences (Str.ofString "abcdefghijklmnopqrstuvwxyz") ⟨#[c]⟩ 0 (Str.ofString "abcdefghijklmnopqrstuvwxyz").length 1 = (c - 97) :: [] := by
  have key : ∀ i : Fin 26, Builtin.Str.occurrences (Str.ofString "abcdefghijklmnopqrstuvwxyz") ⟨#[97 + i.1]⟩ 0 (Str.ofString "abcdefghijklmnopqrstuvwxyz").length 1 = [i.1] := by decide +kernel
  simp only [smallB, Bool.and_eq_true, decide_eq_true_eq] at h
  have := key ⟨c - 97, by omega⟩
  simp only [show 97 + (c - 97) = c by omega] at this
  exact this
noncomputable def nxtC (c : Nat) : Nat := 97 + (c - 97 + 1) % 26
noncomputable def nxtL : List Nat → List Nat
  | [] => []
  | c :: cs => nxtC c :: cs
noncomputable def nxtW (w : Str) : Str := ⟨(nxtL w.cps.toList).toArray⟩
noncomputable def nxtN : Nat → Str → Str
  | 0, w => w
  | n + 1, w => nxtN n (nxtW w)
theorem small_nxtC (c : Nat) : smallB (nxtC c) = true := by
  have := Nat.mod_lt (c - 97 + 1) (show 0 < 26 by decide)
  unfold smallB nxtC
  rw [Bool.and_eq_true, decide_eq_true_eq, decide_eq_true_eq]
  exact ⟨by omega, by omega⟩
theorem nxtW_nm {w : Str} (h : IsNm w) : IsNm (nxtW w) := by
  obtain ⟨c, cs, e, hc, hcs, hl⟩ := h.cons
  exact .of (c := nxtC c) (cs := cs) (by simp [nxtW, e, nxtL]) (small_nxtC c) hcs hl
theorem nxtN_cps {c : Nat} {cs : List Nat} : ∀ (n : Nat) {w : Str}, w.cps.toList = c :: cs → smallB c = true → (nxtN n w).cps.toList = (97 + (c - 97 + n) % 26) :: cs := by
  intro n
  induction n generalizing c with
  | zero =>
    intro w e hc
    simp only [smallB, Bool.and_eq_true, decide_eq_true_eq] at hc
    rw [nxtN, e]
    congr 1
    omega
  | succ n ih =>
    intro w e hc
    rw [nxtN, ih (c := nxtC c) (by simp [nxtW, e, nxtL]) (small_nxtC c)]
    congr 1
    simp only [nxtC]
    omega
theorem nodup_le {α : Type} [BEq α] [LawfulBEq α] : ∀ {xs ys : List α}, xs.Nodup → (∀ x ∈ xs, x ∈ ys) → xs.length ≤ ys.length
  | [], _, _, _ => by simp
  | x :: xs, ys, hn, h => by
    have hn' := List.nodup_cons.mp hn
    have hx := h x (by simp)
    have := nodup_le (xs := xs) (ys := ys.erase x) hn'.2 fun z hz => by
      have hne : z ≠ x := fun e => hn'.1 (e ▸ hz)
      exact (List.mem_erase_of_ne hne).mpr (h z (by simp [hz]))
    rw [List.length_erase_of_mem hx] at this
    have := List.length_pos_of_mem hx
    simp
    omega
theorem free_word {w : Str} (h : IsNm w) {F : List Str} (hF : F.length < 26) : ∃ n, nxtN n w ∉ F := by
  obtain ⟨c, cs, e, hc, hcs, hl⟩ := h.cons
  have hinj : ∀ i j, i < 26 → j < 26 → nxtN i w = nxtN j w → i = j := fun i j hi hj q => by
    have q2 := congrArg (fun z : Str => z.cps.toList) q
    simp only [nxtN_cps _ e hc] at q2
    have q3 := (List.cons.inj q2).1
    omega
  refine Classical.byContradiction fun hno => ?_
  have hall : ∀ n, nxtN n w ∈ F := fun n => Classical.byContradiction fun q => hno ⟨n, q⟩
  have hnd : ((List.range 26).map fun n => nxtN n w).Nodup := by
    refine List.pairwise_map.mpr (List.Pairwise.imp_of_mem (fun {i j} hi hj q e => q (hinj i j (List.mem_range.mp hi) (List.mem_range.mp hj) e)) (List.nodup_range (n := 26)))
  have := nodup_le (ys := F) hnd fun x hx => by
    obtain ⟨n, _, rfl⟩ := List.mem_map.mp hx
    exact hall n
  simp at this
  omega
theorem eqV_str (a b : Str) : eqV (.str a) (.str b) = decide (a = b) := by
  show (a == b) = decide (a = b)
  rw [Bool.eq_iff_iff]
  simp
theorem inV_strs (x : Str) (ys : List Str) : inV (.str x) (ys.map V.str) = decide (x ∈ ys) := by
  rw [Bool.eq_iff_iff]
  simp only [inV, List.any_map, List.any_eq_true, Function.comp, eqV_str, decide_eq_true_eq]
  constructor
  · rintro ⟨y, hy, rfl⟩; exact hy
  · exact fun h => ⟨x, h, rfl⟩
theorem flat_strs (ys : List Str) : (ys.map V.str).all flatV = true := by
  rw [List.all_eq_true]
  intro x hx
  obtain ⟨y, _, rfl⟩ := List.mem_map.mp hx
  rfl
noncomputable def marks4 : List Str := ["in", "from", "to", "end"]
structure NamesOk (ws : List Str) : Prop where
  nm : ∀ w ∈ ws, IsNm w
  nd : ws.Nodup
  nomark : ∀ w ∈ ws, w ∉ marks4
theorem NamesOk.nil : NamesOk [] := ⟨by simp, by simp, by simp⟩
theorem NamesOk.snoc {ws : List Str} {w : Str} (h : NamesOk ws) (hw : IsNm w) (hn : w ∉ ws) (hm : w ∉ marks4) : NamesOk (ws ++ [w]) := by
  refine ⟨fun x hx => ?_, ?_, fun x hx => ?_⟩
  · rcases List.mem_append.mp hx with q | q
    · exact h.nm x q
    · rw [List.mem_singleton.mp q]; exact hw
  · rw [List.nodup_append]
    refine ⟨h.nd, by simp, fun a ha b hb => ?_⟩
    rw [List.mem_singleton.mp hb]
    rintro rfl
    exact hn ha
  · rcases List.mem_append.mp hx with q | q
    · exact h.nomark x q
    · rw [List.mem_singleton.mp q]; exact hm
theorem atI_zero {α : Type} (x : α) (xs : List α) : atI (x :: xs) 0 = some x := atI_nat (j := 0) rfl
theorem edit_nm {z : Str} {r : Int} {c : Nat} (hz : IsNm z) (hc : smallB c = true) (r0 : 0 ≤ r) (r1 : r < z.length) : IsNm (Txt.slice z none (some r) ++ (Str.mk #[c]) ++ Txt.slice z (some (r + 1)) none) := by
  obtain ⟨n, rfl⟩ := Int.eq_ofNat_of_zero_le r0
  have hn : n < z.length := by omega
  have hl := len_cps z
  have e : (Txt.slice z none (some (n : Int)) ++ (Str.mk #[c]) ++ Txt.slice z (some ((n : Int) + 1)) none).cps.toList = z.cps.toList.take n ++ [c] ++ z.cps.toList.drop (n + 1) := by
    rw [append_cps, append_cps, slice_cps, slice_cps, HT.sIx_none, HT.sIx_nat, HT.sIx_none, show ((n : Int) + 1) = ((n + 1 : Nat) : Int) by omega, HT.sIx_nat, Nat.min_eq_left (by omega), Nat.min_eq_left (by omega)]
    rw [List.drop_zero, Nat.sub_zero, List.take_of_length_le (i := z.length - (n + 1)) (by rw [List.length_drop, hl]; omega)]
  have h8 := hz.le
  have hlen : (Txt.slice z none (some (n : Int)) ++ (Str.mk #[c]) ++ Txt.slice z (some ((n : Int) + 1)) none).length = z.length := by
    rw [← len_cps, e]
    simp only [List.length_append, List.length_take, List.length_drop, List.length_cons, List.length_nil, hl]
    omega
  refine ⟨by omega, by omega, fun x hx => ?_⟩
  rw [e] at hx
  rcases List.mem_append.mp hx with q | q
  · rcases List.mem_append.mp q with q | q
    · exact hz.small x (List.mem_of_mem_take q)
    · rw [List.mem_singleton.mp q]; exact hc
  · exact hz.small x (List.mem_of_mem_drop q)
theorem join_signs (cs : List Nat) : (Txt.join (Str.ofString "") (cs.map fun c => Str.mk #[c])).cps.toList = cs := by
  rw [join_cps]
  induction cs with
  | nil => rfl
  | cons c cs ih => simp [ih]
theorem sum_ones (cs : List Nat) : ((cs.map fun c => Str.mk #[c]).map fun x => x.length).sum = cs.length := by
  induction cs with
  | nil => rfl
  | cons c cs ih =>
    rw [List.map_cons, List.map_cons, List.sum_cons, ih]
    show 1 + cs.length = cs.length + 1
    omega
end L2
namespace L2
open PySem PySem.Spec PyProof.Rows
theorem cut_map {α : Type} (f : α → V) (xs : List α) (n : Nat) : cutV (xs.map f) none (some (n : Int)) = (xs.take n).map f := by
  unfold cutV
  rw [HT.sIx_none, HT.sIx_nat, List.drop_zero, Nat.sub_zero, List.length_map, List.map_take]
  by_cases h : n ≤ xs.length
  · rw [Nat.min_eq_left h]
  · rw [Nat.min_eq_right (by omega), List.take_of_length_le (by simp), List.take_of_length_le (by simp; omega)]
theorem atI0 {α : Type} (x : α) (xs : List α) : atI (x :: xs) 0 = some x := atI_nat (j := 0) rfl
theorem atI1 {α : Type} (x y : α) (xs : List α) : atI (x :: y :: xs) 1 = some y := atI_nat (j := 1) rfl
theorem atI2 {α : Type} (x y z : α) (xs : List α) : atI (x :: y :: z :: xs) 2 = some z := atI_nat (j := 2) rfl
theorem atI3 {α : Type} (x y z a : α) (xs : List α) : atI (x :: y :: z :: a :: xs) 3 = some a := atI_nat (j := 3) rfl
theorem atI4 {α : Type} (x y z a b : α) (xs : List α) : atI (x :: y :: z :: a :: b :: xs) 4 = some b := atI_nat (j := 4) rfl
theorem ofS_inj {a b : String} : (Str.ofString a = Str.ofString b) = (a = b) := by
  refine propext ⟨fun h => ?_, fun h => by rw [h]⟩
  rw [Str.ofString_eq_toList, Str.ofString_eq_toList] at h
  have h1 := congrArg (fun s : Str => s.cps.toList) h
  simp only [List.toList_toArray] at h1
  have key : ∀ (l1 l2 : List Char), l1.map Char.toNat = l2.map Char.toNat → l1 = l2 := by
    intro l1
    induction l1 with
    | nil => intro l2 h; cases l2 with
      | nil => rfl
      | cons a b => cases h
    | cons a b ih => intro l2 h; cases l2 with
      | nil => cases h
      | cons c d =>
        rw [List.map_cons, List.map_cons, List.cons.injEq] at h
        rw [ih d h.2, Char.toNat_inj.mp h.1]
  exact String.toList_injective (key _ _ h1)
section
variable {X : Cx} {pos : Pos}
theorem PG.imp {tg : Expr} {g g' : TG} (h : PG X tg g) (i : ∀ v σ H Q, g' v σ H Q → g v σ H Q) : PG X tg g' := fun pins s σ H v u Q I r q => h pins s σ H v u Q I r (i _ _ _ _ q)
noncomputable def gTupT (n : Nat) (t : TGs) : TG := fun v σ H Q => ∃ a, v = .ref a ∧ ∃ xs, H a = some (.tup xs) ∧ xs.length = n ∧ t xs σ H Q
theorem pg_tupT {es : List Expr} {k : Nat} {t : TGs} {n : Nat} (hc : X.calm = true) (h : PGs X es t)
    (hn : (assignEach es X.env).length = n := by rfl) (hst : (assignEach es X.env).findIdx? (·.1) = none := by rfl) : PG X (.Tuple es k pos) (gTupT n t) :=
  (pg_tup hc h hn hst).imp fun _ _ _ _ zq23 => by obtain ⟨a, e, xs, h, hl, q⟩ := zq23; exact (⟨a, xs, e, .of h, hl, q⟩)
end
end L2
namespace L2
open PySem PySem.Spec PyProof.Rows
section
variable {X : Cx}
noncomputable def rDictD : List V → Hp → VK → Prop := fun xs H Q => ∃ p, xs = [.ref p] ∧ ∃ kvs, H p = some (.dK kvs) ∧ ∀ q, H q = none → Q (.ref q) (upd H q (.dK kvs))
theorem call_dictD : CallR X (.type "dict") rDictD := by
  intro pins s σ H xs us Q I r h
  obtain ⟨p, rfl, kvs, hp, q⟩ := h
  obtain ⟨u, rfl, ru⟩ := vals1 r
  cases ru
  obtain ⟨z, hd, vs, rel, dd⟩ := dk_of I.hok hp
  refine PySem.kt_call_dict hd dd (by rw [← rel.length]; exact z) fun h' dd' sb => ?_
  have hold : ∀ b o, s.heap.get? b = some o → h'.get? b = some o := fun b o e => sb.extBut b o (Nat.ne_of_lt (Heap.lt_size e)) (Heap.get?_push_of_some _ e)
  exact ⟨.ref s.heap.objs.size, _, I.laid (a := s.heap.objs.size) (o := .dK kvs) (t' := s.toks) hold (Nat.le_refl _) ⟨z, beq_eq_false_iff_ne.mpr (Ne.symm (Nat.ne_of_lt I.big)), vs, rel, dd'⟩, rfl, q _ (I.hok.fresh (Nat.le_refl _))⟩
noncomputable def plainV : V → Bool
  | .non => true
  | .bl _ => true
  | .int _ => true
  | .str _ => true
  | .ref _ => true
  | _ => false
theorem valV_mem {κ : Type} [DecidableEq κ] : ∀ {kvs : List (κ × V)} {k : κ} {v : V}, (kvs.map (·.1)).Nodup → (k, v) ∈ kvs → valV kvs k = some v
  | (a, b) :: r, k, v, hn, hm => by
    rw [List.map_cons, List.nodup_cons] at hn
    rcases List.mem_cons.mp hm with e | e
    · cases e
      exact valV_pos rfl
    · have hne : ¬ a = k := fun z => hn.1 (by subst z; exact List.mem_map.mpr ⟨(a, v), e, rfl⟩)
      rw [valV_neg hne]
      exact valV_mem hn.2 e
end
end L2
namespace L2
open PySem PySem.Spec PyProof.Rows
noncomputable def clsAt (mg : Str → Option Value) (x : Str) : Addr := match mg x with | some (.ref a) => a | _ => 0
theorem clsAt_of {mg : Str → Option Value} {x : Str} {C : Addr} (h : mg x = some (.ref C)) : clsAt mg x = C := by unfold clsAt; rw [h]
structure ClsM (K : PySem.W.Frag) (C : Addr) (m : Str) (f : Addr) : Prop where
  sp : PySem.W.specialIn K (.ref C) "__getattribute__" = some (some (.builtin "type.__getattribute__"))
  rd : PySem.W.readsIn K C (.type "type") = true
  fd : PySem.W.findCls K (.ref C) (.type "type") m = some (.val (.ref f))
  kp : PySem.W.keepIn K (.ref f) = true
noncomputable def MtdL (K : PySem.W.Frag) (R : Addr → Prop) (x q : Str) (st : Stmt) (ps : List Str) : Prop := ∃ f fd, Fun K x q st f fd ∧ R f ∧ Binds K fd ps []
noncomputable def FnR (P : Program) (w : World) (K : PySem.W.Frag) (mg : Str → Option Value) (base : Heap) (R : Addr → Prop) (k : Nat) (ps : List Str) (sp : Sp) : Prop := ∃ f fd, FnOk P w K mg base CX0 k f fd ps sp ∧ R f ∧ Binds K fd ps []
section
variable {P : Program} {w : World} {K : PySem.W.Frag} {mg : Str → Option Value} {base : Heap} {R : Addr → Prop}
theorem MtdL.ok {x q : Str} {st : Stmt} {N ps : List Str} {k : Nat} {sp : Sp} (F : MtdL K R x q st ps) (S : FnScope N ps (defScope st)) (len : ∀ vs H Q E, sp vs H Q E → vs.length = ps.length)
    (hbody : ∀ (f : Addr) (cdv : Value) (A : Around) (outer : List Env) (s : Shared) (H : Hp) (vs : List V) (Q : VK) (E : XK), Room k (A.deeper (envOfC q (defScope st) s.heap.objs.size f cdv)) → sp vs H Q E →
      ∃ t, PSs (cxOf CX0 P w K mg base N q (defScope st) f cdv A outer s H E).nox (defBody st) t ∧ t { nx := fun _ H' => Q .non H', rt := Q } (start N vs) H) : FnR P w K mg base R (k + 1) ps sp := by
  obtain ⟨f, fd, F, r, b⟩ := F
  exact ⟨f, fd, F.ok S len (hbody f), r, b⟩
theorem mtdL_mk {x q : Str} {st : Stmt} {ps : List Str} {f : Addr} {oc : Value} {od an : Option Addr} {osl : Array (Option Value)} {kV doc pm cdv ct : Value} (r : R f)
    (l : K.lookup f = some ⟨oc, od, .func (PySem.W.fnOf x q (defArgs st) (defBody st) (defScope st) .none kV doc pm an cdv ct), osl⟩)
    (c : PySem.W.codeIn K cdv q = true) (k : PySem.W.keepIn K (.ref f) = true)
    (hb : ∀ (kV doc pm : Value) (an : Option Addr) (cdv ct : Value) (us : List Value), us.length = ps.length → bindArgs (PySem.W.fnOf x q (defArgs st) (defBody st) (defScope st) .none kV doc pm an cdv ct) ⟨us, []⟩ = pure (ps.zip us)) : MtdL K R x q st ps :=
  ⟨f, _, fun_mk l c k, r, (fun_mk l c k).binds hb⟩
end
noncomputable def tFldC (C : Addr) (ta : TE) (f : Str) : TE := fun σ H Q => ta σ H fun x H1 => ∃ a, x = .ref a ∧ ∃ dx fs, H1 a = some (.ins C dx fs) ∧ ∃ v, fs.lookup f = some v ∧ Q v H1
noncomputable def sFldC (C : Addr) (ta tv : TE) (f : Str) : TS := fun D σ H => tv σ H fun y H1 => ta σ H1 fun x H2 => ∃ a, x = .ref a ∧ ∃ dx fs, H2 a = some (.ins C dx fs) ∧ fs.length < 1000 ∧ D.nx σ (upd H2 a (.ins C dx (putF f y fs)))
noncomputable def tMethC (C : Addr) (m : Str) (sp : Sp) (ta : TE) (t : TA) : TE := fun σ H Q => ta σ H fun x H1 => ∃ a, x = .ref a ∧ ∃ dx fs, H1 a = some (.ins C dx fs) ∧ fs.lookup m = none ∧ t σ H1 fun vs H2 => sp (.ref a :: vs) H2 Q E0
noncomputable def tMakeC (C : Addr) (sp : Sp) (t : TA) : TE := fun σ H Q => t σ H fun vs H1 => ∀ x dx, H1 x = none → H1 dx = none → dx ≠ x → sp (.ref x :: vs) (upd (upd H1 dx (.own x)) x (.ins C dx [])) (fun v H2 => v = .non ∧ Q (.ref x) H2) E0
section
variable {X : Cx} {o e value : Expr} {es : List Expr} {f m x : Str} {p pos pos' apos : Pos} {ta tv : TE} {t : TA} {C : Addr} {k : Nat} {ps : List Str} {sp : Sp}
theorem pe_fldC (c : Cls X.K C) (n : NoAttr X.K C f) (he : PE X e ta) (hb : attributeBase e f X.env (eval e X.env) = eval e X.env := by rfl) : PE X (.Attribute e f pos) (tFldC C ta f) := by
  intro pins s σ H Q I h
  refine attr_of hb (thn (he pins s σ H _ I h) fun u s1 zr4557 => ?_)
  obtain ⟨x, H1, I1, rx, a, ex, dx, fs, ea, v, l, q⟩ := zr4557
  subst ex
  obtain rfl : u = Value.ref a := rx
  exact getattr_ok I1 ea c n l fun u' s2 I2 ru => ⟨v, H1, I2, ru, q⟩
theorem ps_fldC (c : Cls X.K C) (n : NoAttr X.K C f) (ha : PE X o ta) (hv : PE X value tv) (hs : swapsWith value (some (.Attribute o f pos')) pos.line X.env = pure false) : PS X (.Assign [.Attribute o f pos'] value pos) (sFldC C ta tv f) := by
  intro pins s σ H D I h
  refine plainObj_wpAny_Assign_Attribute (thn (hv pins s σ H _ I h) fun u s1 ⟨y, H1, I1, ry, q⟩ => thn (ha pins s1 σ H1 _ I1 q) fun ov s2 zr4563 => ?_) hs
  obtain ⟨x, H2, I2, rx, a, ex, dx, fs, ea, l, q2⟩ := zr4563
  subst ex
  obtain rfl : ov = Value.ref a := rx
  exact setattr_ok I2 ea c n l ry fun s3 I3 => ⟨σ, _, I3, q2⟩
theorem pe_methF {pl : Sem Bool} (c : Cls X.K C) (F : FnR X.prog X.w X.K X.mg X.base (Meth X.K C m) k ps sp) (hr : Room k X.A) (he : PE X o ta) (ha : PA X (e :: es) t)
    (hst : starEach (e :: es) X.env = (false, eval e X.env) :: starEach es X.env := by rfl) (hpl : (backTo pos (starEach es X.env)).any (·.1) = false := by rfl)
    (ht : eval (.Call (.Attribute o m apos) (e :: es) [] pos) X.env = (do
      let ov ← eval o X.env
      standAt apos.atName
      let (f, first) ← holding [ov] (getMethod ov m pl)
      callWith pos f first (backTo pos (starEach (e :: es) X.env)) (backToKw pos (keywordEach [] X.env))) := by rfl) :
    PE X (.Call (.Attribute o m apos) (e :: es) [] pos) (tMethC C m sp ta t) := by
  obtain ⟨f, fd, F, hm, b⟩ := F
  intro pins s σ H Q I h
  refine PySem.W.methodCall_KW (pl := pl) (thn (he pins s σ H _ I h) fun u s1 zr4577 => ?_) ht
  obtain ⟨x, H1, I1, rx, a, ex, dx, fs, ea, l, q⟩ := zr4577
  subst ex
  obtain rfl : u = Value.ref a := rx
  refine getmeth_ok I1 ea c hm l ?_
  refine PySem.W.callWith_K (first := [.ref a]) (h₀ := X.base) I.ok.mod.kin hm.kp (thn (ha pos pins s1 σ H1 _ I1 q) fun us s2 ⟨vs, H2, I2, r, q2⟩ => ⟨I2.kIn, ?_⟩) hst hpl
  exact run_fn (us := .ref a :: us) (vs := .ref a :: vs) F hr b .nil pass0 I2 (.cons rfl r) (by rw [List.append_nil]; exact q2)
theorem pe_makeF (F : FnR X.prog X.w X.K X.mg X.base (Mk X.K C) k ps sp) (hr : Room (k + 1) X.A) (hg : Gl X x) (hm : X.mg x = some (.ref C))
    (ha : PA X (e :: es) t) (hdb : (x == ("__debug__" : Str)) = false := by decide) (he : starEach (e :: es) X.env = (false, eval e X.env) :: starEach es X.env := by rfl) (hpl : (backTo pos (starEach es X.env)).any (·.1) = false := by rfl) :
    PE X (.Call (.Name x p) (e :: es) [] pos) (tMakeC C sp t) := by
  obtain ⟨f, fd, F, M, b⟩ := F
  intro pins s σ H Q I h
  refine wpAny_Call_Name_kw (ld_glob I hg hm ?_ hdb)
  refine PySem.W.callWith_K (h₀ := X.base) I.ok.mod.kin M.kp (thn (ha pos pins s σ H _ I h) fun us s1 ⟨vs, H1, I1, r, q⟩ => ⟨I1.kIn, ?_⟩) he hpl
  refine run_make M F hr b .nil pass0 I1 r ?_
  rw [List.append_nil]
  exact q
theorem pe_clsF {pl : Sem Bool} (F : FnR X.prog X.w X.K X.mg X.base (ClsM X.K C m) k ps sp) (hr : Room k X.A) (hg : Gl X x) (hm : X.mg x = some (.ref C)) (ha : PA X (e :: es) t) (hdb : (x == ("__debug__" : Str)) = false := by decide)
    (hst : starEach (e :: es) X.env = (false, eval e X.env) :: starEach es X.env := by rfl) (hpl : (backTo pos (starEach es X.env)).any (·.1) = false := by rfl)
    (ht : eval (.Call (.Attribute (.Name x p) m apos) (e :: es) [] pos) X.env = (do
      let ov ← eval (.Name x p) X.env
      standAt apos.atName
      let (f, first) ← holding [ov] (getMethod ov m pl)
      callWith pos f first (backTo pos (starEach (e :: es) X.env)) (backToKw pos (keywordEach [] X.env))) := by rfl) :
    PE X (.Call (.Attribute (.Name x p) m apos) (e :: es) [] pos) (tCall sp [] E0 t) := by
  obtain ⟨f, fd, F, M, b⟩ := F
  intro pins s σ H Q I h
  have hC : PE X (.Name x p) (tC (.ref C)) := pe_glob hg hm rfl hdb
  refine PySem.W.methodCall_KW (pl := pl) (thn (hC pins s σ H (fun v H1 => v = .ref C ∧ H1 = H) I ⟨rfl, rfl⟩) fun u s1 zr4604 => ?_) ht
  obtain ⟨x, H1, I1, rx, ex, eH⟩ := zr4604
  subst ex
  subst eH
  obtain rfl : u = Value.ref C := rx
  refine PySem.W.method_cls I1.kIn M.sp (PySem.W.cls_value I1.kIn M.rd M.fd rfl ?_)
  have I2 := I1.tok (s1.toks + 1)
  refine PySem.W.callWith_K (first := []) (h₀ := X.base) I.ok.mod.kin M.kp (thn (ha pos pins _ σ H1 _ I2 h) fun us s2 ⟨vs, H2, I3, r, q2⟩ => ⟨I3.kIn, ?_⟩) hst hpl
  exact run_fn F hr b .nil pass0 I3 r q2
end
noncomputable def relN (kd : ScopeKind) (A xs : List (Str × NameKind)) : List (Str × NameKind) := xs.map fun (n, k) => if (k == .free && kd == .function && A.lookup n == some .cell) then (n, .cell) else (n, k)
section
variable {X : Cx} {l tg : Expr} {tl : TE} {K : PySem.W.Frag}
theorem pi_LK (hK : X.K = K) (hl : PE X l tl) : PI X tg l (iL K tl) := by subst hK; exact pi_L hl
theorem pi_TK (hK : X.K = K) (hl : PE X l tl) : PI X tg l (iT K tl) := by subst hK; exact pi_T hl
noncomputable def rAllL : List V → Hp → VK → Prop := fun xs H Q => ∃ p, xs = [.ref p] ∧ ∃ bs : List Bool, H p = some (.lst (bs.map V.bl)) ∧ Q (.bl (bs.all id)) H
noncomputable def rAnyL : List V → Hp → VK → Prop := fun xs H Q => ∃ p, xs = [.ref p] ∧ ∃ bs : List Bool, H p = some (.lst (bs.map V.bl)) ∧ Q (.bl (bs.any id)) H
theorem call_allL (hc : X.calm = true) : CallR X (.builtin "all") rAllL := (call_all_l hc).imp fun _ _ _ zq24 => by obtain ⟨p, e, bs, h, q⟩ := zq24; exact (⟨p, bs, e, .of h, q⟩)
theorem call_anyL (hc : X.calm = true) : CallR X (.builtin "any") rAnyL := (call_any_l hc).imp fun _ _ _ zq25 => by obtain ⟨p, e, bs, h, q⟩ := zq25; exact (⟨p, bs, e, .of h, q⟩)
end
theorem putF_le (f : Str) (v : V) : ∀ fs : List (Str × V), (putF f v fs).length ≤ fs.length + 1
  | [] => Nat.le_refl _
  | (g, u) :: fs => by
    unfold putF
    split
    · simp
    · simpa using putF_le f v fs
theorem comp_filterS {J : It} {xs : List V} {C : Hp → Prop} (w : Wlk J xs C) {tc : TT} {te : TE} {σ0 : St} {Q : VK} {H1 : Hp} {D : Addr} (p : V → Bool) (f : V → V) (hD : H1 D = none) (hC : ∀ H', Same H1 H' → C H') (hn : xs.length ≤ 1000)
    (hc : ∀ (x : V) (H2 : Hp) (Q2 : Bool → Hp → Prop), x ∈ xs → Same H1 H2 → (∀ H3, Same H2 H3 → Q2 (p x) H3) → tc (σ0.set 0 (some x)) H2 Q2)
    (he : ∀ (x : V) (H2 : Hp) (Q2 : VK), x ∈ xs → p x = true → Same H1 H2 → (∀ H3, Same H2 H3 → Q2 (f x) H3) → te (σ0.set 0 (some x)) H2 Q2)
    (hd : ∀ H2, Same H1 H2 → H2 D = some (.lst ((xs.filter p).map f)) → Q (.ref D) H2) : CompG J σ0 (gName 0) tc te Q H1 D := by
  refine comp_g w (fun i ys H => ys = ((xs.take i).filter p).map f ∧ i ≤ xs.length ∧ Same H1 H ∧ H D = some (.lst ys)) ⟨by simp, Nat.zero_le _, Same.upd0 hD, upd_same⟩ (fun i ys H h => hC _ h.2.2.1) ?_ ?_
  · rintro i x ys H hi hx ⟨rfl, hle, sm, hd⟩
    refine hc x H _ (List.mem_of_getElem? hx) sm fun H3 s3 => ?_
    have hlen : ((xs.take i).filter p).length ≤ xs.length := Nat.le_trans (List.length_filter_le _ _) (by simp; omega)
    cases hp : p x with
    | true =>
      simp only [if_true]
      refine he x H3 _ (List.mem_of_getElem? hx) hp (sm.trans s3) fun H4 s4 => ⟨s4 _ _ (s3 _ _ hd), by simp; exact small1000 (by omega), ?_, hi, ?_, upd_same⟩
      · rw [List.take_add_one, hx]; simp [hp]
      · exact fun b o e => by rw [upd_ne (ne_of_none e hD)]; exact s4 _ _ (s3 _ _ (sm b o e))
    | false =>
      simp only [Bool.false_eq_true, if_false]
      exact ⟨by rw [List.take_add_one, hx]; simp [hp], hi, sm.trans s3, s3 _ _ hd⟩
  · rintro ys H ⟨rfl, _, sm, hd'⟩
    rw [List.take_length] at hd'
    exact hd H sm hd'
theorem comp_mapS {J : It} {xs : List V} {C : Hp → Prop} (w : Wlk J xs C) {te : TE} {σ0 : St} {Q : VK} {H1 : Hp} {D : Addr} (f : V → V) (hD : H1 D = none) (hC : ∀ H', Same H1 H' → C H') (hn : xs.length ≤ 10000)
    (he : ∀ (x : V) (H2 : Hp) (Q2 : VK), x ∈ xs → Same H1 H2 → (∀ H3, Same H2 H3 → Q2 (f x) H3) → te (σ0.set 0 (some x)) H2 Q2)
    (hd : ∀ H2, Same H1 H2 → H2 D = some (.lst (xs.map f)) → Q (.ref D) H2) : CompG J σ0 (gName 0) tYes te Q H1 D := by
  refine comp_g w (fun i ys H => ys = (xs.take i).map f ∧ i ≤ xs.length ∧ Same H1 H ∧ H D = some (.lst ys)) ⟨by simp, Nat.zero_le _, Same.upd0 hD, upd_same⟩ (fun i ys H h => hC _ h.2.2.1) ?_ ?_
  · rintro i x ys H hi hx ⟨rfl, hle, sm, hd⟩
    simp only [gName, tYes, if_true]
    refine he x H _ (List.mem_of_getElem? hx) sm fun H4 s4 => ⟨s4 _ _ hd, by simp; exact Nat.lt_of_le_of_lt (Nat.le_trans (Nat.min_le_right _ _) hn) (by decide), ?_, hi, ?_, upd_same⟩
    · rw [List.take_add_one, hx]; simp
    · exact fun b o e => by rw [upd_ne (ne_of_none e hD)]; exact s4 _ _ (sm b o e)
  · rintro ys H ⟨rfl, _, sm, hd'⟩
    rw [List.take_length] at hd'
    exact hd H sm hd'
theorem eqV_int (a b : Int) : eqV (.int a) (.int b) = decide (a = b) := by
  show (a == b) = decide (a = b)
  rw [Bool.eq_iff_iff]
  simp
theorem inV_ints (x : Int) (ys : List Int) : inV (.int x) (ys.map V.int) = decide (x ∈ ys) := by
  rw [Bool.eq_iff_iff]
  simp only [inV, List.any_map, List.any_eq_true, Function.comp, eqV_int, decide_eq_true_eq]
  constructor
  · rintro ⟨y, hy, rfl⟩; exact hy
  · exact fun h => ⟨x, h, rfl⟩
theorem flat_ints (ys : List Int) : (ys.map V.int).all flatV = true := by
  rw [List.all_eq_true]
  intro x hx
  obtain ⟨y, _, rfl⟩ := List.mem_map.mp hx
  rfl
theorem nodup_at {α : Type} : ∀ {l : List α} {i j : Nat} {x : α}, l.Nodup → l[i]? = some x → l[j]? = some x → i = j
  | [], i, j, x, _, h, _ => by simp at h
  | a :: l, 0, 0, x, _, _, _ => rfl
  | a :: l, 0, j + 1, x, hn, h, h' => by
    simp at h h'
    subst h
    exact absurd (List.mem_of_getElem? h') (List.nodup_cons.mp hn).1
  | a :: l, i + 1, 0, x, hn, h, h' => by
    simp at h h'
    subst h'
    exact absurd (List.mem_of_getElem? h) (List.nodup_cons.mp hn).1
  | a :: l, i + 1, j + 1, x, hn, h, h' => by
    simp at h h'
    rw [nodup_at (List.nodup_cons.mp hn).2 h h']
end L2
namespace L2
open PySem PySem.Spec PyProof.Rows
theorem Inv.retag {X : Cx} {pins : List (Addr × Obj)} {σ : St} {H : Hp} {s : Shared} {a : Addr} {u0 o' : HO} (I : Inv X pins σ H s) (ha : H a = some u0) (n1 : ∀ y, u0 ≠ .own y) (n2 : ∀ xs, u0 ≠ .tup xs) (n3 : ∀ ob u, X.H₀ a ≠ some (.frz ob u)) (n4 : ∀ ps, u0 ≠ .tbl ps)
    (ok : ObjOk X.prog X.w H s.heap a o') (n5 : ∀ ob y, u0 ≠ .frz ob (.own y) := by intro _ _ z; cases z) : Inv X pins σ (upd H a o') s := by
  have hne : ∀ b, H b = none → b ≠ a := fun b n z => by subst z; rw [ha] at n; cases n
  have ho : ∀ b y, H b = some (.own y) → upd H a o' b = some (.own y) := fun b y e => by
    rw [upd_ne (fun z => by subst z; rw [ha] at e; exact n1 y (Option.some.inj e))]; exact e
  have ht : ∀ b xs, H b = some (.tup xs) → upd H a o' b = some (.tup xs) := fun b xs e => by
    rw [upd_ne (fun z => by subst z; rw [ha] at e; exact n2 xs (Option.some.inj e))]; exact e
  have hz : ∀ b ob y, H b = some (.frz ob (.own y)) → upd H a o' b = some (.frz ob (.own y)) := fun b ob y e => by
    rw [upd_ne (fun z => by subst z; rw [ha] at e; exact n5 ob y (Option.some.inj e))]; exact e
  refine ⟨I.ok, I.os, I.bare, ⟨I.base.keep, I.base.slot, fun b o q n hx => ?_, I.base.there, fun b xs q => ht b xs (I.base.tups b xs q), fun b ob u q => ?_, fun b ps q => ?_⟩, I.loc, I.cell, ?_, fun x c e => ?_, fun p hp => ?_, fun b u e => ?_, I.len⟩
  · have := I.base.free b o q n hx
    rw [upd_ne (hne b this)]; exact this
  · rw [upd_ne (fun z => by subst z; exact n3 ob u q)]; exact I.base.frzs b ob u q
  · obtain ⟨more, e⟩ := I.base.tbls b ps q
    exact ⟨more, by rw [upd_ne (fun z => by subst z; rw [ha] at e; exact n4 _ (Option.some.inj e))]; exact e⟩
  · rw [upd_ne (hne _ I.free)]; exact I.free
  · have := I.freeC x c e
    rw [upd_ne (hne c this)]; exact this
  · obtain ⟨p1, p2, p3⟩ := I.pin p hp
    exact ⟨p1, by rw [upd_ne (hne _ p2)]; exact p2, p3⟩
  · by_cases hb : b = a
    · subst hb
      rw [upd_same] at e
      cases e
      exact ok.stay (fun _ _ _ q => q) (fun c q => ho c _ q) ht hz
    · rw [upd_ne hb] at e
      exact (I.hok b u e).stay (fun _ _ _ q => q) (fun c q => ho c _ q) ht hz
noncomputable def Itd (a : Addr) (o : Obj) (kvs : List (Key × V)) : It :=
  ⟨fun i H => H a = some (.frz o (.dK kvs)) ∧ i < kvs.length, fun i H x H' => H' = H ∧ ∃ k v, kvs[i]? = some (k, v) ∧ x = kV k, fun i H => H a = some (.frz o (.dK kvs)) ∧ kvs.length ≤ i⟩
theorem KV.get {kvs : List (Key × V)} {vs : List (Key × Value)} (r : KV kvs vs) : ∀ {i : Nat} {k : Key} {v : V}, kvs[i]? = some (k, v) → ∃ u, vs[i]? = some (k, u) ∧ RelV v u := by
  unfold KV at r
  induction r with
  | nil => intro i k v h; simp at h
  | @cons p q ps qs h _ ih =>
    intro i k v e
    cases i with
    | zero =>
      simp at e
      subst e
      obtain ⟨k', u⟩ := q
      obtain ⟨h1, h2⟩ := h
      dsimp only at h1 h2
      subst h1
      exact ⟨u, by simp, h2⟩
    | succ i =>
      simp at e
      obtain ⟨u, h1, h2⟩ := ih e
      exact ⟨u, by simpa using h1, h2⟩
theorem rel_key {P : Program} {w : World} {k : Key} {key : Value} (h : (mixKind P w).is k key = true) : RelV (kV k) key := by
  rcases keyIs_shape (k := k) (v := key) h with ⟨i, t, rfl, rfl⟩ | ⟨x, t, rfl, rfl⟩
  · exact ⟨t, rfl⟩
  · exact ⟨t, rfl⟩
theorem turn_dk {P : Program} {w : World} {K : PySem.W.Frag} {tg : Expr} (a it : Addr) (o : Obj) (kvs : List (Key × V)) (ep : Nat) (hep : ∃ es, o.data = .dict es ep) : Turn P w K tg (Itd a o kvs) [it] it (fun i h => h.IsKeyIter it a i kvs.length ep) where
  mem := by simp
  obj := fun i h st b hb => by
    have e : b = it := by simpa using hb
    subst e
    obtain ⟨ob, e, c, d⟩ := st
    exact ⟨ob, e, fun v z => by rw [d] at z; cases z⟩
  keep := fun i h h' st k => st.at fun ob e => k it (by simp) ob e
  item := by
    intro X hP hw hK hc i pins s σ H E I hf st hg
    subst hP hw hK
    obtain ⟨ha, hi⟩ := hg
    obtain ⟨ho, hz, hd, vs, rel, od, es, ep', hod, hr⟩ := (show s.heap.get? a = some o ∧ ObjOk X.prog X.w H s.heap a (.dK kvs) from I.hok a _ ha)
    rw [ho] at hod
    cases hod
    obtain ⟨es0, he0⟩ := hep
    have eep : ep' = ep := by
      have := hr.2.1
      rw [he0] at this
      cases this
      rfl
    subst eep
    have hlen := rel.length
    obtain ⟨k, v, hkv⟩ : ∃ k v, kvs[i]? = some (k, v) := ⟨kvs[i].1, kvs[i].2, by simp [hi]⟩
    obtain ⟨u, hu, ru⟩ := rel.get hkv
    obtain ⟨f0, f1, f2, f3, f4, f5⟩ := hf it (by simp)
    have st' : s.heap.IsKeyIter it a i vs.length ep' := by rw [← hlen]; exact st
    refine wpAny_pyNext_dict_item (knd := mixKind X.prog X.w) (v := u) st' ⟨o, es, ho, hr⟩ hu fun key h' hk st2 sb => ?_
    have I1 : Inv X pins σ H { s with heap := h' } := I.turned (t' := s.toks) (fun b ob hb e => (sb.2 b hb).trans e) f0 f1 f3 f4 f5
    rw [← hlen] at st2
    obtain ⟨ob, e, c, d⟩ := id st2
    exact ⟨key, rfl, go_of (s := { s with heap := h' }) e c d (by decide) ⟨kV k, H, I1, rel_key hk, ⟨rfl, k, v, hkv, rfl⟩, st2, fun b hb => (hf b hb).1⟩⟩
  done := by
    intro X hP hw hK hc i pins s σ H E I hf st hg
    subst hP hw hK
    obtain ⟨ha, hi⟩ := hg
    obtain ⟨ho, hz, hd, vs, rel, od, es, ep', hod, hr⟩ := (show s.heap.get? a = some o ∧ ObjOk X.prog X.w H s.heap a (.dK kvs) from I.hok a _ ha)
    rw [ho] at hod
    cases hod
    obtain ⟨es0, he0⟩ := hep
    have eep : ep' = ep := by
      have := hr.2.1
      rw [he0] at this
      cases this
      rfl
    subst eep
    have hlen := rel.length
    obtain ⟨f0, f1, f2, f3, f4, f5⟩ := hf it (by simp)
    have st' : s.heap.IsKeyIter it a i vs.length ep' := by rw [← hlen]; exact st
    exact wpAny_pyNext_dict_end (knd := mixKind X.prog X.w) (I.ok.hd hc) st' ⟨o, es, ho, hr⟩ (List.getElem?_eq_none_iff.mpr (by omega)) fun h' eb => ⟨rfl, I.turned (t' := s.toks) (fun b ob hb e => eb b ob hb e) f0 f1 f3 f4 f5⟩
  self := fun _ _ _ _ _ st h => wpAny_pyIter_keyiter st h
theorem wlk_dk {a : Addr} {o : Obj} {kvs : List (Key × V)} : Wlk (Itd a o kvs) (kvs.map fun x => kV x.1) (fun H => H a = some (.frz o (.dK kvs))) :=
  ⟨fun i H h hi => ⟨h, by simpa using hi⟩, fun i H x H' h _ y => by
    obtain ⟨e, k, v, hk, rfl⟩ := y
    exact ⟨by rw [List.getElem?_map, hk]; rfl, e⟩, fun i H h hi => ⟨h, by simpa using hi⟩⟩
noncomputable def iD (tl : TE) : TI := fun σ H R => tl σ H fun x H1 => ∃ a, x = .ref a ∧ ∃ kvs, H1 a = some (.dK kvs) ∧ ∀ o, R (Itd a o kvs) (upd H1 a (.frz o (.dK kvs)))
theorem pi_D {X : Cx} {l tg : Expr} {tl : TE} (hl : PE X l tl) : PI X tg l (iD tl) := by
  intro pins s σ H R I h
  refine thn (hl pins s σ H _ I h) fun v s1 zr4804 => ?_
  obtain ⟨x, H1, I1, r1, a, e, kvs, hq, q⟩ := zr4804
  subst e
  cases r1
  obtain ⟨hz, hd, vs, rel, od, es, ep, hod, hr⟩ := dk_of I1.hok hq
  refine wpAny_pyIter_dict (knd := mixKind X.prog X.w) hd ⟨od, es, hod, hr⟩ ?_
  have hn : ∀ ob u, X.H₀ a ≠ some (.frz ob u) := fun ob u e => by have := I1.base.frzs a ob u e; rw [hq] at this; cases this
  have I2 : Inv X pins σ H1 { s1 with heap := s1.heap.push { cls := .type "dict_keyiterator", data := .fields #[.ref a, .int 0 0, .int vs.length 0, .int ep 0] } } := I1.kept (t' := s1.toks) fun b o e => Heap.get?_push_of_some _ e
  have ok2 := I2.hok a _ hq
  have I3 := I2.retag (o' := .frz od (.dK kvs)) hq (by intro y z; cases z) (by intro y z; cases z) hn (by intro y z; cases z) ⟨Heap.get?_push_of_some _ hod, ok2⟩
  have hlen := rel.length
  refine ⟨s1.heap.objs.size, [s1.heap.objs.size], _, _, _, rfl, I3, turn_dk a _ od kvs ep ⟨es, hr.2.1⟩, ⟨_, Heap.get?_push_size _ rfl, rfl, by rw [hlen]; rfl⟩, fun b hb => ?_, q od⟩
  have e : b = s1.heap.objs.size := by simpa using hb
  subst e
  have hfr : H1 s1.heap.objs.size = none := I1.hok.fresh (Nat.le_refl _)
  obtain ⟨f0, f1, f2, f3, f4, f5⟩ := I1.fpOk (Nat.le_refl _) hfr
  exact ⟨by rw [upd_ne (fun z => by rw [z, hq] at hfr; cases hfr)]; exact hfr, f1, f2, f3, f4, f5⟩
noncomputable def thawE (a : Addr) (kvs : List (Key × V)) (D : Ends) : Ends where
  nx := fun σ H => (∃ o, H a = some (.frz o (.dK kvs))) ∧ D.nx σ (upd H a (.dK kvs))
  rt := fun v H => (∃ o, H a = some (.frz o (.dK kvs))) ∧ D.rt v (upd H a (.dK kvs))
  bk := fun σ H => (∃ o, H a = some (.frz o (.dK kvs))) ∧ D.bk σ (upd H a (.dK kvs))
  ct := fun σ H => (∃ o, H a = some (.frz o (.dK kvs))) ∧ D.ct σ (upd H a (.dK kvs))
noncomputable def tThaw (t : TS) : TS := fun D σ H => ∃ a kvs, H a = some (.dK kvs) ∧ t (thawE a kvs D) σ H
theorem ps_thaw {X : Cx} {st : Stmt} {t : TS} (h : PS X st t) : PS X st (tThaw t) := by
  intro pins s σ H D I ⟨a, kvs, ha, ht⟩
  have hn : ∀ ob u, X.H₀ a ≠ some (.frz ob u) := fun ob u e => by have := I.base.frzs a ob u e; rw [ha] at this; cases this
  have thaw : ∀ {σ' H' s'}, Inv X pins σ' H' s' → (∃ o, H' a = some (.frz o (.dK kvs))) → Inv X pins σ' (upd H' a (.dK kvs)) s' := fun {σ' H' s'} I' ⟨o, e⟩ =>
    I'.retag e (by intro y z; cases z) (by intro y z; cases z) hn (by intro y z; cases z) (show s'.heap.get? a = some o ∧ ObjOk X.prog X.w H' s'.heap a (.dK kvs) from I'.hok a _ e).2
  refine thn (h pins s σ H _ I ht) fun f s' hq => ?_
  cases f with
  | next => obtain ⟨σ', H', I', e, q⟩ := hq; exact ⟨σ', _, thaw I' e, q⟩
  | brk => obtain ⟨σ', H', I', e, q⟩ := hq; exact ⟨σ', _, thaw I' e, q⟩
  | cont => obtain ⟨σ', H', I', e, q⟩ := hq; exact ⟨σ', _, thaw I' e, q⟩
  | ret u => obtain ⟨v, σ', H', I', r, e, q⟩ := hq; exact ⟨v, σ', _, thaw I' e, r, q⟩
end L2
set_option maxHeartbeats 4000000
namespace PySem
section
variable {prog : Program} {w : World} {A : Around} {E : Value → Shared → Prop} {s : Shared}
theorem nx_tup {J T : Addr} {i : Nat} {vs : Array Value} {v : Value} {Q : Value → Shared → Prop} (a : s.heap.IsTupleIter J T i) (b : s.heap.IsTuple T vs) (c : vs[i]? = some v)
    (k : ∀ g, g.IsTupleIter J T (i + 1) → Heap.SameBut J s.heap g → Q v { s with heap := g }) : wpAny (model prog w) A (Builtin.SmallTypes.nextOf (.ref J)) Q E s := by
  obtain ⟨oJ, a1, a2, a3⟩ := id a
  obtain ⟨oT, b1, _, bn, b2⟩ := b
  unfold Builtin.SmallTypes.nextOf
  refine wpAny_bind (wpAny_callSpecial?_slot (name := Str.ofString "__next__") a.typeIs F.slot_tuple_iterator_next (wpAny_call_entry F.slot_tuple_iterator_next a.typeIs F.entry_tuple_iterator_next ?_ (F.args_tuple_iterator_next_1 _)))
  change wpAny _ _ (field (.ref J) 0 >>= _) _ _ s
  refine wpAny_bind (wpAny_field a1 a3 (x := .ref T) rfl ?_)
  change wpAny _ _ (if (Value.ref T == Value.none) = true then _ else _) _ _ s
  rw [if_neg (show ¬ ((Value.ref T == Value.none) = true) from Bool.false_ne_true)]
  change wpAny _ _ (field (.ref J) 1 >>= _) _ _ s
  refine wpAny_bind (wpAny_field a1 a3 (x := .int i 0) rfl ?_)
  change wpAny _ _ (seqItems? (.ref T) >>= _) _ _ s
  refine wpAny_bind (wpAny_seqItems b1 b2 ?_)
  simp only [Int.toNat_natCast, c]
  refine wpAny_bind (wpAny_setField a1 a3 (by simp) (wpAny_pure ⟨v, rfl, wpAny_pure (k _ ⟨_, Heap.get?_update_self _ a1 (Obj.isFreed_of_fields (Obj.data_mapFields a3 _)), (Obj.cls_mapFields ..).trans a2, ?_⟩ (Heap.SameBut.update ..))⟩))
  rw [Obj.data_mapFields a3]; simp [rawInt]
theorem nx_tup_end {J T : Addr} {i : Nat} {vs : Array Value} {Q : Value → Shared → Prop} (hd : A.handled = none) (a : s.heap.IsTupleIter J T i) (b : s.heap.IsTuple T vs) (c : vs[i]? = none)
    (k : ∀ g e, Heap.ExtBut J s.heap g → (∃ o, g.get? e = some o ∧ o.cls = .type "StopIteration") → E (.ref e) { s with heap := g }) : wpAny (model prog w) A (Builtin.SmallTypes.nextOf (.ref J)) Q E s := by
  obtain ⟨oJ, a1, a2, a3⟩ := id a
  obtain ⟨oT, b1, _, bn, b2⟩ := b
  unfold Builtin.SmallTypes.nextOf
  refine wpAny_bind (wpAny_callSpecial?_slot (name := Str.ofString "__next__") a.typeIs F.slot_tuple_iterator_next (wpAny_call_entry F.slot_tuple_iterator_next a.typeIs F.entry_tuple_iterator_next ?_ (F.args_tuple_iterator_next_1 _)))
  change wpAny _ _ (field (.ref J) 0 >>= _) _ _ s
  refine wpAny_bind (wpAny_field a1 a3 (x := .ref T) rfl ?_)
  change wpAny _ _ (if (Value.ref T == Value.none) = true then _ else _) _ _ s
  rw [if_neg (show ¬ ((Value.ref T == Value.none) = true) from Bool.false_ne_true)]
  change wpAny _ _ (field (.ref J) 1 >>= _) _ _ s
  refine wpAny_bind (wpAny_field a1 a3 (x := .int i 0) rfl ?_)
  change wpAny _ _ (seqItems? (.ref T) >>= _) _ _ s
  refine wpAny_bind (wpAny_seqItems b1 b2 ?_)
  simp only [Int.toNat_natCast, c]
  refine wpAny_bind (wpAny_rule (wpAny_bind (wpAny_setField a1 a3 (by simp) ?_)))
  change wpAny _ _ (newExc (.type "StopIteration") [] >>= _) _ _ _
  refine wpAny_bind (by
    simp only [newExc, newTuple]
    refine wpAny_bind (wpAny_newObj_type ?_ (by size_fits))
    refine wpAny_bind (m := firstArgMember _ _) (wpAny_of_eq (a := Value.none) (by first | rfl | (simp only [firstArgMember]; rfl)) ?_)
    refine wpAny_newObj_type ?_ (by size_fits)
    (simp only [raiseNew]; refine wpAny_bind (wpAny_handled ?_))
    first | rw [show A.in1.handled = none from hd] | rw [hd]
    refine wpAny_bind (wpAny_pure (wpAny_throw (k _ _ (((Heap.SameBut.update ..).extBut.push _).push _) ⟨_, Heap.get?_push_size _ rfl, rfl⟩))))
structure ZTup (g : Heap) (z P O I J S T : Addr) (i : Nat) (f0 f1 : Value) : Prop where
  zz : g.get? z = some { cls := .type "zip", dict := none, data := .fields #[f0, f1, .bool false, .ref P, .ref O], slots := #[] }
  pp : IsPair g P (.ref I) (.ref J)
  oo : ∃ a b, IsPair g O a b
  ii : g.IsTupleIter I S i
  jj : g.IsTupleIter J T i
theorem ZTup.keep {g g' : Heap} {z P O I J S T : Addr} {i : Nat} {f0 f1 : Value} (h : ZTup g z P O I J S T i f0 f1) (k : ∀ b ∈ [z, P, O, I, J], ∀ o, g.get? b = some o → g'.get? b = some o) : ZTup g' z P O I J S T i f0 f1 := by
  obtain ⟨a, b, oo⟩ := h.oo
  exact ⟨k z (by simp) _ h.zz, k P (by simp) _ h.pp, ⟨a, b, k O (by simp) _ oo⟩, h.ii.at fun o e => k I (by simp) o e, h.jj.at fun o e => k J (by simp) o e⟩
theorem wpAny_pyIter_zipT {z P O : Addr} {f0 f1 : Value} {Q : Value → Shared → Prop} (hz : s.heap.get? z = some { cls := .type "zip", dict := none, data := .fields #[f0, f1, .bool false, .ref P, .ref O], slots := #[] }) (h : Q (.ref z) s) : wpAny (model prog w) A (pyIter (.ref z)) Q E s := by
  have hT : s.TypeIs (.ref z) "zip" := ⟨_, hz, rfl⟩
  refine wpAny_pyIter_slot hT F.slot_zip_iter (wpAny_call_entry F.slot_zip_iter hT F.entry_zip_iter (by
    show wpAny _ _ (ret (.ref z)) _ _ s
    exact wpAny_pure ⟨_, rfl, "zip", _, hT, F.slot_zip_next.lookup, h⟩) (F.args_zip_iter_1 _))
end
end PySem
namespace L2
open PySem PySem.Spec PyProof.Rows
section
variable {X : Cx} {pins : List (Addr × Obj)} {σ : St} {H : Hp} {s : Shared}
theorem Inv.turnedL {t' : Nat} {g : Heap} {fp : List Addr} (I : Inv X pins σ H s) (k : ∀ b o, b ∉ fp → s.heap.get? b = some o → g.get? b = some o) (hf : ∀ b ∈ fp, FpOk X pins H b) : Inv X pins σ H { s with heap := g, toks := t' } := by
  have nit : ∀ b u, H b = some u → b ∉ fp := fun b u e z => by rw [(hf b z).1] at e; cases e
  refine I.step (g' := s.gens) (d' := s.drawn) (ch := fp) (fun b hb => ⟨(hf b hb).2.2.2.1, (hf b hb).2.1, (hf b hb).2.2.2.2.1, (hf b hb).2.2.2.2.2⟩) (fun b o _ _ hc e _ => k b o hc e) (fun b o _ _ hc e _ => ⟨o.slots, k b o hc e⟩) (fun _ _ _ _ n => n)
    (fun b o hc e => ⟨o, k b o hc e⟩) (fun _ _ e => e) (fun _ _ _ e => e) (fun b ps e => ⟨#[], by rw [e]; simp⟩) (fun m hm => ?_) (fun b u e => ?_) I.bare
  · obtain ⟨o, es, ep, ho, r⟩ := hm
    exact ⟨o, es, ep, k _ o (fun z => (hf _ z).2.1 rfl) ho, r⟩
  · refine (I.hok b u e).stay (fun c v hc q => k c v ?_ q) (fun _ q => q) fun _ _ q => q
    rcases hc with z | z
    · rw [z]; exact nit b u e
    · exact nit c _ z
theorem Inv.turnedNew {t' : Nat} {g : Heap} {fp : List Addr} {a : Addr} {u0 : HO} (I : Inv X pins σ H s) (k : ∀ b o, b ∉ fp → s.heap.get? b = some o → g.get? b = some o) (hf : ∀ b ∈ fp, FpOk X pins H b) (ha : s.heap.objs.size ≤ a)
    (ok : ObjOk X.prog X.w (upd H a u0) g a u0) : Inv X pins σ (upd H a u0) { s with heap := g, toks := t' } := by
  have nit : ∀ b u, H b = some u → b ∉ fp := fun b u e z => by rw [(hf b z).1] at e; cases e
  have na : ∀ b o, s.heap.get? b = some o → b ≠ a := fun b o e z => by rw [z] at e; exact absurd (Nat.lt_of_lt_of_le (Heap.lt_size e) ha) (Nat.lt_irrefl _)
  have hn : H a = none := I.hok.fresh ha
  have nH : ∀ b u, H b = some u → b ≠ a := fun b u e z => by rw [z, hn] at e; cases e
  refine I.step (g' := s.gens) (d' := s.drawn) (ch := fp) (fun b hb => ⟨(hf b hb).2.2.2.1, (hf b hb).2.1, (hf b hb).2.2.2.2.1, (hf b hb).2.2.2.2.2⟩) (fun b o _ _ hc e _ => k b o hc e) (fun b o _ _ hc e _ => ⟨o.slots, k b o hc e⟩) (fun b o _ e n => by rw [upd_ne (na b o e)]; exact n)
    (fun b o hc e => ⟨o, k b o hc e⟩) (fun b xs e => by rw [upd_ne (nH b _ e)]; exact e) (fun b o u e => by rw [upd_ne (nH b _ e)]; exact e) (fun b ps e => ⟨#[], by rw [upd_ne (nH b _ e), e]; simp⟩) (fun m hm => ?_) (fun b u e => ?_) I.bare
  · obtain ⟨o, es, ep, ho, r⟩ := hm
    exact ⟨o, es, ep, k _ o (fun z => (hf _ z).2.1 rfl) ho, r⟩
  · by_cases hb : b = a
    · subst hb
      rw [upd_same] at e
      cases e
      exact ok
    · rw [upd_ne hb] at e
      refine (I.hok b u e).stay (fun c v hc q => k c v ?_ q) (fun c q => by rw [upd_ne (nH c _ q)]; exact q) (fun c xs q => by rw [upd_ne (nH c _ q)]; exact q) fun c _ _ q => by rw [upd_ne (nH c _ q)]; exact q
      rcases hc with z | z
      · rw [z]; exact nit b u e
      · exact nit c _ z
theorem vals_none {xs : List V} {us : List Value} {i : Nat} (h : Vals xs us) (e : xs[i]? = none) : us[i]? = none := by
  have := h.length
  rw [List.getElem?_eq_none_iff] at e ⊢
  omega
end
section
variable {X : Cx} {K : PySem.W.Frag} {e1 e2 : Expr} {ta : TA} {p p2 pos pos2 pos' : Pos} {es : List Expr} {x1 : Nat}
theorem boot_zip' : bootBuiltins "zip" = some (.type "zip") := by decide +kernel
end
end L2
namespace L2
open PySem PySem.Spec PyProof.Rows
section
variable {X : Cx}
noncomputable def rMinL : List V → Hp → VK → Prop := fun xs H Q => ∃ p, xs = [.ref p] ∧ ∃ ns : List Int, H p = some (.lst (ns.map V.int)) ∧ ns ≠ [] ∧ ∀ m, m ∈ ns → (∀ x ∈ ns, m ≤ x) → Q (.int m) H
noncomputable def rMaxL : List V → Hp → VK → Prop := fun xs H Q => ∃ p, xs = [.ref p] ∧ ∃ ns : List Int, H p = some (.lst (ns.map V.int)) ∧ ns ≠ [] ∧ ∀ m, m ∈ ns → (∀ x ∈ ns, x ≤ m) → Q (.int m) H
theorem best_lo {xs : Array (Int × Tok)} {ns : List Int} (hns : ns = xs.toList.map (·.1)) (h0 : 0 < xs.size) : numAt xs (argBest (fun i j => decide (numAt xs i < numAt xs j)) (xs.size - 1)) ∈ ns ∧ ∀ a ∈ ns, numAt xs (argBest (fun i j => decide (numAt xs i < numAt xs j)) (xs.size - 1)) ≤ a := by
  obtain ⟨h1, h2⟩ := argBest_lt (numAt xs) (xs.size - 1)
  refine ⟨?_, fun a ha => ?_⟩
  · rw [hns, numAt_eq]; exact PySem.getD_mem (by rw [List.length_map, Array.length_toList]; omega)
  · rw [hns] at ha
    obtain ⟨j, hj, rfl⟩ := mem_getD ha
    rw [List.length_map, Array.length_toList] at hj
    rw [← numAt_eq]; exact h2 j (by omega)
theorem best_hi {xs : Array (Int × Tok)} {ns : List Int} (hns : ns = xs.toList.map (·.1)) (h0 : 0 < xs.size) : numAt xs (argBest (fun i j => decide (numAt xs i > numAt xs j)) (xs.size - 1)) ∈ ns ∧ ∀ a ∈ ns, a ≤ numAt xs (argBest (fun i j => decide (numAt xs i > numAt xs j)) (xs.size - 1)) := by
  obtain ⟨h1, h2⟩ := argBest_gt (numAt xs) (xs.size - 1)
  refine ⟨?_, fun a ha => ?_⟩
  · rw [hns, numAt_eq]; exact PySem.getD_mem (by rw [List.length_map, Array.length_toList]; omega)
  · rw [hns] at ha
    obtain ⟨j, hj, rfl⟩ := mem_getD ha
    rw [List.length_map, Array.length_toList] at hj
    rw [← numAt_eq]; exact h2 j (by omega)
theorem ints_items {its : List Value} {ns : List Int} (hi : IntsAre its ns) (hne : ns ≠ []) : ∃ xs : Array (Int × Tok), its.toArray = intItems xs ∧ ns = xs.toList.map (·.1) ∧ 0 < xs.size := by
  obtain ⟨xs, e⟩ := hi.allInts.items
  have hns : ns = xs.toList.map (·.1) := by rw [← hi.numsOf, ← nums_intItems, ← e]
  refine ⟨xs, e, hns, ?_⟩
  have h3 := List.length_pos_iff.mpr hne
  rw [hns, List.length_map, Array.length_toList] at h3
  exact h3
theorem call_minL (hc : X.calm = true) : CallR X (.builtin "min") rMinL := by
  intro pins s σ H xs us Q I r h
  obtain ⟨p, rfl, ns, hp, hne, q⟩ := h
  obtain ⟨u, rfl, ru⟩ := vals1 r
  cases ru
  obtain ⟨its, rv, pl, hz⟩ := I.list (SqL.of hp)
  obtain ⟨xs, e, hns, h0⟩ := ints_items (intsAre_of rv) hne
  have pl' := pl.isList
  rw [e] at pl'
  refine min_intList (I.ok.hd hc) pl' h0 fun v g tk hv hk => ?_
  obtain ⟨t, rfl⟩ := intItems_at hv
  obtain ⟨b1, b2⟩ := best_lo hns h0
  exact ⟨V.int _, H, I.kept (t' := tk) hk, ⟨t, rfl⟩, q _ b1 b2⟩
theorem call_maxL (hc : X.calm = true) : CallR X (.builtin "max") rMaxL := by
  intro pins s σ H xs us Q I r h
  obtain ⟨p, rfl, ns, hp, hne, q⟩ := h
  obtain ⟨u, rfl, ru⟩ := vals1 r
  cases ru
  obtain ⟨its, rv, pl, hz⟩ := I.list (SqL.of hp)
  obtain ⟨xs, e, hns, h0⟩ := ints_items (intsAre_of rv) hne
  have pl' := pl.isList
  rw [e] at pl'
  refine max_intList (I.ok.hd hc) pl' h0 fun v g tk hv hk => ?_
  obtain ⟨t, rfl⟩ := intItems_at hv
  obtain ⟨b1, b2⟩ := best_hi hns h0
  exact ⟨V.int _, H, I.kept (t' := tk) hk, ⟨t, rfl⟩, q _ b1 b2⟩
end
end L2
namespace PySem
open AutoSeq1 (wpAny_loadPart')
theorem Draws.tup {prog : Program} {w : World} {A : Around} (hd : A.handled = none) (J T : Addr) (hne : T ≠ J) (vs : Array Value) :
    Draws prog w A J [J, T] vs.size (fun i v => vs[i]? = some v) (fun i h => h.IsTupleIter J T i ∧ h.IsTuple T vs) where
  live := fun _ _ st => let ⟨o, ho, _⟩ := st.1; ⟨o, ho⟩
  frame := fun _ _ _ st hk => ⟨st.1.at fun o e => hk J (by simp) o e, st.2.at fun o e => hk T (by simp) o e⟩
  item := fun i s Q E hi st hQ => nx_tup st.1 st.2 (Array.getElem?_eq_getElem hi) fun g a b => hQ _ g s.toks (Array.getElem?_eq_getElem hi) ⟨a, st.2.at fun o e => (b.2 T hne).trans e⟩ b
  done := fun s Q E st hQ => nx_tup_end hd st.1 st.2 (Array.getElem?_eq_none (Nat.le_refl _)) hQ
section
variable {prog : Program} {w : World} {A : Around} {E : Value → Shared → Prop} {s : Shared}
theorem enum_madeT (T : Addr) (vs : Array Value) (n : Nat) (dd : Option Addr) (sl : Array (Option Value)) :
    Meets (Builtin.«enumerate.__new__» ⟨[.type "enumerate", .ref T], []⟩) (fun _ R s => s.heap.get? T = some { cls := .type "tuple", dict := dd, data := .seq vs n, slots := sl } ∧
      R (.ok (.ret (.ref (s.heap.push { cls := .type "tuple_iterator", data := .fields #[.ref T, .int 0 0] }).objs.size)))
        { s with heap := (s.heap.push { cls := .type "tuple_iterator", data := .fields #[.ref T, .int 0 0] }).push { cls := .type "enumerate", data := .fields #[.none, .bool false, .ref s.heap.objs.size, rawInt 0, .none, .none] } }) :=
  .of_wp fun prog w A R s h => by
    obtain ⟨hp, g, d, tk, os⟩ := s; obtain ⟨ht, h⟩ := h
    have hsub := sub_enumerate
    have hT : Heap.IsTuple (Shared.heap ⟨hp, g, d, tk, os⟩) T vs := ⟨_, ht, rfl, n, rfl⟩
    wp_walk using wpAny_loadPart' ht
    refine wpAny_stack_any fun st => wpAny_pure ?_
    split
    · rename_i c _ _ _ _ _
      cases (c == Value.type "enumerate")
      · wp_walk using wpAny_loadPart' ht, wpAny_pyIter_tuple hT
        exact ⟨_, rfl, h⟩
      · wp_walk using wpAny_loadPart' ht, wpAny_pyIter_tuple hT
        exact ⟨_, rfl, h⟩
    · wp_walk using wpAny_loadPart' ht, wpAny_pyIter_tuple hT
      exact ⟨_, rfl, h⟩
theorem call_enumT {T : Addr} {vs : Array Value} {Q : Value → Shared → Prop} (ht : s.heap.IsTuple T vs)
    (k : ∀ g e J, IsEnum g e J 0 .none → g.IsTupleIter J T 0 → e ≠ J → s.heap.objs.size ≤ e → s.heap.objs.size ≤ J → (∀ b o, s.heap.get? b = some o → g.get? b = some o) → Q (.ref e) { s with heap := g }) :
    wpAny (model prog w) A (call (.type "enumerate") [.ref T]) Q E s := by
  obtain ⟨⟨cls, dd, data, sl⟩, h1, h2, n, h3⟩ := ht
  simp only at h2 h3
  subst h2 h3
  refine callType_new F.called_enumerate (by decide) (F.typeCall_enumerate_1 _) (F.newCall_enumerate_1 _) (fun obj => F.args_object_init_2 obj _) F.entry_enumerate_new (enum_madeT T vs n dd sl) ⟨h1, ?_⟩
  have n1 : (s.heap.push { cls := .type "tuple_iterator", data := .fields #[.ref T, .int 0 0] }).objs.size = s.heap.objs.size + 1 := Heap.size_push ..
  have g1 : ((s.heap.push { cls := .type "tuple_iterator", data := .fields #[.ref T, .int 0 0] }).push { cls := .type "enumerate", data := .fields #[.none, .bool false, .ref s.heap.objs.size, rawInt 0, .none, .none] }).get? (s.heap.push { cls := .type "tuple_iterator", data := .fields #[.ref T, .int 0 0] }).objs.size = some _ := Heap.get?_push_size _ rfl
  have g2 : ((s.heap.push { cls := .type "tuple_iterator", data := .fields #[.ref T, .int 0 0] }).push { cls := .type "enumerate", data := .fields #[.none, .bool false, .ref s.heap.objs.size, rawInt 0, .none, .none] }).get? s.heap.objs.size = some _ := Heap.get?_push_of_some _ (Heap.get?_push_size _ rfl)
  refine ⟨⟨_, g1, rfl⟩, k _ _ s.heap.objs.size g1 ⟨_, g2, rfl, rfl⟩ ?_ ?_ (Nat.le_refl _) fun b o e => Heap.get?_push_of_some _ (Heap.get?_push_of_some _ e)⟩
  · rw [n1]; exact Nat.succ_ne_self _
  · rw [n1]; exact Nat.le_succ _
theorem tup_norev : typeLookup (.type "tuple") "__reversed__" = pure none := by rw [typeLookup_type, builtinLookup_eq_fast]; kernel_rfl
theorem tup_getitem : typeLookup (.type "tuple") "__getitem__" = pure (some (.builtin "tuple.__getitem__")) := by rw [typeLookup_type, builtinLookup_eq_fast]; kernel_rfl
theorem tup_nodict : isSubtype (.type "tuple") (.type "dict") = pure false := by rw [isSubtype_type]; kernel_rfl
noncomputable def IsRevT (h : Heap) (z T : Addr) (i : Int) : Prop := h.get? z = some { cls := .type "reversed", dict := none, data := .fields #[.ref T, rawInt i], slots := #[] }
theorem rev_made (T : Addr) (vs : Array Value) : Meets (Builtin.«reversed.__new__» ⟨[.type "reversed", .ref T], []⟩) (fun _ R s => s.heap.IsTuple T vs ∧ (vs.size : Int) < 2 ^ 63 ∧
      ∀ tk, R (.ok (.ret (.ref s.heap.objs.size))) { s with heap := s.heap.push { cls := .type "reversed", data := .fields #[.ref T, rawInt ((vs.size : Int) - 1)] }, toks := tk }) :=
  .of_wp fun prog w A R s h => by
    obtain ⟨ht, hz, k⟩ := h
    have hty : s.TypeIs (.ref T) "tuple" := let ⟨o, h1, h2, _⟩ := ht; ⟨o, h1, h2⟩
    unfold Builtin.«reversed.__new__»
    refine wpAny_bind (wpAny_of_eq (newClass_reversed _) ?_)
    refine wpAny_bind (wpAny_of_eq (a := ()) (by first | rfl | kernel_rfl) ?_)
    refine wpAny_bind (wpAny_of_eq (a := ()) (by first | rfl | kernel_rfl) ?_)
    refine wpAny_bind (wpAny_specialOf hty tup_norev ?_)
    refine wpAny_bind (by
      change wpAny _ _ (isInstance (Value.ref T) (.type "dict") >>= _) _ _ _
      refine wpAny_bind (wpAny_isInstance (T := "tuple") (b := false) hty tup_nodict ?_)
      simp only [Bool.false_eq_true, if_false]
      refine wpAny_bind (wpAny_specialOf hty tup_getitem ?_)
      refine wpAny_pure ?_
      simp only [Bool.not_true, Bool.false_eq_true, if_false]
      refine wpAny_bind (PyProof.Rows.len_tuple ht hz (wpAny_bind (wpAny_of_eq (a := some ((vs.size : Nat) : Int)) (by rfl) (wpAny_bind ?_))))
      change wpAny _ _ (newObj (.type "reversed") (.fields #[Value.ref T, rawInt ((vs.size : Int) - 1)])) _ _ _
      exact wpAny_newObj_type (wpAny_pure ⟨_, rfl, k _⟩))
theorem rslot_init : Slot "reversed" "__init__" "object.__init__" :=
  .of (owner := "object") (n := "__init__") (by rw [typeLookup_type, builtinLookup_eq_fast]; kernel_rfl) (by decide +kernel) (by decide +kernel) (by decide +kernel) (by first | exact .inl (by decide +kernel) | exact .inr (by decide +kernel)) (by rw [isSubtype_type]; kernel_rfl)
theorem rslot_next : Slot "reversed" "__next__" "reversed.__next__" :=
  .of (owner := "reversed") (n := "__next__") (by rw [typeLookup_type, builtinLookup_eq_fast]; kernel_rfl) (by decide +kernel) (by decide +kernel) (by decide +kernel) (by first | exact .inl (by decide +kernel) | exact .inr (by decide +kernel)) (by rw [isSubtype_type]; kernel_rfl)
theorem rslot_iter : Slot "reversed" "__iter__" "reversed.__iter__" :=
  .of (owner := "reversed") (n := "__iter__") (by rw [typeLookup_type, builtinLookup_eq_fast]; kernel_rfl) (by decide +kernel) (by decide +kernel) (by decide +kernel) (by first | exact .inl (by decide +kernel) | exact .inr (by decide +kernel)) (by rw [isSubtype_type]; kernel_rfl)
theorem rentry_next : entryFor table "reversed.__next__" = some Builtin.«reversed.__next__» := entryFor_of_tree (by kernel_rfl)
theorem rentry_iter : entryFor table "reversed.__iter__" = some Builtin.«dict_keyiterator.__iter__» :=
  entryFor_alias (id' := "dict_keyiterator.__iter__") (by kernel_rfl) (by first | rfl | decide +kernel | (unfold String.splitOn; simp +decide [String.splitOnAux])) (by decide +kernel) (by kernel_rfl)
theorem rargs_next (a : Value) : argsOk "reversed.__next__" ⟨[a], []⟩ := by unfold argsOk; kernel_rfl
theorem rargs_iter (a : Value) : argsOk "reversed.__iter__" ⟨[a], []⟩ := by unfold argsOk; kernel_rfl
theorem called_rev : TypeCalled "reversed" "reversed.__new__" "object.__init__" :=
  ⟨by decide +kernel, by decide +kernel, ⟨_, _, F.mro_reversed⟩, F.made_reversed, by decide +kernel, F.sub_reversed_self, rslot_init⟩
theorem call_revT {T : Addr} {vs : Array Value} {Q : Value → Shared → Prop} (ht : s.heap.IsTuple T vs) (hz : (vs.size : Int) < 2 ^ 63)
    (k : ∀ g tk, IsRevT g s.heap.objs.size T ((vs.size : Int) - 1) → (∀ b o, s.heap.get? b = some o → g.get? b = some o) → Q (.ref s.heap.objs.size) { s with heap := g, toks := tk }) :
    wpAny (model prog w) A (call (.type "reversed") [.ref T]) Q E s := by
  refine callType_new called_rev (by decide) (F.typeCall_reversed_1 _) (F.newCall_reversed_1 _) (fun obj => F.args_object_init_2 obj _) F.entry_reversed_new (rev_made T vs) ⟨ht, hz, fun tk => ?_⟩
  have g1 : (s.heap.push { cls := .type "reversed", data := .fields #[.ref T, rawInt ((vs.size : Int) - 1)] }).get? s.heap.objs.size = some _ := Heap.get?_push_size _ rfl
  exact ⟨⟨_, g1, rfl⟩, k _ _ g1 fun b o e => Heap.get?_push_of_some _ e⟩
theorem rev_iter {z T : Addr} {i : Int} {Q : Value → Shared → Prop} (hz : IsRevT s.heap z T i) (h : Q (.ref z) s) : wpAny (model prog w) A (pyIter (.ref z)) Q E s := by
  have hT : s.TypeIs (.ref z) "reversed" := ⟨_, hz, rfl⟩
  refine wpAny_pyIter_slot hT rslot_iter (wpAny_call_entry rslot_iter hT rentry_iter (by
    show wpAny _ _ (ret (.ref z)) _ _ s
    exact wpAny_pure ⟨_, rfl, "reversed", _, hT, rslot_next.lookup, h⟩) (rargs_iter _))
theorem rev_next {z T : Addr} {i : Nat} {vs : Array Value} {x : Value} {Q : Option Value → Shared → Prop} (hz : IsRevT s.heap z T (i : Int)) (ht : s.heap.IsTuple T vs) (hx : vs[i]? = some x) (hsz : (vs.size : Int) < 2 ^ 62)
    (k : ∀ g tk, IsRevT g z T ((i : Int) - 1) → Heap.SameBut z s.heap g → Q (some x) { s with heap := g, toks := tk }) : wpAny (model prog w) A (pyNext (.ref z)) Q E s := by
  have hty : s.TypeIs (.ref z) "reversed" := ⟨_, hz, rfl⟩
  have htT : s.TypeIs (.ref T) "tuple" := let ⟨o, h1, h2, _⟩ := ht; ⟨o, h1, h2⟩
  have hi : i < vs.size := (Array.getElem?_eq_some_iff.mp hx).1
  unfold pyNext
  refine wpAny_bind (wpAny_attempt (wpAny_callSpecial?_slot (name := Str.ofString "__next__") hty rslot_next (wpAny_call_entry rslot_next hty rentry_next (by
    unfold Builtin.«reversed.__next__»
    refine wpAny_bind (wpAny_of_eq (a := (Value.ref z, [])) rfl ?_)
    change wpAny _ _ (field (.ref z) 0 >>= _) _ _ _
    refine wpAny_bind (wpAny_field hz rfl (x := .ref T) rfl ?_)
    change wpAny _ _ (field (.ref z) 1 >>= _) _ _ _
    refine wpAny_bind (wpAny_field hz rfl (x := rawInt (i : Int)) rfl ?_)
    change wpAny _ _ (if (i : Int) < 0 then _ else _) _ _ _
    rw [if_neg (by omega)]
    refine wpAny_bind (wpAny_specialOf htT tup_getitem ?_)
    simp only [Option.isNone_some, Bool.false_eq_true, if_false]
    refine wpAny_bind (wpAny_mkInt (wpAny_bind (wpAny_attempt ?_)))
    refine PyProof.Rows.getItem_tuple (s := { s with toks := s.toks + 1 }) ht (by omega) (by omega) (j := i) (seqIndex_of (by omega) (by omega)) hx ?_
    change wpAny _ _ (field (.ref z) 1 >>= _) _ _ _
    refine wpAny_bind (wpAny_field hz rfl (x := rawInt (i : Int)) rfl ?_)
    refine wpAny_bind (wpAny_setField_rec (s := { s with toks := s.toks + 1 }) hz (by simp) fun g g1 g2 => wpAny_pure ⟨_, rfl, wpAny_pure (k g _ g1 g2)⟩)) (rargs_next _))))
theorem rev_end {z T : Addr} {i : Int} {Q : Option Value → Shared → Prop} (hd : A.handled = none) (hz : IsRevT s.heap z T i) (hi : i < 0) (k : ∀ g, Heap.ExtBut z s.heap g → Q none { s with heap := g }) : wpAny (model prog w) A (pyNext (.ref z)) Q E s := by
  have hty : s.TypeIs (.ref z) "reversed" := ⟨_, hz, rfl⟩
  unfold pyNext
  refine wpAny_bind (wpAny_attempt (wpAny_callSpecial?_slot (name := Str.ofString "__next__") hty rslot_next (wpAny_call_entry rslot_next hty rentry_next (by
    unfold Builtin.«reversed.__next__»
    refine wpAny_bind (wpAny_of_eq (a := (Value.ref z, [])) rfl ?_)
    change wpAny _ _ (field (.ref z) 0 >>= _) _ _ _
    refine wpAny_bind (wpAny_field hz rfl (x := .ref T) rfl ?_)
    change wpAny _ _ (field (.ref z) 1 >>= _) _ _ _
    refine wpAny_bind (wpAny_field hz rfl (x := rawInt i) rfl ?_)
    change wpAny _ _ (if i < 0 then _ else _) _ _ _
    rw [if_pos hi]
    refine wpAny_bind (wpAny_rule (wpAny_bind ?_))
    change wpAny _ _ (setField (.ref z) 1 (rawInt (-1)) >>= fun _ => setField (.ref z) 0 .none) _ _ _
    refine wpAny_bind (wpAny_setField_rec hz (by simp) fun g1 z1 s1 => ?_)
    refine wpAny_setField_rec z1 (by simp) fun g2 z2 s2 => ?_
    first
    | change wpAny _ _ (newExc (.type "StopIteration") [] >>= _) _ _ _
    | (refine wpAny_bind ?_; change wpAny _ _ (newExc (.type "StopIteration") [] >>= _) _ _ _)
    refine wpAny_bind ?_
    simp only [newExc, newTuple]
    refine wpAny_bind (wpAny_newObj_type ?_ (by size_fits))
    refine wpAny_bind (m := firstArgMember _ _) (wpAny_of_eq (a := Value.none) (by first | rfl | (simp only [firstArgMember]; rfl)) ?_)
    refine wpAny_newObj_type ?_ (by size_fits)
    (simp only [raiseNew]; refine wpAny_bind (wpAny_handled ?_))
    first | rw [show A.in1.handled = none from hd] | rw [hd]
    refine wpAny_bind (wpAny_pure (wpAny_throw ?_))
    refine wpAny_bind (wpAny_isInstance (T := "StopIteration") (b := true) ⟨_, Heap.get?_push_size _ rfl, rfl⟩ isSubtype_stop ?_)
    exact wpAny_pure (k _ fun b o hb e => Heap.get?_push_of_some _ (Heap.get?_push_of_some _ (s2.extBut _ _ hb (s1.extBut _ _ hb e))))) (rargs_next _))))
end
end PySem
namespace L2
open PySem PySem.Spec PyProof.Rows
section
variable {X : Cx} {K : PySem.W.Frag}
noncomputable def Ite (K : PySem.W.Frag) (a : Addr) : It :=
  ⟨fun i H => ∃ xs x, SqT K H a xs ∧ xs[i]? = some x,
   fun i H v H' => ∃ t x, H t = none ∧ v = .ref t ∧ H' = upd H t (.tup [.int (i : Nat), x]) ∧ ∀ xs, SqT K H a xs → xs[i]? = some x,
   fun i H => ∃ xs, SqT K H a xs ∧ xs.length = i⟩
theorem turn_enumT {P : Program} {w : World} {K : PySem.W.Frag} {es : List Expr} {x1} {pos : Pos} (a e J : Addr) (hne : e ≠ J) :
    Turn P w K (.Tuple es x1 pos) (Ite K a) [e, J] e (fun i h => (∃ old, IsEnum h e J i old) ∧ h.IsTupleIter J a i) where
  mem := by simp
  obj := fun i h st c hc => by
    obtain ⟨⟨old, he⟩, oi, i1, i2, i3⟩ := st
    simp only [List.mem_cons, List.not_mem_nil, or_false] at hc
    rcases hc with rfl | rfl
    · exact ⟨_, he, fun v z => by cases z⟩
    · exact ⟨oi, i1, fun v z => by rw [i3] at z; cases z⟩
  keep := fun i h h' st k => by
    obtain ⟨⟨old, he⟩, hi⟩ := st
    exact ⟨⟨old, k e (by simp) _ he⟩, hi.at fun o q => k J (by simp) o q⟩
  item := by
    intro X hP hw hK hc i pins s σ H E In hf st hg
    subst hP hw hK
    obtain ⟨xs, x, hq, hx⟩ := hg
    obtain ⟨its, rv, p, hz⟩ := In.tuple hq
    obtain ⟨u, hu, ru⟩ := rv.get hx
    obtain ⟨⟨old, he⟩, hi⟩ := st
    have pl : s.heap.IsTuple a its.toArray := p
    have hJa : a ≠ J := fun z => by
      obtain ⟨o1, q1, q2, _⟩ := hi
      obtain ⟨o2, q3, q4, _⟩ := id pl
      rw [← z, q3] at q1
      cases q1
      rw [q4] at q2
      exact absurd q2 (by simp)
    have hea : e ∉ [J, a] := fun hm => by
      rcases List.mem_cons.mp hm with z | z
      · exact hne z
      · have z := List.mem_singleton.mp z
        obtain ⟨o2, q3, q4, _⟩ := id pl
        rw [← z, he] at q3
        cases q3
        exact absurd q4 (by simp)
    have hil : i < its.toArray.size := by simpa using (List.getElem?_eq_some_iff.mp hu).1
    refine wpAny_pyNext_enum_itemD (Draws.tup (A := X.A.in1) (show X.A.in1.handled = none from In.ok.hd hc) J a hJa its.toArray) he ⟨hi, pl⟩ hil hne hea fun v g tk hv ho hst ht hs hk => ?_
    have evu : v = u := by
      simp only [List.getElem?_toArray] at hv
      rw [hu] at hv
      exact (Option.some.inj hv).symm
    subst evu
    refine ⟨_, rfl, wpAny_letOwnedTupleGo_enum (s := { s with heap := g, toks := tk + 1 }) ho fun g2 he2 s2 => ?_⟩
    have hel : e < s.heap.objs.size := Heap.lt_size he
    have hJl : J < s.heap.objs.size := by obtain ⟨o1, q1, _⟩ := hi; exact Heap.lt_size q1
    have hnew : H s.heap.objs.size = none := In.hok.fresh (Nat.le_refl _)
    have I2 : Inv X pins σ (upd H s.heap.objs.size (.tup [.int (i : Nat), x])) { s with heap := g2, toks := tk + 1 } := In.turnedNew (t' := tk + 1) (fp := [e, J]) (fun c o hc q => by
        simp only [List.mem_cons, List.not_mem_nil, or_false, not_or] at hc
        exact (s2.2 c hc.1).trans (hk c o hc.1 hc.2 q)) hf (Nat.le_refl _)
      ⟨by show 2 ≤ sizeLine; decide, [.int i tk, v], .cons ⟨tk, rfl⟩ (.cons ru .nil), ⟨_, (s2.2 _ (Nat.ne_of_gt hel)).trans ht, rfl, _, rfl⟩⟩
    refine ⟨.ref s.heap.objs.size, _, I2, rfl, ⟨_, x, hnew, rfl, rfl, fun zs hzs => by rw [In.tuple_inj hzs hq]; exact hx⟩, ⟨⟨v, by simpa using he2⟩, hst.1.at fun o q => (s2.2 J hne.symm).trans q⟩, fun c hc => ?_⟩
    simp only [List.mem_cons, List.not_mem_nil, or_false] at hc
    rcases hc with rfl | rfl
    · rw [upd_ne (Nat.ne_of_lt hel)]; exact (hf _ (by simp)).1
    · rw [upd_ne (Nat.ne_of_lt hJl)]; exact (hf _ (by simp)).1
  done := by
    intro X hP hw hK hc i pins s σ H E In hf st hg
    subst hP hw hK
    obtain ⟨xs, hq, hx⟩ := hg
    obtain ⟨its, rv, p, hz⟩ := In.tuple hq
    obtain ⟨⟨old, he⟩, hi⟩ := st
    have pl : s.heap.IsTuple a its.toArray := p
    have hJa : a ≠ J := fun z => by
      obtain ⟨o1, q1, q2, _⟩ := hi
      obtain ⟨o2, q3, q4, _⟩ := id pl
      rw [← z, q3] at q1
      cases q1
      rw [q4] at q2
      exact absurd q2 (by simp)
    have hn : its.toArray.size = i := by have := rv.length; simp; omega
    subst hn
    refine wpAny_pyNext_enum_endD (Draws.tup (A := X.A.in1) (show X.A.in1.handled = none from In.ok.hd hc) J a hJa its.toArray) he ⟨hi, pl⟩ fun g hk => ⟨rfl, In.turnedL (t' := s.toks) (fp := [e, J]) (fun c o hc q => hk c o (fun z => hc (by simp [z])) q) hf⟩
  self := fun _ _ _ _ _ st h => by
    obtain ⟨⟨old, he⟩, _⟩ := st
    exact wpAny_pyIter_enum he h
noncomputable def iE (K : PySem.W.Frag) (ta : TA) : TI := fun σ H R => ta σ H fun vs H1 => ∃ a, vs = [.ref a] ∧ ∃ xs, H1 a = some (.tup xs) ∧ R (Ite K a) H1
theorem boot_enum' : bootBuiltins "enumerate" = some (.type "enumerate") := by decide +kernel
theorem pi_enumT {e1 : Expr} {ta : TA} {p pos pos' : Pos} {es : List Expr} {x1} (hK : X.K = K) (hg : Gl X "enumerate") (hm : X.mg "enumerate" = none) (ha : PA X [e1] ta) (hs : starEach [e1] X.env = [(false, eval e1 X.env)] := by rfl) :
    PI X (.Tuple es x1 pos') (.Call (.Name "enumerate" p) [e1] [] pos) (iE K ta) := by
  subst hK
  intro pins s σ H R I h
  refine Call_ (ld_blt I hg hm boot_enum' (PyProof.Rows.callWith_type1 (thn (ha pos pins s σ H _ I h) fun us s1 ⟨vs, H1, I1, r1, q1⟩ => ?_) (by rw [hs]; rfl) rfl))
  obtain ⟨a, e, xs, hxs, q⟩ := q1
  subst e
  obtain ⟨u, rfl, ru⟩ := vals1 r1
  cases ru
  obtain ⟨its, rv, pl, hz⟩ := I1.tuple (SqT.of hxs)
  refine call_enumT (show s1.heap.IsTuple a its.toArray from pl) fun g e J he hJ hne l1 l2 kg => ?_
  refine wpAny_pyIter_enum (s := { s1 with heap := g }) he ⟨e, [e, J], _, _, H1, rfl, I1.kept (t' := s1.toks) kg, turn_enumT a e J hne, ⟨⟨_, he⟩, hJ⟩, fun c hc => ?_, q⟩
  simp only [List.mem_cons, List.not_mem_nil, or_false] at hc
  rcases hc with rfl | rfl
  · exact I1.fpOk l1 (I1.hok.fresh l1)
  · exact I1.fpOk l2 (I1.hok.fresh l2)
theorem for_eg {a : Addr} {xs : List V} {g : TG} {tb : TS} {D : Ends} {σ : St} {H : Hp} (Pv : Nat → St → Hp → Prop) (h0 : Pv 0 σ H) (hl : ∀ i σ H, Pv i σ H → SqT K H a xs)
    (hs : ∀ (i : Nat) (x : V) (σ : St) (H : Hp) (t : Addr), xs[i]? = some x → Pv i σ H → H t = none → g (.ref t) σ (upd H t (.tup [.int (i : Nat), x])) fun σ2 H2 => tb { D with nx := Pv (i + 1), ct := Pv (i + 1), bk := D.nx } σ2 H2)
    (hd : ∀ σ H, Pv xs.length σ H → D.nx σ H) : ForG (Ite K a) g tb D σ H := by
  refine ⟨fun i m σ H => Pv i σ H ∧ i ≤ xs.length ∧ m = xs.length - i, ⟨_, h0, Nat.zero_le _, rfl⟩, ?_⟩
  rintro i m σ H ⟨hp, hi, rfl⟩
  have sa := hl i σ H hp
  by_cases hin : i = xs.length
  · left
    subst hin
    exact ⟨⟨xs, sa, rfl⟩, hd σ H hp⟩
  · right
    have h1 : i < xs.length := by omega
    refine ⟨⟨xs, xs[i], sa, by simp [h1]⟩, fun σ' H' => Pv (i + 1) σ' H', fun σ' H' h => ⟨_, by omega, h, by omega, rfl⟩, ?_⟩
    rintro v H' ⟨t, x, ht, rfl, rfl, e1⟩
    exact hs i x σ H t (e1 xs sa) hp ht
noncomputable def Itv (K : PySem.W.Frag) (a : Addr) (n : Nat) : It :=
  ⟨fun i H => ∃ xs x, SqT K H a xs ∧ xs.length = n ∧ i < n ∧ xs[n - 1 - i]? = some x,
   fun i H v H' => H' = H ∧ ∀ xs, SqT K H a xs → xs[n - 1 - i]? = some v,
   fun i H => n ≤ i⟩
theorem turn_revT {P : Program} {w : World} {K : PySem.W.Frag} {tg : Expr} (a z : Addr) (n : Nat) :
    Turn P w K tg (Itv K a n) [z] z (fun i h => IsRevT h z a ((n : Int) - 1 - i)) where
  mem := by simp
  obj := fun i h st c hc => by
    rw [List.mem_singleton.mp hc]
    exact ⟨_, st, fun v z => by cases z⟩
  keep := fun i h h' st k => k z (by simp) _ st
  item := by
    intro X hP hw hK hc i pins s σ H E In hf st hg
    subst hP hw hK
    obtain ⟨xs, x, hq, hn, hi, hx⟩ := hg
    obtain ⟨its, rv, p, hz⟩ := In.tuple hq
    obtain ⟨u, hu, ru⟩ := rv.get hx
    have hl := rv.length
    have h63 : sizeLine = 16777216 := rfl
    have e1 : (n : Int) - 1 - i = ((n - 1 - i : Nat) : Int) := by omega
    rw [e1] at st
    obtain ⟨f0, f1, f2, f3, f4, f5⟩ := hf z (by simp)
    refine rev_next st (show s.heap.IsTuple a its.toArray from p) (x := u) (by simpa using hu) (by simp only [List.size_toArray]; omega) fun g tk g1 g2 => ?_
    have I1 : Inv X pins σ H { s with heap := g, toks := tk } := In.turned (t' := tk) (fun b o hb e => (g2.2 b hb).trans e) f0 f1 f3 f4 f5
    refine ⟨u, rfl, go_of (s := { s with heap := g, toks := tk }) g1 rfl rfl (by decide) ⟨x, H, I1, ru, ⟨rfl, fun ys hy => by rw [In.tuple_inj hy hq]; exact hx⟩, ?_, fun b hb => (hf b hb).1⟩⟩
    have e2 : ((n - 1 - i : Nat) : Int) - 1 = (n : Int) - 1 - ((i + 1 : Nat) : Int) := by omega
    rw [← e2]
    exact g1
  done := by
    intro X hP hw hK hc i pins s σ H E In hf st hg
    subst hP hw hK
    have hg : n ≤ i := hg
    obtain ⟨f0, f1, f2, f3, f4, f5⟩ := hf z (by simp)
    exact rev_end (In.ok.hd hc) st (by omega) fun g hk => ⟨rfl, In.turned (t' := s.toks) (fun b o hb e => hk b o hb e) f0 f1 f3 f4 f5⟩
  self := fun _ _ _ _ _ st h => rev_iter st h
noncomputable def iV (K : PySem.W.Frag) (ta : TA) : TI := fun σ H R => ta σ H fun vs H1 => ∃ a, vs = [.ref a] ∧ ∃ xs, H1 a = some (.tup xs) ∧ R (Itv K a xs.length) H1
theorem boot_rev' : bootBuiltins "reversed" = some (.type "reversed") := by decide +kernel
theorem pi_revT {e1 tg : Expr} {ta : TA} {p pos : Pos} (hK : X.K = K) (hg : Gl X "reversed") (hm : X.mg "reversed" = none) (ha : PA X [e1] ta) (hs : starEach [e1] X.env = [(false, eval e1 X.env)] := by rfl) :
    PI X tg (.Call (.Name "reversed" p) [e1] [] pos) (iV K ta) := by
  subst hK
  intro pins s σ H R I h
  refine Call_ (ld_blt I hg hm boot_rev' (PyProof.Rows.callWith_type1 (thn (ha pos pins s σ H _ I h) fun us s1 ⟨vs, H1, I1, r1, q1⟩ => ?_) (by rw [hs]; rfl) rfl))
  obtain ⟨a, e, xs, hxs, q⟩ := q1
  subst e
  obtain ⟨u, rfl, ru⟩ := vals1 r1
  cases ru
  obtain ⟨its, rv, pl, hz⟩ := I1.tuple (SqT.of hxs)
  have hl := rv.length
  have h63 := line63
  refine call_revT (show s1.heap.IsTuple a its.toArray from pl) (by simp only [List.size_toArray]; omega) fun g tk gr kg => ?_
  simp only [List.size_toArray] at gr
  rw [← hl] at gr
  have hfr : H1 s1.heap.objs.size = none := I1.hok.fresh (Nat.le_refl _)
  refine rev_iter (s := { s1 with heap := g, toks := tk }) gr ⟨s1.heap.objs.size, [s1.heap.objs.size], _, _, H1, rfl, I1.kept (t' := tk) kg, turn_revT a s1.heap.objs.size xs.length, by simpa using gr, fun c hc => ?_, q⟩
  rw [List.mem_singleton.mp hc]
  exact I1.fpOk (Nat.le_refl _) hfr
theorem wlk_rev {a : Addr} {xs : List V} : Wlk (Itv K a xs.length) xs.reverse (fun H => SqT K H a xs) :=
  ⟨fun i H h hi => by
    have hi : i < xs.length := by simpa using hi
    exact ⟨xs, xs[xs.length - 1 - i], h, rfl, hi, by simp⟩, fun i H x H' h hi y => ⟨by
    have hi : i < xs.length := by simpa using hi
    rw [List.getElem?_reverse hi]; exact y.2 xs h, y.1⟩, fun i H h hi => (by simpa using hi : xs.length ≤ i)⟩
end
end L2
namespace L2
open PySem PySem.Spec PyProof.Rows
section
variable {X : Cx}
noncomputable abbrev L3 := Str × Str × Int
noncomputable def tDGF (td ty : TE) : TE := fun σ H Q => td σ H fun x H1 => ty σ H1 fun y H2 => ∃ a, x = .ref a ∧ ∃ k, y = kV k ∧ ∃ o kvs v, H2 a = some (.frz o (.dK kvs)) ∧ valV kvs k = some v ∧ Q v H2
theorem pe_dgF {o i : Expr} {td ty : TE} {pos : Pos} (hu : X.A.units + 1 < cLine) (ho : PE X o td) (hi : PE X i ty) (hs : NoSl i) : PE X (.Subscript o i pos) (tDGF td ty) := by
  intro pins s σ H Q I h
  refine subD_of PySem.F.slot_dict_getitem.lookup hs (thn (ho pins s σ H _ I h) fun u s1 ⟨x, H1, I1, rx, q1⟩ => thn (hi pins s1 σ H1 _ I1 q1) fun iv s2 zr5332 => ?_)
  obtain ⟨y, H2, I2, ry, a, ex, k, ey, ob, kvs, v, hd, hv, q2⟩ := zr5332
  subst ex
  obtain rfl : u = Value.ref a := rx
  have g : DGet H2 a y (some v) := .inl ⟨kvs, k, .inr ⟨ob, hd⟩, ey, hv.symm⟩
  exact ⟨dict_typeIs I2 g, d_getItem hu I2 g ry fun w' s3 I3 rw' => ⟨v, H2, I3, rw', q2⟩⟩
end
end L2
namespace PySem
open L2 PyProof.Rows PySem.Calls
section
variable {prog : Program} {w : World} {A : Around} {E : Value → Shared → Prop} {s : Shared} {K : Type} [DecidableEq K] {knd : KeyKind prog w K} {d : Addr} {kvs : List (K × Value)} {ep : Nat}
theorem collect_dict {Q : List Value → Shared → Prop} (hh : A.handled = none) (lo : (d == sysModules) = false) (hm : s.heap.DictAt knd d kvs ep) (hn : kvs.length ≤ sizeLine)
    (k : ∀ (vs : List Value) (h' : Heap) (tk : Nat), vs.length = kvs.length → (∀ (j : Nat) v, vs[j]? = some v → ∃ q x, kvs[j]? = some (q, x) ∧ knd.is q v = true) → s.heap.objs.size < h'.objs.size → (∀ b o, s.heap.get? b = some o → h'.get? b = some o) → Q vs { s with heap := h', toks := tk }) : wpAny (model prog w) A (collect (.ref d)) Q E s := by
  unfold collect
  refine wpAny_bind (wpAny_runValue (codeAny_builtin PySem.F.entry_proto_collect ?_))
  rw [Around.under_plainId PySem.F.plain_proto_collect _]
  refine wpAny_bind (m := newList []) (wpAny_newObj_type (wpAny_pure ⟨plainId_quiet PySem.F.plain_list_iadd _, codeAny_builtin PySem.F.entry_list_iadd ?_⟩))
  rw [Around.under_plainId PySem.F.plain_list_iadd _]
  have hm1 := hm.push { cls := .type "list", data := .seq ([] : List Value).toArray }
  have gS : (s.heap.push { cls := .type "list", data := .seq ([] : List Value).toArray }).get? s.heap.objs.size = some { cls := .type "list", data := .seq ([] : List Value).toArray } := Heap.get?_push_size _ rfl
  have hne : s.heap.objs.size ≠ d := Nat.ne_of_gt hm.lt_size
  show wpAny _ A.in1 (Builtin.List.listExtendWith (.ref s.heap.objs.size) (.ref d) (.ref s.heap.objs.size)) _ _ _
  refine PySem.W.kdl_extend (R := fun r s' => match r with
      | Except.ok (Flow.ret v) => wpAny (model prog w) A (match v with
          | Value.ref a => do
            let o ← load a
            match o.data with
              | Data.seq xs _ => pure xs.toList
              | _ => unsupported "internal:collect"
          | _ => unsupported "internal:collect") Q E s'
      | Except.ok _ => False
      | Except.error e => E e s') (s := { s with heap := s.heap.push { cls := .type "list", data := .seq ([] : List Value).toArray } }) (PySem.W.kdl_dict (knd := knd) (kvs := kvs) (ep := ep) lo) hh hm1 _ hne hne _ 0 gS (fun h' tk acc c hk g hacc => ?_) hn
  refine wpAny_bind (wpAny_load g (wpAny_pure (k _ _ _ ?_ (fun j v e => ?_) (Heap.lt_size g) fun b o e => hk b o (Nat.ne_of_lt (Heap.lt_size e)) (Heap.get?_push_of_some _ e))))
  · rw [Array.length_toList]; exact hacc.1
  · exact hacc.2 j v (by rw [← Array.getElem?_toList]; exact e)
end
end PySem
namespace L2
open PySem PySem.Spec PyProof.Rows
noncomputable def tVarM (i : Nat) : TE := fun σ H Q => match σ[i]? with | some (some v) => Q v H | _ => False
theorem tVarM_of {i : Nat} {σ : St} {H : Hp} {Q : VK} (h : tVarM i σ H Q) : tVar i σ H Q := by
  unfold tVarM at h
  split at h
  · exact ⟨_, by assumption, h⟩
  · exact h.elim
theorem pvM {X : Cx} (i : Nat) {x : Str} {pos : Pos} (hN : X.N[i]? = some x := by rfl) (hv : Vis X.env.scope x := by first | exact Or.inl rfl | exact Or.inr (Or.inl rfl) | exact Or.inr (Or.inr rfl)) (hd : (x == ("__debug__" : Str)) = false := by decide)
    (hcd : (x == ("__classdict__" : Str)) = false := by decide) : PE X (.Name x pos) (tVarM i) := fun pins s σ H Q I h => pe_var hN hv hd hcd pins s σ H Q I (tVarM_of h)
end L2
namespace L2
open PySem PySem.Spec PyProof.Rows
section
variable {X : Cx}
noncomputable def ZTup (H : Hp) (p : Addr) (ys : List V) : Prop := ∃ o : Obj, o.dict = none ∧ H p = some (.frz o (.tup ys))
theorem ZTup.keep {H H' : Hp} {p : Addr} {ys : List V} (h : ZTup H p ys) (k : ∀ o u, H p = some (.frz o u) → H' p = some (.frz o u)) : ZTup H' p ys := by
  obtain ⟨o, d, h⟩ := h
  exact ⟨o, d, k _ _ h⟩
end
end L2
namespace PySem.W
open PySem PySem.Calls PyProof.Rows
inductive Ky where
  | s (x : Str) | i (n : Int) | r (l : List Int)
noncomputable def VKy (h : Heap) (v : Value) : Ky → Prop
  | .s x => ∃ t, v = .str x t
  | .i n => ∃ t, v = .int n t
  | .r l => ∃ a its, v = .ref a ∧ IsTup h a its.toArray ∧ IntsAre its l
end PySem.W
namespace L2
open PySem PySem.Spec PyProof.Rows
theorem kv_get {κ : Type} : ∀ {kvs : List (κ × V)} {vs : List (κ × Value)} {i : Nat} {k : κ} {v : V}, KV kvs vs → kvs[i]? = some (k, v) → ∃ u, vs[i]? = some (k, u) ∧ RelV v u
  | _, _, _, _, _, .nil, e => by simp at e
  | _, _, 0, k, v, .cons (b := b) h _, e => by
    simp only [List.getElem?_cons_zero, Option.some.injEq] at e
    subst e
    obtain ⟨k', u⟩ := b
    have e : k = k' := h.1
    subst e
    exact ⟨u, rfl, h.2⟩
  | _, _, i + 1, k, v, .cons _ t, e => by simpa using kv_get (i := i) t (by simpa using e)
end L2
namespace L2
open PySem PySem.Spec PyProof.Rows
noncomputable def st0 (m : Nat) (h : Int) : Nat × Nat := (SetTable.bits h % (m + 1), SetTable.bits h)
end L2
namespace PyProof.Rows
open PySem
noncomputable def gallop' : Bool → Keyed → Array Keyed → Nat → Nat → Nat → StateT SortSt Sem (Option Nat) := sortPriv% PySem.Builtin.gallop
noncomputable def beyond' (left : Bool) (key : Keyed) (arr : Array Keyed) (base i : Nat) : StateT SortSt Sem (Option Bool) := do
    let x ← elem' arr (base + i)
    if left then lt' x key else return (← lt' key x).map (!·)
section
variable {prog : Program} {w : World} {A : Around} {E : Value → Shared → Prop} {s : Shared}
theorem wpS_lt {st : SortSt} {x y : Keyed} {a b : Int} {t u : Tok} {Q : Option Bool → SortSt → Prop} (hk : kindOf st = oneType') (hx : x.1 = .int a t) (hy : y.1 = .int b u) (h : Q (some (decide (a < b))) st) :
    wpS (model prog w) A E s (lt' x y) Q st := by
  rw [lt'_eq]
  refine wpS_bind (wpS_get ?_)
  rw [hk, keyLt'_oneType, hx, hy]
  refine wpS_bind (wpS_lift (wpAny_attempt (oneLt_int ⟨rfl, ?_⟩)))
  exact wpS_pure h
theorem wpS_elem {st : SortSt} {arr : Array Keyed} {i : Nat} {x : Keyed} {Q : Keyed → SortSt → Prop} (hx : arr[i]? = some x) (h : Q x st) : wpS (model prog w) A E s (elem' arr i) Q st := by
  rw [elem'_eq, hx]; exact wpS_pure h
noncomputable def byd (left : Bool) (key : Keyed) (arr : Array Keyed) (base i : Nat) : Bool := if left then decide (K arr (base + i) < numOf key.1) else !decide (numOf key.1 < K arr (base + i))
theorem wpS_beyond {st : SortSt} {left : Bool} {key : Keyed} {arr : Array Keyed} {base i : Nat} {Q : Option Bool → SortSt → Prop} (hk : kindOf st = oneType') (hK : ∃ n t, key.1 = .int n t) (hA : IntKeys arr) (hi : base + i < arr.size)
    (h : Q (some (byd left key arr base i)) st) : wpS (model prog w) A E s (beyond' left key arr base i) Q st := by
  obtain ⟨n, t, hn⟩ := hK
  obtain ⟨m, u, hm⟩ := hA (arr[base + i]'hi) (by simp)
  have e : arr[base + i]? = some (arr[base + i]'hi) := Array.getElem?_eq_getElem hi
  have eK : K arr (base + i) = m := by unfold K; rw [e]; show numOf (arr[base + i]'hi).1 = m; rw [hm]; rfl
  unfold beyond'
  refine wpS_bind (wpS_elem e ?_)
  unfold byd at h
  rw [eK, hn] at h
  cases left with
  | true => simp only [if_true] at h ⊢; exact wpS_lt hk hm hn h
  | false => simp only [Bool.false_eq_true, if_false] at h ⊢; exact wpS_bind (wpS_lt hk hn hm (wpS_pure h))
theorem wpS_gallop {st : SortSt} {left : Bool} {key : Keyed} {arr : Array Keyed} {base n hint : Nat} {Q : Option Nat → SortSt → Prop} (hk : kindOf st = oneType') (hK : ∃ n t, key.1 = .int n t) (hA : IntKeys arr) (hb : base + n ≤ arr.size) (hh : hint < n)
    (hm : ∀ i j, i ≤ j → j < n → byd left key arr base j = true → byd left key arr base i = true)
    (h : ∀ r, r ≤ n → (∀ i, i < r → byd left key arr base i = true) → (∀ i, r ≤ i → i < n → byd left key arr base i = false) → Q (some r) st) : wpS (model prog w) A E s (gallop' left key arr base n hint) Q st := by
  have hf : ∀ i j, i ≤ j → j < n → byd left key arr base i = false → byd left key arr base j = false := fun i j a b c => by
    cases e : byd left key arr base j with
    | false => rfl
    | true => rw [hm i j a b e] at c; exact absurd c (by decide)
  refine wpS_bind (m := beyond' left key arr base hint) (wpS_beyond hk hK hA (by omega) ?_)
  dsimp only
  -- the last part: from lo to hi
  have last : ∀ (f : Nat → Option (Option Nat) × Nat × Nat → StateT SortSt Sem (ForInStep (Option (Option Nat) × Nat × Nat))) (lo hi : Nat),
      (∀ x l r R, l ≥ r → R (.done (none, l, r)) st → wpS (model prog w) A E s (f x (none, l, r)) R st) →
      (∀ x l r R, l < r → r ≤ n → R (if byd left key arr base (l + (r - l) / 2) = true then .yield (none, l + (r - l) / 2 + 1, r) else .yield (none, l, l + (r - l) / 2)) st → wpS (model prog w) A E s (f x (none, l, r)) R st) →
      lo ≤ hi → hi ≤ n → (∀ i, i < lo → byd left key arr base i = true) → (∀ i, hi ≤ i → i < n → byd left key arr base i = false) →
      wpS (model prog w) A E s (forIn [0:n] ((none, lo, hi) : Option (Option Nat) × Nat × Nat) f) (fun c st' => st' = st ∧ ∃ r, c = (none, r, r) ∧ r ≤ n ∧ (∀ i, i < r → byd left key arr base i = true) ∧ (∀ i, r ≤ i → i < n → byd left key arr base i = false)) st := by
    intro f lo hi ha hb hlh hhn h1 h2
    refine wpS_mono (wpS_forRange (I := fun x c st' => st' = st ∧ ∃ l r, c = (none, l, r) ∧ l ≤ r ∧ r ≤ n ∧ r - l ≤ n - x ∧ (∀ i, i < l → byd left key arr base i = true) ∧ (∀ i, r ≤ i → i < n → byd left key arr base i = false))
      (Q := fun c st' => st' = st ∧ ∃ l r, c = (none, l, r) ∧ l = r ∧ r ≤ n ∧ (∀ i, i < l → byd left key arr base i = true) ∧ (∀ i, r ≤ i → i < n → byd left key arr base i = false)) ?step ?fin ?init) ?post
    case init => exact ⟨rfl, lo, hi, rfl, hlh, hhn, by omega, h1, h2⟩
    case fin =>
      rintro c st' ⟨rfl, l, r, rfl, a, b, c, d, e⟩
      exact ⟨rfl, l, r, rfl, by omega, b, d, e⟩
    case step =>
      rintro x c st' _ hx ⟨rfl, l, r, rfl, a, b, c, d, e⟩
      by_cases hge : l ≥ r
      · exact ha x l r _ hge ⟨rfl, l, r, rfl, by omega, b, d, e⟩
      · refine hb x l r _ (by omega) b ?_
        cases ht : byd left key arr base (l + (r - l) / 2) with
        | true => exact ⟨rfl, _, r, rfl, by omega, b, by omega, fun i hi => hm i _ (show i ≤ l + (r - l) / 2 by omega) (by omega) ht, e⟩
        | false => exact ⟨rfl, l, _, rfl, by omega, by omega, by omega, d, fun i h1 h2 => hf _ i h1 h2 ht⟩
    case post =>
      rintro c st' ⟨rfl, l, r, rfl, rfl, b, d, e⟩
      exact ⟨rfl, l, rfl, b, d, e⟩
  cases hr : byd left key arr base hint with
  | true =>
    simp only [if_true]
    refine wpS_bind (wpS_mono (wpS_forRange (I := fun x c st' => st' = st ∧ ∃ l o, c = (none, l, o) ∧ x + 1 ≤ o ∧ l < o ∧ l < n - hint ∧ byd left key arr base (hint + l) = true)
      (Q := fun c st' => st' = st ∧ ∃ l o, c = (none, l, o) ∧ l < o ∧ l < n - hint ∧ byd left key arr base (hint + l) = true ∧ (o ≥ n - hint ∨ byd left key arr base (hint + o) = false)) ?step ?fin ?init) ?post)
    case init => exact ⟨rfl, 0, 1, rfl, by omega, by omega, by omega, hr⟩
    case fin =>
      rintro c st' ⟨rfl, l, o, rfl, a, b, c, d⟩
      exact ⟨rfl, l, o, rfl, b, c, d, .inl (by omega)⟩
    case step =>
      rintro x c st' _ hx ⟨rfl, l, o, rfl, a, b, c, d⟩
      dsimp only
      by_cases hge : o ≥ n - hint
      · rw [if_pos hge]; exact wpS_pure ⟨rfl, l, o, rfl, b, c, d, .inl hge⟩
      · rw [if_neg hge]
        refine wpS_bind (wpS_beyond hk hK hA (by omega) ?_)
        dsimp only
        cases ht : byd left key arr base (hint + o) with
        | true =>
          simp only [Bool.not_true, Bool.false_eq_true, if_false]
          exact wpS_pure ⟨rfl, o, _, rfl, by omega, by omega, by omega, ht⟩
        | false =>
          simp only [Bool.not_false, if_true]
          exact wpS_pure ⟨rfl, l, o, rfl, b, c, d, .inr ht⟩
    case post =>
      rintro c st' ⟨rfl, l, o, rfl, a, b, c, d⟩
      dsimp only
      refine wpS_bind (wpS_mono (last _ (hint + l + 1) (hint + min o (n - hint)) (fun x l r R hge hR => by dsimp only; rw [if_pos hge]; exact wpS_pure hR)
        (fun x l r R hlt hrn hR => by
          dsimp only
          rw [if_neg (by omega)]
          refine wpS_bind (wpS_beyond hk hK hA (by omega) ?_)
          dsimp only
          cases ht : byd left key arr base (l + (r - l) / 2) with
          | true => rw [ht] at hR; simp only [if_true] at hR ⊢; exact wpS_pure hR
          | false => rw [ht] at hR; simp only [Bool.false_eq_true, if_false] at hR ⊢; exact wpS_pure hR) (by omega) (by omega) (fun i hi => hm i _ (show i ≤ hint + l by omega) (by omega) c) (fun i h1 h2 => by
        rcases d with d | d
        · omega
        · exact hf _ i (show hint + o ≤ i by omega) h2 d)) fun c st' z => by
          obtain ⟨rfl, r, rfl, b, d, e⟩ := z
          exact wpS_pure (h r b d e))
  | false =>
    simp only [Bool.false_eq_true, if_false]
    refine wpS_bind (wpS_mono (wpS_forRange (I := fun x c st' => st' = st ∧ ∃ l o, c = (none, l, o) ∧ x + 1 ≤ o ∧ l < o ∧ l < hint + 1 ∧ byd left key arr base (hint - l) = false)
      (Q := fun c st' => st' = st ∧ ∃ l o, c = (none, l, o) ∧ l < o ∧ l < hint + 1 ∧ byd left key arr base (hint - l) = false ∧ (o ≥ hint + 1 ∨ byd left key arr base (hint - o) = true)) ?step ?fin ?init) ?post)
    case init => exact ⟨rfl, 0, 1, rfl, by omega, by omega, by omega, hr⟩
    case fin =>
      rintro c st' ⟨rfl, l, o, rfl, a, b, c, d⟩
      exact ⟨rfl, l, o, rfl, b, c, d, .inl (by omega)⟩
    case step =>
      rintro x c st' _ hx ⟨rfl, l, o, rfl, a, b, c, d⟩
      dsimp only
      by_cases hge : o ≥ hint + 1
      · rw [if_pos hge]; exact wpS_pure ⟨rfl, l, o, rfl, b, c, d, .inl hge⟩
      · rw [if_neg hge]
        refine wpS_bind (wpS_beyond hk hK hA (by omega) ?_)
        dsimp only
        cases ht : byd left key arr base (hint - o) with
        | false =>
          simp only [Bool.false_eq_true, if_false]
          exact wpS_pure ⟨rfl, o, _, rfl, by omega, by omega, by omega, ht⟩
        | true =>
          simp only [if_true]
          exact wpS_pure ⟨rfl, l, o, rfl, b, c, d, .inr ht⟩
    case post =>
      rintro c st' ⟨rfl, l, o, rfl, a, b, c, d⟩
      dsimp only
      refine wpS_bind (wpS_mono (last _ (hint + 1 - min o (hint + 1)) (hint - l) (fun x l r R hge hR => by dsimp only; rw [if_pos hge]; exact wpS_pure hR)
        (fun x l r R hlt hrn hR => by
          dsimp only
          rw [if_neg (by omega)]
          refine wpS_bind (wpS_beyond hk hK hA (by omega) ?_)
          dsimp only
          cases ht : byd left key arr base (l + (r - l) / 2) with
          | true => rw [ht] at hR; simp only [if_true] at hR ⊢; exact wpS_pure hR
          | false => rw [ht] at hR; simp only [Bool.false_eq_true, if_false] at hR ⊢; exact wpS_pure hR) (by omega) (by omega) (fun i hi => by
        rcases d with d | d
        · omega
        · exact hm i _ (show i ≤ hint - o by omega) (by omega) d) (fun i h1 h2 => hf _ i h1 h2 c)) fun c st' z => by
          obtain ⟨rfl, r, rfl, b, d, e⟩ := z
          exact wpS_pure (h r b d e))
end
end PyProof.Rows
namespace PyProof.Rows
open PySem
structure MI (R : Keyed → Keyed → Prop) (L1 L2 o : List Keyed) (i j : Nat) : Prop where
  perm : o.Perm (L1.take i ++ L2.take j)
  srt : o.Pairwise R
  l1 : ∀ x ∈ o, ∀ y ∈ L1.drop i, R x y
  l2 : ∀ x ∈ o, ∀ y ∈ L2.drop j, R x y
section
variable {R : Keyed → Keyed → Prop} {L1 L2 o : List Keyed} {i j : Nat}
theorem MI.symm (h : MI R L1 L2 o i j) : MI R L2 L1 o j i := ⟨h.perm.trans List.perm_append_comm, h.srt, h.l2, h.l1⟩
theorem MI.nil : MI R L1 L2 [] 0 0 := ⟨by simp, .nil, fun _ z => absurd z (by simp), fun _ z => absurd z (by simp)⟩
theorem MI.step (h : MI R L1 L2 o i j) (k : Nat) (s1 : L1.Pairwise R) (hx : ∀ x ∈ (L1.drop i).take k, ∀ y ∈ L2.drop j, R x y) : MI R L1 L2 (o ++ (L1.drop i).take k) (i + k) j := by
  have sd : (L1.drop i).Pairwise R := s1.sublist (List.drop_sublist _ _)
  have e : L1.drop (i + k) = (L1.drop i).drop k := by rw [List.drop_drop]
  refine ⟨?_, ?_, ?_, ?_⟩
  · rw [List.take_add, List.append_assoc]
    refine (h.perm.append_right _).trans ?_
    rw [List.append_assoc]
    exact List.Perm.append_left _ List.perm_append_comm
  · exact List.pairwise_append.mpr ⟨h.srt, sd.sublist (List.take_sublist _ _), fun x a y b => h.l1 x a y (List.mem_of_mem_take b)⟩
  · intro x a y b
    rw [e] at b
    rcases List.mem_append.mp a with a | a
    · exact h.l1 x a y (List.mem_of_mem_drop b)
    · have := List.take_append_drop k (L1.drop i)
      rw [← this] at sd
      exact (List.pairwise_append.mp sd).2.2 x a y b
  · intro x a y b
    rcases List.mem_append.mp a with a | a
    · exact h.l2 x a y b
    · exact hx x a y b
theorem MI.one (h : MI R L1 L2 o i j) {x : Keyed} (s1 : L1.Pairwise R) (e : L1[i]? = some x) (hx : ∀ y ∈ L2.drop j, R x y) : MI R L1 L2 (o ++ [x]) (i + 1) j := by
  have e1 : (L1.drop i).take 1 = [x] := by
    obtain ⟨hl, e⟩ := List.getElem?_eq_some_iff.mp e
    rw [List.drop_eq_getElem_cons hl, e]; rfl
  have := h.step 1 s1 (by rw [e1]; intro z hz; rw [List.mem_singleton.mp hz]; exact hx)
  rw [e1] at this
  exact this
theorem MI.fin (h : MI R L1 L2 o i j) (hs : (L1.drop i ++ L2.drop j).Pairwise R) : (o ++ (L1.drop i ++ L2.drop j)).Perm (L1 ++ L2) ∧ (o ++ (L1.drop i ++ L2.drop j)).Pairwise R := by
  refine ⟨?_, List.pairwise_append.mpr ⟨h.srt, hs, fun x a y b => ?_⟩⟩
  · refine (h.perm.append_right _).trans ?_
    have e1 := List.take_append_drop i L1
    have e2 := List.take_append_drop j L2
    generalize L1.take i = A at *
    generalize L1.drop i = B at *
    generalize L2.take j = C at *
    generalize L2.drop j = D at *
    subst e1 e2
    rw [List.append_assoc, List.append_assoc]
    refine List.Perm.append_left _ ?_
    rw [← List.append_assoc, ← List.append_assoc]
    exact List.Perm.append_right _ List.perm_append_comm
  · rcases List.mem_append.mp b with b | b
    · exact h.l1 x a y b
    · exact h.l2 x a y b
theorem srt_drop (rf : ∀ x, R x x) (s1 : L1.Pairwise R) {x : Keyed} (e : L1[i]? = some x) : ∀ y ∈ L1.drop i, R x y := by
  obtain ⟨hl, e⟩ := List.getElem?_eq_some_iff.mp e
  have sd : (L1.drop i).Pairwise R := s1.sublist (List.drop_sublist _ _)
  rw [List.drop_eq_getElem_cons hl, e] at sd ⊢
  intro y hy
  rcases List.mem_cons.mp hy with rfl | hy
  · exact rf _
  · exact (List.pairwise_cons.mp sd).1 y hy
end
noncomputable def kle (x y : Keyed) : Prop := numOf x.1 ≤ numOf y.1
theorem kle_tr (x y z : Keyed) (a : kle x y) (b : kle y z) : kle x z := Int.le_trans a b
theorem kle_rf (x : Keyed) : kle x x := Int.le_refl _
theorem K_at {a : Array Keyed} {i : Nat} {x : Keyed} (e : a[i]? = some x) : K a i = numOf x.1 := by unfold K; rw [e]
theorem ext_drop {a : Array Keyed} {i : Nat} : (a.extract i a.size).toList = a.toList.drop i := by
  rw [Array.toList_extract, List.extract, List.take_of_length_le (by rw [List.length_drop, Array.length_toList]; omega)]
theorem ext_mid {a : Array Keyed} {i k : Nat} : (a.extract i (i + k)).toList = (a.toList.drop i).take k := by
  rw [Array.toList_extract]; simp [List.extract]
noncomputable abbrev setG (st : SortSt) (g : Nat) : SortSt := SortSt.mk' (kindOf st) (arrOf st) (pendingOf st) g (failedOf st)
noncomputable def mergeLo' : Array Keyed → Array Keyed → StateT SortSt Sem (Array Keyed) := sortPriv% PySem.Builtin.mergeLo
noncomputable def mergeHi' : Array Keyed → Array Keyed → StateT SortSt Sem (Array Keyed) := sortPriv% PySem.Builtin.mergeHi
noncomputable def MFin (a b r : Array Keyed) : Prop := r.toList.Perm (a.toList ++ b.toList) ∧ r.toList.Pairwise kle
noncomputable def MB (a b : Array Keyed) (n : Nat) (o : Array Keyed) (i j : Nat) : Prop := MI kle a.toList b.toList o.toList i j ∧ i + 1 < a.size ∧ j < b.size ∧ n < i + j
section
variable {a b o : Array Keyed} {i j n : Nat}
theorem lo_done (sa : a.toList.Pairwise kle) (sb : b.toList.Pairwise kle) (hM : MI kle a.toList b.toList o.toList i j) (hz : i = a.size ∨ j = b.size) : MFin a b (o ++ a.extract i a.size ++ b.extract j b.size) := by
  unfold MFin
  rw [Array.toList_append, Array.toList_append, ext_drop, ext_drop, List.append_assoc]
  refine hM.fin ?_
  rcases hz with rfl | rfl
  · rw [List.drop_of_length_le (by simp), List.nil_append]; exact sb.sublist (List.drop_sublist _ _)
  · rw [List.drop_of_length_le (l := b.toList) (by simp), List.append_nil]; exact sa.sublist (List.drop_sublist _ _)
theorem lo_last {xl : Keyed} (sb : b.toList.Pairwise kle) (el : a[a.size - 1]? = some xl) (fl : ∀ y ∈ b.toList, kle y xl) (hM : MI kle a.toList b.toList o.toList i j) (hz : i + 1 = a.size) : MFin a b (o ++ b.extract j b.size ++ a.extract i a.size) := by
  unfold MFin
  rw [Array.toList_append, Array.toList_append, ext_drop, ext_drop, List.append_assoc]
  have e1 : a.toList.drop i = [xl] := by
    have e : a.toList[i]? = some xl := by rw [Array.getElem?_toList, ← el]; congr 1; omega
    obtain ⟨hl, e⟩ := List.getElem?_eq_some_iff.mp e
    rw [List.drop_eq_getElem_cons hl, e, List.drop_of_length_le (by simp; omega)]
  have := hM.symm.fin (by
    rw [e1]
    exact List.pairwise_append.mpr ⟨sb.sublist (List.drop_sublist _ _), List.pairwise_singleton _ _, fun x hx y hy => by rw [List.mem_singleton.mp hy]; exact fl x (List.mem_of_mem_drop hx)⟩)
  exact ⟨this.1.trans List.perm_append_comm, this.2⟩
theorem push_a {x : Keyed} (sa : a.toList.Pairwise kle) (hM : MI kle a.toList b.toList o.toList i j) (e : a[i]? = some x) (hx : ∀ y ∈ b.toList.drop j, kle x y) : MI kle a.toList b.toList (o.push x).toList (i + 1) j := by
  rw [Array.toList_push]; exact hM.one sa (by rw [Array.getElem?_toList]; exact e) hx
theorem push_b {x : Keyed} (sb : b.toList.Pairwise kle) (hM : MI kle a.toList b.toList o.toList i j) (e : b[j]? = some x) (hx : ∀ y ∈ a.toList.drop i, kle x y) : MI kle a.toList b.toList (o.push x).toList i (j + 1) := (push_a sb hM.symm e hx).symm
theorem many_a {k : Nat} (sa : a.toList.Pairwise kle) (hM : MI kle a.toList b.toList o.toList i j) (hx : ∀ x ∈ (a.toList.drop i).take k, ∀ y ∈ b.toList.drop j, kle x y) : MI kle a.toList b.toList (o ++ a.extract i (i + k)).toList (i + k) j := by
  rw [Array.toList_append, ext_mid]; exact hM.step k sa hx
theorem many_b {k : Nat} (sb : b.toList.Pairwise kle) (hM : MI kle a.toList b.toList o.toList i j) (hx : ∀ x ∈ (b.toList.drop j).take k, ∀ y ∈ a.toList.drop i, kle x y) : MI kle a.toList b.toList (o ++ b.extract j (j + k)).toList i (j + k) := (many_a sb hM.symm hx).symm
theorem at_lt (h : i < a.size) : ∃ x, a[i]? = some x := ⟨_, Array.getElem?_eq_getElem h⟩
theorem mem_drop_at {y : Keyed} (h : y ∈ a.toList.drop i) : ∃ m, i ≤ m ∧ m < a.size ∧ a[m]? = some y := by
  obtain ⟨m, hm, e⟩ := List.getElem_of_mem h
  rw [List.length_drop, Array.length_toList] at hm
  exact ⟨i + m, by omega, by omega, by rw [← Array.getElem?_toList, ← e, List.getElem_drop]; exact List.getElem?_eq_getElem _⟩
theorem mem_take_at {y : Keyed} {k : Nat} (h : y ∈ (a.toList.drop i).take k) : ∃ m, i ≤ m ∧ m < i + k ∧ m < a.size ∧ a[m]? = some y := by
  obtain ⟨m, hm, e⟩ := List.getElem_of_mem h
  rw [List.length_take, List.length_drop, Array.length_toList] at hm
  exact ⟨i + m, by omega, by omega, by omega, by rw [← Array.getElem?_toList, ← e, List.getElem_take, List.getElem_drop]; exact List.getElem?_eq_getElem _⟩
theorem IntKeys.at {x : Keyed} (h : IntKeys a) (e : a[i]? = some x) : ∃ n t, x.1 = .int n t := h x (by obtain ⟨hl, e⟩ := Array.getElem?_eq_some_iff.mp e; rw [← e]; simp)
theorem srt_K (sa : a.toList.Pairwise kle) : ∀ i j, i ≤ j → j < a.size → K a i ≤ K a j := fun i j hij hj => by
  obtain ⟨y, hy⟩ := at_lt hj
  obtain ⟨x, hx⟩ := at_lt (show i < a.size by omega)
  rw [K_at hx, K_at hy]
  refine srt_drop (R := kle) kle_rf sa (i := i) (by rw [Array.getElem?_toList]; exact hx) y ?_
  have e : a.toList[j]? = some y := by rw [Array.getElem?_toList]; exact hy
  exact List.mem_of_getElem? (i := j - i) (by rw [List.getElem?_drop, ← e]; congr 1; omega)
end
section
variable {prog : Program} {w : World} {A : Around} {E : Value → Shared → Prop} {s : Shared}
theorem wpS_right {st : SortSt} {a : Array Keyed} {x : Keyed} {i n hint : Nat} {Q : Option Nat → SortSt → Prop} (hk : kindOf st = oneType') (hx : ∃ n t, x.1 = .int n t) (ha : IntKeys a) (sa : ∀ p q, i ≤ p → p ≤ q → q < i + n → K a p ≤ K a q) (hi : i + n ≤ a.size) (hh : hint < n)
    (h : ∀ k, k ≤ n → (∀ m, i ≤ m → m < i + k → K a m ≤ numOf x.1) → (∀ m, i + k ≤ m → m < i + n → numOf x.1 < K a m) → Q (some k) st) : wpS (model prog w) A E s (gallop' false x a i n hint) Q st := by
  refine wpS_gallop hk hx ha hi hh (fun p q hpq hq hb => ?_) fun r hr h1 h2 => h r hr (fun m a1 a2 => ?_) fun m a1 a2 => ?_
  · simp only [byd, Bool.false_eq_true, if_false, Bool.not_eq_true', decide_eq_false_iff_not, Int.not_lt] at hb ⊢
    exact Int.le_trans (sa _ _ (by omega) (by omega) (by omega)) hb
  · have := h1 (m - i) (by omega)
    simp only [byd, Bool.false_eq_true, if_false, Bool.not_eq_true', decide_eq_false_iff_not, Int.not_lt] at this
    rwa [show i + (m - i) = m by omega] at this
  · have := h2 (m - i) (by omega) (by omega)
    simp only [byd, Bool.false_eq_true, if_false, Bool.not_eq_false', decide_eq_true_eq] at this
    rwa [show i + (m - i) = m by omega] at this
theorem wpS_left {st : SortSt} {a : Array Keyed} {x : Keyed} {i n hint : Nat} {Q : Option Nat → SortSt → Prop} (hk : kindOf st = oneType') (hx : ∃ n t, x.1 = .int n t) (ha : IntKeys a) (sa : ∀ p q, i ≤ p → p ≤ q → q < i + n → K a p ≤ K a q) (hi : i + n ≤ a.size) (hh : hint < n)
    (h : ∀ k, k ≤ n → (∀ m, i ≤ m → m < i + k → K a m < numOf x.1) → (∀ m, i + k ≤ m → m < i + n → numOf x.1 ≤ K a m) → Q (some k) st) : wpS (model prog w) A E s (gallop' true x a i n hint) Q st := by
  refine wpS_gallop hk hx ha hi hh (fun p q hpq hq hb => ?_) fun r hr h1 h2 => h r hr (fun m a1 a2 => ?_) fun m a1 a2 => ?_
  · simp only [byd, if_true, decide_eq_true_eq] at hb ⊢
    exact Int.lt_of_le_of_lt (sa _ _ (by omega) (by omega) (by omega)) hb
  · have := h1 (m - i) (by omega)
    simp only [byd, if_true, decide_eq_true_eq] at this
    rwa [show i + (m - i) = m by omega] at this
  · have := h2 (m - i) (by omega) (by omega)
    simp only [byd, if_true, decide_eq_false_iff_not, Int.not_lt] at this
    rwa [show i + (m - i) = m by omega] at this
theorem wpS_mergeLo {st : SortSt} {a b : Array Keyed} {x0 xl : Keyed} {Q : Array Keyed → SortSt → Prop} (hk : kindOf st = oneType') (ha : IntKeys a) (hb : IntKeys b) (sa : a.toList.Pairwise kle) (sb : b.toList.Pairwise kle)
    (e0 : b[0]? = some x0) (f0 : ∀ y ∈ a.toList, kle x0 y) (el : a[a.size - 1]? = some xl) (fl : ∀ y ∈ b.toList, kle y xl)
    (h : ∀ (r : Array Keyed) g, MFin a b r → Q r (setG st g)) : wpS (model prog w) A E s (mergeLo' a b) Q st := by
  have z1 : 0 < b.size := by obtain ⟨h, _⟩ := Array.getElem?_eq_some_iff.mp e0; exact h
  have z2 : 0 < a.size := by obtain ⟨h, _⟩ := Array.getElem?_eq_some_iff.mp el; omega
  unfold mergeLo'
  refine wpS_bind (wpS_lift (wpAny_rule ⟨rfl, ?_⟩))
  refine wpS_bind (m := elem' b 0) (wpS_elem e0 ?_)
  dsimp only
  have h' : ∀ r, MFin a b r → Q r st := fun r z => h r (gallopOf st) z
  have hM0 : MI kle a.toList b.toList (#[x0] : Array Keyed).toList 0 1 := push_b (o := #[]) sb MI.nil e0 f0
  by_cases c1 : 1 = b.size
  · rw [if_pos (by simpa using c1)]; exact wpS_pure (h' _ (lo_done sa sb hM0 (.inr c1)))
  rw [if_neg (by simpa using c1)]
  by_cases c2 : 0 + 1 = a.size
  · rw [if_pos (by simpa using c2)]; exact wpS_pure (h' _ (lo_last sb el fl hM0 c2))
  rw [if_neg (by simpa using c2)]
  refine wpS_bind (wpS_get ?_)
  refine wpS_bind (wpS_mono (wpS_forRange (I := fun x c st' => (∃ g, st' = setG st g) ∧ ∃ o i j mg, c = (none, o, i, j, mg) ∧ MB a b x o i j) (Q := fun c st' => (∃ g, st' = setG st g) ∧ ∃ r y, c = (some r, y) ∧ MFin a b r) ?step ?fin ?init) ?post)
  case init => exact ⟨⟨_, rfl⟩, _, _, _, _, rfl, hM0, by omega, by omega, by omega⟩
  case fin =>
    rintro c st' ⟨_, o, i, j, mg, _, _, q1, q2, q3⟩
    omega
  case post =>
    rintro c st' ⟨⟨g, rfl⟩, r, y, rfl, hr⟩
    exact wpS_pure (h r g hr)
  case step =>
    rintro x c st' _ hx ⟨⟨g, rfl⟩, o, i, j, mg, rfl, hB⟩
    dsimp only
    refine wpS_bind (wpS_mono (wpS_forRange (I := fun y c st' => (∃ g, st' = setG st g) ∧ ∃ o i j z, c = (none, o, i, j, z) ∧ MB a b (x + y) o i j)
      (Q := fun c st' => (∃ g, st' = setG st g) ∧ ((∃ r y, c = (some r, y) ∧ MFin a b r) ∨ ∃ o i j z, c = (none, o, i, j, z) ∧ MB a b x o i j)) ?step1 ?fin1 ?init1) ?post1)
    case init1 => exact ⟨⟨_, rfl⟩, _, _, _, _, rfl, hB⟩
    case fin1 =>
      rintro c st' ⟨_, o, i, j, z, _, _, q1, q2, q3⟩
      omega
    case step1 =>
      rintro y c st' _ hy ⟨⟨g, rfl⟩, o, i, j, ⟨ac, bc⟩, rfl, hM, q1, q2, q3⟩
      dsimp only
      obtain ⟨xb, eb⟩ := at_lt q2
      obtain ⟨xa, ea⟩ := at_lt (show i < a.size by omega)
      obtain ⟨nb, tb, kb⟩ := hb.at eb
      obtain ⟨na, ta, ka⟩ := ha.at ea
      refine wpS_bind (m := elem' b j) (wpS_elem eb ?_)
      refine wpS_bind (m := elem' a i) (wpS_elem ea ?_)
      refine wpS_bind (m := lt' xb xa) (wpS_lt hk kb ka ?_)
      dsimp only
      by_cases hlt : nb < na
      · simp only [hlt, decide_true, if_true]
        refine wpS_bind (m := elem' b j) (wpS_elem eb ?_)
        have hM1 := push_b sb hM eb fun y hy => kle_tr _ xa _ (by show numOf xb.1 ≤ numOf xa.1; rw [kb, ka]; exact Int.le_of_lt hlt) (srt_drop kle_rf sa (by rw [Array.getElem?_toList]; exact ea) y hy)
        by_cases c1 : j + 1 = b.size
        · rw [if_pos (by simpa using c1)]; exact wpS_pure ⟨⟨_, rfl⟩, .inl ⟨_, _, rfl, lo_done sa sb hM1 (.inr c1)⟩⟩
        rw [if_neg (by simpa using c1)]
        split
        · exact wpS_pure ⟨⟨_, rfl⟩, .inr ⟨_, _, _, _, rfl, hM1, q1, by omega, by omega⟩⟩
        · exact wpS_pure ⟨⟨_, rfl⟩, _, _, _, _, rfl, hM1, q1, by omega, by omega⟩
      · simp only [hlt, decide_false, Bool.false_eq_true, if_false]
        refine wpS_bind (m := elem' a i) (wpS_elem ea ?_)
        have hM1 := push_a sa hM ea fun y hy => kle_tr _ xb _ (by show numOf xa.1 ≤ numOf xb.1; rw [kb, ka]; exact Int.not_lt.mp hlt) (srt_drop kle_rf sb (by rw [Array.getElem?_toList]; exact eb) y hy)
        by_cases c1 : i + 1 + 1 = a.size
        · rw [if_pos (by simpa using c1)]; exact wpS_pure ⟨⟨_, rfl⟩, .inl ⟨_, _, rfl, lo_last sb el fl hM1 c1⟩⟩
        rw [if_neg (by simpa using c1)]
        split
        · exact wpS_pure ⟨⟨_, rfl⟩, .inr ⟨_, _, _, _, rfl, hM1, by omega, by omega, by omega⟩⟩
        · exact wpS_pure ⟨⟨_, rfl⟩, _, _, _, _, rfl, hM1, by omega, by omega, by omega⟩
    case post1 =>
      rintro c st' ⟨⟨g, rfl⟩, ⟨r, y, rfl, hr⟩ | ⟨o, i, j, ⟨ac, bc⟩, rfl, hB⟩⟩
      · exact wpS_pure ⟨⟨_, rfl⟩, _, _, rfl, hr⟩
      dsimp only
      refine wpS_bind (wpS_lift (wpAny_rule ⟨rfl, ?_⟩))
      refine wpS_bind (wpS_mono (wpS_forRange (I := fun y c st' => (∃ g, st' = setG st g) ∧ ∃ o i j z, c = (none, o, i, j, z) ∧ MB a b (x + y) o i j)
        (Q := fun c st' => (∃ g, st' = setG st g) ∧ ((∃ r y, c = (some r, y) ∧ MFin a b r) ∨ ∃ o i j z, c = (none, o, i, j, z) ∧ MB a b (x + 1) o i j)) ?step2 ?fin2 ?init2) ?post2)
      case init2 => exact ⟨⟨_, rfl⟩, _, _, _, _, rfl, hB⟩
      case fin2 =>
        rintro c st' ⟨_, o, i, j, z, _, _, q1, q2, q3⟩
        omega
      case post2 =>
        rintro c st' ⟨⟨g, rfl⟩, ⟨r, y, rfl, hr⟩ | ⟨o, i, j, ⟨mg, ac, bc⟩, rfl, hB⟩⟩
        · exact wpS_pure ⟨⟨_, rfl⟩, _, _, rfl, hr⟩
        · exact wpS_bind (wpS_modify (wpS_pure ⟨⟨_, rfl⟩, _, _, _, _, rfl, hB⟩))
      case step2 =>
        rintro y c st' _ hy ⟨⟨g, rfl⟩, o, i, j, ⟨mg, ac, bc⟩, rfl, hM, q1, q2, q3⟩
        dsimp only
        obtain ⟨xb, eb⟩ := at_lt q2
        have ib := hb.at eb
        by_cases hmg : mg > 1
        case' pos => rw [if_pos hmg]
        case' neg => rw [if_neg hmg]
        all_goals
          refine wpS_bind (wpS_modify ?_)
          refine wpS_bind (m := elem' b j) (wpS_elem eb ?_)
          refine wpS_bind (m := gallop' false xb a i (a.size - i) 0) (wpS_right hk ib ha (fun p q _ u v => srt_K sa p q u (by omega)) (by omega) (by omega) fun k hk1 hk2 hk3 => ?_)
          dsimp only
          have hM1 := many_a (k := k) sa hM fun u hu v hv => by
            obtain ⟨m, m1, m2, m3, em⟩ := mem_take_at hu
            refine kle_tr _ xb _ ?_ (srt_drop kle_rf sb (by rw [Array.getElem?_toList]; exact eb) v hv)
            have := hk2 m m1 m2
            rw [K_at em] at this
            exact this
          have hb1 : ∀ v ∈ a.toList.drop (i + k), kle xb v := fun v hv => by
            obtain ⟨m, m1, m2, em⟩ := mem_drop_at hv
            have := hk3 m m1 (by omega)
            rw [K_at em] at this
            exact Int.le_of_lt this
          have hq3 : x + y < i + k + j := by omega
          rcases Nat.eq_zero_or_pos k with hk0 | hk0
          case' inl =>
            subst hk0
            rw [if_neg (by omega)]
            have hM1 := hM
            have hb1 : ∀ v ∈ a.toList.drop i, kle xb v := hb1
            have hi1 : i + 1 < a.size := q1
            have hq3 : x + y < i + j := q3
            clear hM hk2 hk3 q1 q3
          case' inr =>
            rw [if_pos hk0]
            by_cases c1 : i + k + 1 = a.size
            · rw [if_pos (by simpa using c1)]; exact wpS_pure ⟨⟨_, rfl⟩, .inl ⟨_, _, rfl, lo_last sb el fl hM1 c1⟩⟩
            rw [if_neg (by simpa using c1)]
            by_cases c2 : i + k = a.size
            · rw [if_pos (by simpa using c2)]; exact wpS_pure ⟨⟨_, rfl⟩, .inl ⟨_, _, rfl, lo_done sa sb hM1 (.inl c2)⟩⟩
            rw [if_neg (by simpa using c2)]
            have hi1 : i + k + 1 < a.size := by omega
            clear hM hk2 hk3 q1 q3
            generalize o ++ a.extract i (i + k) = o at *
            clear c1 c2 hk1
            generalize i + k = i at *
          all_goals
            refine wpS_bind (m := elem' b j) (wpS_elem eb ?_)
            have hM2 := push_b sb hM1 eb hb1
            clear hM1
            by_cases c1 : j + 1 = b.size
            · rw [if_pos (by simpa using c1)]; exact wpS_pure ⟨⟨_, rfl⟩, .inl ⟨_, _, rfl, lo_done sa sb hM2 (.inr c1)⟩⟩
            rw [if_neg (by simpa using c1)]
            obtain ⟨xa, ea⟩ := at_lt (show i < a.size by omega)
            have ia := ha.at ea
            refine wpS_bind (m := elem' a i) (wpS_elem ea ?_)
            refine wpS_bind (m := gallop' true xa b (j + 1) (b.size - (j + 1)) 0) (wpS_left hk ia hb (fun p q _ u v => srt_K sb p q u (by omega)) (by omega) (by omega) fun l hl1 hl2 hl3 => ?_)
            dsimp only
            have hM3 := many_b (k := l) sb hM2 fun u hu v hv => by
              obtain ⟨m, m1, m2, m3, em⟩ := mem_take_at hu
              refine kle_tr _ xa _ ?_ (srt_drop kle_rf sa (by rw [Array.getElem?_toList]; exact ea) v hv)
              have := hl2 m m1 m2
              rw [K_at em] at this
              exact Int.le_of_lt this
            have ha1 : ∀ v ∈ b.toList.drop (j + 1 + l), kle xa v := fun v hv => by
              obtain ⟨m, m1, m2, em⟩ := mem_drop_at hv
              have := hl3 m m1 (by omega)
              rw [K_at em] at this
              exact this
            rcases Nat.eq_zero_or_pos l with hl0 | hl0
            case' inl =>
              subst hl0
              rw [if_neg (by omega)]
              have hM3 := hM2
              have ha1 : ∀ v ∈ b.toList.drop (j + 1), kle xa v := ha1
              have hj1 : j + 1 < b.size := by omega
              have hq4 : x + y < i + (j + 1) := by omega
            case' inr =>
              rw [if_pos hl0]
              by_cases c2 : j + 1 + l = b.size
              · rw [if_pos (by simpa using c2)]; exact wpS_pure ⟨⟨_, rfl⟩, .inl ⟨_, _, rfl, lo_done sa sb hM3 (.inr c2)⟩⟩
              rw [if_neg (by simpa using c2)]
              have hj1 : j + 1 + l < b.size := by omega
              have hq4 : x + y < i + (j + 1 + l) := by omega
            all_goals
              refine wpS_bind (m := elem' a i) (wpS_elem ea ?_)
              have hM4 := push_a sa hM3 ea ha1
              by_cases c3 : i + 1 + 1 = a.size
              · rw [if_pos (by simpa using c3)]; exact wpS_pure ⟨⟨_, rfl⟩, .inl ⟨_, _, rfl, lo_last sb el fl hM4 c3⟩⟩
              rw [if_neg (by simpa using c3)]
              split
              · exact wpS_pure ⟨⟨_, rfl⟩, .inr ⟨_, _, _, _, rfl, hM4, by omega, hj1, by omega⟩⟩
              · exact wpS_pure ⟨⟨_, rfl⟩, _, _, _, _, rfl, hM4, by omega, hj1, by omega⟩
end
end PyProof.Rows
namespace PyProof.Rows
open PySem
noncomputable def kge (x y : Keyed) : Prop := kle y x
structure MH (a b o : Array Keyed) (na nb : Nat) : Prop where
  mi : MI kge a.toList.reverse b.toList.reverse o.toList (a.size - na) (b.size - nb)
  la : na ≤ a.size
  lb : nb ≤ b.size
section
variable {a b o : Array Keyed} {na nb n : Nat}
theorem MH.symm (h : MH a b o na nb) : MH b a o nb na := ⟨h.mi.symm, h.lb, h.la⟩
theorem rev_srt (sa : a.toList.Pairwise kle) : a.toList.reverse.Pairwise kge := List.pairwise_reverse.mpr sa
theorem rev_drop (h : na ≤ a.size) : a.toList.reverse.drop (a.size - na) = (a.toList.take na).reverse := by
  rw [List.reverse_take, Array.length_toList]
theorem ext_to : (a.extract 0 na).toList = a.toList.take na := by
  rw [Array.toList_extract]; simp [List.extract]
theorem ext_at {k : Nat} : (a.extract k na).toList = (a.toList.take na).drop k := by
  rw [Array.toList_extract, List.extract, List.drop_take]
theorem MH.many {k : Nat} (h : MH a b o na nb) (sa : a.toList.Pairwise kle) (hk : k ≤ na) (hx : ∀ x ∈ (a.toList.take na).drop k, ∀ y ∈ b.toList.take nb, kle y x) : MH a b (o ++ (a.extract k na).reverse) k nb := by
  have la := h.la
  have e1 : (a.toList.reverse.drop (a.size - na)).take (na - k) = ((a.toList.take na).drop k).reverse := by
    rw [rev_drop h.la, List.take_reverse]
    congr 2
    rw [List.length_take, Array.length_toList]
    omega
  have := h.mi.step (na - k) (rev_srt sa) (by
    rw [e1, rev_drop h.lb]
    intro x hx1 y hy
    exact hx x (List.mem_reverse.mp hx1) y (List.mem_reverse.mp hy))
  rw [e1, show a.size - na + (na - k) = a.size - k by omega] at this
  refine ⟨?_, by omega, h.lb⟩
  rw [Array.toList_append, Array.toList_reverse, ext_at]
  exact this
theorem MH.one {x : Keyed} (h : MH a b o na nb) (sa : a.toList.Pairwise kle) (h0 : 0 < na) (e : a[na - 1]? = some x) (hx : ∀ y ∈ b.toList.take nb, kle y x) : MH a b (o.push x) (na - 1) nb := by
  have la := h.la
  have e1 : (a.toList.take na).drop (na - 1) = [x] := by
    have e : (a.toList.take na)[na - 1]? = some x := by rw [List.getElem?_take_of_lt (by omega), Array.getElem?_toList]; exact e
    obtain ⟨hl, e⟩ := List.getElem?_eq_some_iff.mp e
    rw [List.drop_eq_getElem_cons hl, e, List.drop_of_length_le (by simp; omega)]
  have := h.many (k := na - 1) sa (by omega) (by rw [e1]; intro z hz; rw [List.mem_singleton.mp hz]; exact hx)
  have e2 : (o ++ (a.extract (na - 1) na).reverse).toList = (o.push x).toList := by rw [Array.toList_append, Array.toList_reverse, ext_at, e1, Array.toList_push]; rfl
  exact ⟨e2 ▸ this.mi, this.la, this.lb⟩
theorem MH.fin (h : MH a b o na nb) (hs : ((b.toList.take nb) ++ a.toList.take na).Pairwise kle) : MFin a b (b.extract 0 nb ++ a.extract 0 na ++ o.reverse) := by
  have e : (b.extract 0 nb ++ a.extract 0 na ++ o.reverse).toList = (o.toList ++ (a.toList.reverse.drop (a.size - na) ++ b.toList.reverse.drop (b.size - nb))).reverse := by
    rw [Array.toList_append, Array.toList_append, Array.toList_reverse, ext_to, ext_to, rev_drop h.la, rev_drop h.lb, List.reverse_append, List.reverse_append, List.reverse_reverse, List.reverse_reverse]
  have f := h.mi.fin (by
    rw [rev_drop h.la, rev_drop h.lb, ← List.reverse_append]
    exact List.pairwise_reverse.mpr hs)
  unfold MFin
  rw [e]
  refine ⟨(List.reverse_perm _).trans (f.1.trans ((List.reverse_perm _).append (List.reverse_perm _))), List.pairwise_reverse.mpr f.2⟩
theorem hi_done (sa : a.toList.Pairwise kle) (sb : b.toList.Pairwise kle) (h : MH a b o na nb) (hz : na = 0 ∨ nb = 0) : MFin a b (a.extract 0 na ++ b.extract 0 nb ++ o.reverse) := by
  have := h.symm.fin (by
    rcases hz with rfl | rfl
    · rw [List.take_zero, List.nil_append]; exact sb.sublist (List.take_sublist _ _)
    · rw [List.take_zero, List.append_nil]; exact sa.sublist (List.take_sublist _ _))
  exact ⟨this.1.trans List.perm_append_comm, this.2⟩
theorem hi_first {x0 : Keyed} (sa : a.toList.Pairwise kle) (e0 : b[0]? = some x0) (f0 : ∀ y ∈ a.toList, kle x0 y) (h : MH a b o na nb) (hz : nb = 1) : MFin a b (b.extract 0 nb ++ a.extract 0 na ++ o.reverse) := by
  refine h.fin ?_
  have e1 : b.toList.take nb = [x0] := by
    have e : b.toList[0]? = some x0 := by rw [Array.getElem?_toList]; exact e0
    rw [hz]
    cases hb : b.toList with
    | nil => rw [hb] at e; cases e
    | cons y ys => rw [hb] at e; cases e; rfl
  rw [e1]
  exact List.pairwise_append.mpr ⟨List.pairwise_singleton _ _, sa.sublist (List.take_sublist _ _), fun x hx y hy => by rw [List.mem_singleton.mp hx]; exact f0 y (List.mem_of_mem_take hy)⟩
theorem mem_to_at {y : Keyed} (h : y ∈ a.toList.take n) : ∃ m, m < n ∧ m < a.size ∧ a[m]? = some y := by
  obtain ⟨m, hm, e⟩ := List.getElem_of_mem h
  rw [List.length_take, Array.length_toList] at hm
  exact ⟨m, by omega, by omega, by rw [← Array.getElem?_toList, ← e, List.getElem_take]; exact List.getElem?_eq_getElem _⟩
theorem mem_mid_at {y : Keyed} {k : Nat} (h : y ∈ (a.toList.take n).drop k) : ∃ m, k ≤ m ∧ m < n ∧ m < a.size ∧ a[m]? = some y := by
  obtain ⟨m, hm, e⟩ := List.getElem_of_mem h
  rw [List.length_drop, List.length_take, Array.length_toList] at hm
  exact ⟨k + m, by omega, by omega, by omega, by rw [← Array.getElem?_toList, ← e, List.getElem_drop, List.getElem_take]; exact List.getElem?_eq_getElem _⟩
theorem srt_to {x : Keyed} (sa : a.toList.Pairwise kle) (e : a[n]? = some x) : ∀ y ∈ a.toList.take (n + 1), kle y x := fun y hy => by
  obtain ⟨m, m1, m2, em⟩ := mem_to_at hy
  obtain ⟨hn, _⟩ := Array.getElem?_eq_some_iff.mp e
  have := srt_K sa m n (by omega) hn
  rw [K_at em, K_at e] at this
  exact this
end
noncomputable def MBh (a b : Array Keyed) (n : Nat) (o : Array Keyed) (na nb : Nat) : Prop := MH a b o na nb ∧ 0 < na ∧ 1 < nb ∧ n + na + nb < a.size + b.size
section
variable {prog : Program} {w : World} {A : Around} {E : Value → Shared → Prop} {s : Shared}
theorem wpS_mergeHi {st : SortSt} {a b : Array Keyed} {x0 xl : Keyed} {Q : Array Keyed → SortSt → Prop} (hk : kindOf st = oneType') (ha : IntKeys a) (hb : IntKeys b) (sa : a.toList.Pairwise kle) (sb : b.toList.Pairwise kle)
    (e0 : b[0]? = some x0) (f0 : ∀ y ∈ a.toList, kle x0 y) (el : a[a.size - 1]? = some xl) (fl : ∀ y ∈ b.toList, kle y xl)
    (h : ∀ (r : Array Keyed) g, MFin a b r → Q r (setG st g)) : wpS (model prog w) A E s (mergeHi' a b) Q st := by
  have z1 : 0 < b.size := by obtain ⟨h, _⟩ := Array.getElem?_eq_some_iff.mp e0; exact h
  have z2 : 0 < a.size := by obtain ⟨h, _⟩ := Array.getElem?_eq_some_iff.mp el; omega
  unfold mergeHi'
  refine wpS_bind (wpS_lift (wpAny_rule ⟨rfl, ?_⟩))
  refine wpS_bind (m := elem' a (a.size - 1)) (wpS_elem el ?_)
  dsimp only
  have h' : ∀ r, MFin a b r → Q r st := fun r z => h r (gallopOf st) z
  have hM0 : MH a b #[xl] (a.size - 1) b.size := MH.one (o := #[]) ⟨by rw [Nat.sub_self, Nat.sub_self]; exact MI.nil, Nat.le_refl _, Nat.le_refl _⟩ sa z2 el fun y hy => fl y (List.mem_of_mem_take hy)
  by_cases c1 : a.size - 1 = 0
  · rw [if_pos (by simpa using c1)]; exact wpS_pure (h' _ (hi_done sa sb hM0 (.inl c1)))
  rw [if_neg (by simpa using c1)]
  by_cases c2 : b.size = 1
  · rw [if_pos (by simpa using c2)]; exact wpS_pure (h' _ (hi_first sa e0 f0 hM0 c2))
  rw [if_neg (by simpa using c2)]
  refine wpS_bind (wpS_get ?_)
  refine wpS_bind (wpS_mono (wpS_forRange (I := fun x c st' => (∃ g, st' = setG st g) ∧ ∃ i j o mg, c = (none, i, j, o, mg) ∧ MBh a b x o i j) (Q := fun c st' => (∃ g, st' = setG st g) ∧ ∃ r y, c = (some r, y) ∧ MFin a b r) ?step ?fin ?init) ?post)
  case init => exact ⟨⟨_, rfl⟩, _, _, _, _, rfl, hM0, by omega, by omega, by omega⟩
  case fin =>
    rintro c st' ⟨_, i, j, o, mg, _, _, q1, q2, q3⟩
    omega
  case post =>
    rintro c st' ⟨⟨g, rfl⟩, r, y, rfl, hr⟩
    exact wpS_pure (h r g hr)
  case step =>
    rintro x c st' _ hx ⟨⟨g, rfl⟩, i, j, o, mg, rfl, hB⟩
    dsimp only
    refine wpS_bind (wpS_mono (wpS_forRange (I := fun y c st' => (∃ g, st' = setG st g) ∧ ∃ i j o z, c = (none, i, j, o, z) ∧ MBh a b (x + y) o i j)
      (Q := fun c st' => (∃ g, st' = setG st g) ∧ ((∃ r y, c = (some r, y) ∧ MFin a b r) ∨ ∃ i j o z, c = (none, i, j, o, z) ∧ MBh a b x o i j)) ?step1 ?fin1 ?init1) ?post1)
    case init1 => exact ⟨⟨_, rfl⟩, _, _, _, _, rfl, hB⟩
    case fin1 =>
      rintro c st' ⟨_, i, j, o, z, _, _, q1, q2, q3⟩
      omega
    case step1 =>
      rintro y c st' _ hy ⟨⟨g, rfl⟩, i, j, o, ⟨ac, bc⟩, rfl, hM, q1, q2, q3⟩
      have la := hM.la
      have lb := hM.lb
      dsimp only
      obtain ⟨xb, eb⟩ := at_lt (show j - 1 < b.size by omega)
      obtain ⟨xa, ea⟩ := at_lt (show i - 1 < a.size by omega)
      obtain ⟨nb, tb, kb⟩ := hb.at eb
      obtain ⟨na, ta, ka⟩ := ha.at ea
      have tb1 := srt_to sb eb
      rw [Nat.sub_add_cancel (by omega)] at tb1
      have ta1 := srt_to sa ea
      rw [Nat.sub_add_cancel (by omega)] at ta1
      refine wpS_bind (m := elem' b (j - 1)) (wpS_elem eb ?_)
      refine wpS_bind (m := elem' a (i - 1)) (wpS_elem ea ?_)
      refine wpS_bind (m := lt' xb xa) (wpS_lt hk kb ka ?_)
      dsimp only
      by_cases hlt : nb < na
      · simp only [hlt, decide_true, if_true]
        refine wpS_bind (m := elem' a (i - 1)) (wpS_elem ea ?_)
        have hM1 := hM.one sa q1 ea fun y hy => kle_tr _ xb _ (tb1 y hy) (by show numOf xb.1 ≤ numOf xa.1; rw [kb, ka]; exact Int.le_of_lt hlt)
        by_cases c1 : i - 1 = 0
        · rw [if_pos (by simpa using c1)]; exact wpS_pure ⟨⟨_, rfl⟩, .inl ⟨_, _, rfl, hi_done sa sb hM1 (.inl c1)⟩⟩
        rw [if_neg (by simpa using c1)]
        split
        · exact wpS_pure ⟨⟨_, rfl⟩, .inr ⟨_, _, _, _, rfl, hM1, by omega, by omega, by omega⟩⟩
        · exact wpS_pure ⟨⟨_, rfl⟩, _, _, _, _, rfl, hM1, by omega, by omega, by omega⟩
      · simp only [hlt, decide_false, Bool.false_eq_true, if_false]
        refine wpS_bind (m := elem' b (j - 1)) (wpS_elem eb ?_)
        have hM1 := (hM.symm.one sb (by omega) eb fun y hy => kle_tr _ xa _ (ta1 y hy) (by show numOf xa.1 ≤ numOf xb.1; rw [kb, ka]; exact Int.not_lt.mp hlt)).symm
        by_cases c1 : j - 1 = 1
        · rw [if_pos (by simpa using c1)]; exact wpS_pure ⟨⟨_, rfl⟩, .inl ⟨_, _, rfl, hi_first sa e0 f0 hM1 c1⟩⟩
        rw [if_neg (by simpa using c1)]
        split
        · exact wpS_pure ⟨⟨_, rfl⟩, .inr ⟨_, _, _, _, rfl, hM1, by omega, by omega, by omega⟩⟩
        · exact wpS_pure ⟨⟨_, rfl⟩, _, _, _, _, rfl, hM1, by omega, by omega, by omega⟩
    case post1 =>
      rintro c st' ⟨⟨g, rfl⟩, ⟨r, y, rfl, hr⟩ | ⟨i, j, o, ⟨ac, bc⟩, rfl, hB⟩⟩
      · exact wpS_pure ⟨⟨_, rfl⟩, _, _, rfl, hr⟩
      dsimp only
      refine wpS_bind (wpS_lift (wpAny_rule ⟨rfl, ?_⟩))
      refine wpS_bind (wpS_mono (wpS_forRange (I := fun y c st' => (∃ g, st' = setG st g) ∧ ∃ i j o z, c = (none, i, j, o, z) ∧ MBh a b (x + y) o i j)
        (Q := fun c st' => (∃ g, st' = setG st g) ∧ ((∃ r y, c = (some r, y) ∧ MFin a b r) ∨ ∃ i j o z, c = (none, i, j, o, z) ∧ MBh a b (x + 1) o i j)) ?step2 ?fin2 ?init2) ?post2)
      case init2 => exact ⟨⟨_, rfl⟩, _, _, _, _, rfl, hB⟩
      case fin2 =>
        rintro c st' ⟨_, i, j, o, z, _, _, q1, q2, q3⟩
        omega
      case post2 =>
        rintro c st' ⟨⟨g, rfl⟩, ⟨r, y, rfl, hr⟩ | ⟨i, j, o, ⟨mg, ac, bc⟩, rfl, hB⟩⟩
        · exact wpS_pure ⟨⟨_, rfl⟩, _, _, rfl, hr⟩
        · exact wpS_bind (wpS_modify (wpS_pure ⟨⟨_, rfl⟩, _, _, _, _, rfl, hB⟩))
      case step2 =>
        rintro y c st' _ hy ⟨⟨g, rfl⟩, i, j, o, ⟨mg, ac, bc⟩, rfl, hM, q1, q2, q3⟩
        have la := hM.la
        have lb := hM.lb
        dsimp only
        obtain ⟨xb, eb⟩ := at_lt (show j - 1 < b.size by omega)
        have ib := hb.at eb
        have tb1 := srt_to sb eb
        rw [Nat.sub_add_cancel (by omega)] at tb1
        by_cases hmg : mg > 1
        case' pos => rw [if_pos hmg]
        case' neg => rw [if_neg hmg]
        all_goals
          refine wpS_bind (wpS_modify ?_)
          refine wpS_bind (m := elem' b (j - 1)) (wpS_elem eb ?_)
          refine wpS_bind (m := gallop' false xb a 0 i (i - 1)) (wpS_right hk ib ha (fun p q _ u v => srt_K sa p q u (by omega)) (by omega) (by omega) fun k hk1 hk2 hk3 => ?_)
          dsimp only
          have hM1 := hM.many (k := k) sa hk1 fun u hu v hv => by
            obtain ⟨m, m1, m2, m3, em⟩ := mem_mid_at hu
            refine kle_tr _ xb _ (tb1 v hv) ?_
            have := hk3 m (by omega) (by omega)
            rw [K_at em] at this
            exact Int.le_of_lt this
          have hb1 : ∀ v ∈ a.toList.take k, kle v xb := fun v hv => by
            obtain ⟨m, m1, m2, em⟩ := mem_to_at hv
            have := hk2 m (by omega) (by omega)
            rw [K_at em] at this
            exact this
          rcases Nat.eq_zero_or_pos (i - k) with hk0 | hk0
          case' inl =>
            have ek : k = i := by omega
            subst ek
            rw [if_neg (by omega)]
            have hM1 := hM
            clear hM hk2 hk3
          case' inr =>
            rw [if_pos hk0]
            by_cases c1 : k = 0
            · rw [if_pos (by simpa using c1)]; exact wpS_pure ⟨⟨_, rfl⟩, .inl ⟨_, _, rfl, hi_done sa sb hM1 (.inl c1)⟩⟩
            rw [if_neg (by simpa using c1)]
            have q1 : 0 < k := by omega
            have q3 : x + y + k + j < a.size + b.size := by omega
            clear hM hk2 hk3
          all_goals
            refine wpS_bind (m := elem' b (j - 1)) (wpS_elem eb ?_)
            have hM2 := (hM1.symm.one sb (by omega) eb hb1).symm
            clear hM1
            by_cases c1 : j - 1 = 1
            · rw [if_pos (by simpa using c1)]; exact wpS_pure ⟨⟨_, rfl⟩, .inl ⟨_, _, rfl, hi_first sa e0 f0 hM2 c1⟩⟩
            rw [if_neg (by simpa using c1)]
            obtain ⟨xa, ea⟩ := at_lt (show k - 1 < a.size by omega)
            have ia := ha.at ea
            have ta1 := srt_to sa ea
            rw [Nat.sub_add_cancel (by omega)] at ta1
            refine wpS_bind (m := elem' a (k - 1)) (wpS_elem ea ?_)
            refine wpS_bind (m := gallop' true xa b 0 (j - 1) (j - 1 - 1)) (wpS_left hk ia hb (fun p q _ u v => srt_K sb p q u (by omega)) (by omega) (by omega) fun l hl1 hl2 hl3 => ?_)
            dsimp only
            have hM3 := (hM2.symm.many (k := l) sb hl1 fun u hu v hv => by
              obtain ⟨m, m1, m2, m3, em⟩ := mem_mid_at hu
              refine kle_tr _ xa _ (ta1 v hv) ?_
              have := hl3 m (by omega) (by omega)
              rw [K_at em] at this
              exact this).symm
            have ha1 : ∀ v ∈ b.toList.take l, kle v xa := fun v hv => by
              obtain ⟨m, m1, m2, em⟩ := mem_to_at hv
              have := hl2 m (by omega) (by omega)
              rw [K_at em] at this
              exact Int.le_of_lt this
            rcases Nat.eq_zero_or_pos (j - 1 - l) with hl0 | hl0
            case' inl =>
              have ek : l = j - 1 := by omega
              subst ek
              rw [if_neg (by omega)]
              have hM3 := hM2
              have hj1 : 1 < j - 1 := by omega
            case' inr =>
              rw [if_pos hl0]
              by_cases c2 : l = 1
              · rw [if_pos (by simpa using c2)]; exact wpS_pure ⟨⟨_, rfl⟩, .inl ⟨_, _, rfl, hi_first sa e0 f0 hM3 c2⟩⟩
              rw [if_neg (by simpa using c2)]
              by_cases c3 : l = 0
              · rw [if_pos (by simpa using c3)]; exact wpS_pure ⟨⟨_, rfl⟩, .inl ⟨_, _, rfl, hi_done sa sb hM3 (.inr c3)⟩⟩
              rw [if_neg (by simpa using c3)]
              have hj1 : 1 < l := by omega
            all_goals
              refine wpS_bind (m := elem' a (k - 1)) (wpS_elem ea ?_)
              have hM4 := hM3.one sa (by omega) ea ha1
              by_cases c4 : k - 1 = 0
              · rw [if_pos (by simpa using c4)]; exact wpS_pure ⟨⟨_, rfl⟩, .inl ⟨_, _, rfl, hi_done sa sb hM4 (.inl c4)⟩⟩
              rw [if_neg (by simpa using c4)]
              split
              · exact wpS_pure ⟨⟨_, rfl⟩, .inr ⟨_, _, _, _, rfl, hM4, by omega, hj1, by omega⟩⟩
              · exact wpS_pure ⟨⟨_, rfl⟩, _, _, _, _, rfl, hM4, by omega, hj1, by omega⟩
end
end PyProof.Rows
namespace PyProof.Rows
open PySem
noncomputable def Seg (xs : Array Keyed) (lo hi : Nat) : Prop := ∀ p q, lo ≤ p → p ≤ q → q < hi → K xs p ≤ K xs q
structure SB (a₀ : Array Keyed) (st : SortSt) : Prop where
  perm : (arrOf st).Perm a₀
  kind : kindOf st = oneType'
  failed : failedOf st = none
theorem SB.size {a₀ : Array Keyed} {st : SortSt} (h : SB a₀ st) : (arrOf st).size = a₀.size := h.perm.size_eq
theorem ints_perm {xs ys : Array Keyed} (h : xs.Perm ys) (hi : IntKeys ys) : IntKeys xs := fun p hp => hi p ((Array.perm_iff_toList_perm.mp h).mem_iff.mp hp)
theorem seg_list {xs : Array Keyed} {lo hi : Nat} (h : Seg xs lo hi) (hh : hi ≤ xs.size) : (xs.extract lo hi).toList.Pairwise kle := by
  rw [List.pairwise_iff_getElem]
  intro i j hi' hj hij
  have hj2 : j < (xs.extract lo hi).size := by rw [Array.length_toList] at hj; exact hj
  rw [Array.size_extract] at hj2
  have := h (lo + i) (lo + j) (by omega) (by omega) (by omega)
  rw [K_eq (by omega), K_eq (by omega)] at this
  simpa [kle] using this
theorem ints_ext {xs : Array Keyed} {lo hi : Nat} (h : IntKeys xs) : IntKeys (xs.extract lo hi) := fun p hp => by
  rw [Array.toList_extract] at hp
  exact h p (List.mem_of_mem_drop (List.mem_of_mem_take hp))
theorem mem_ext {xs : Array Keyed} {lo hi : Nat} {y : Keyed} (h : y ∈ (xs.extract lo hi).toList) : ∃ m, lo ≤ m ∧ m < hi ∧ m < xs.size ∧ xs[m]? = some y := by
  rw [ext_at] at h
  obtain ⟨m, a, b, c, d⟩ := mem_mid_at h
  exact ⟨m, a, b, c, d⟩
noncomputable def laid (xs : Array Keyed) (s : Nat) (l : List Keyed) (k : Nat) : Array Keyed := (l.zipIdx k).foldl (fun a (p, j) => a.setIfInBounds (s + j) p) xs
theorem laid_list : ∀ (l : List Keyed) (xs : Array Keyed) (s k : Nat), s + k + l.length ≤ xs.size → (laid xs s l k).toList = xs.toList.take (s + k) ++ (l ++ xs.toList.drop (s + k + l.length))
  | [], xs, s, k, h => by simp [laid]
  | p :: l, xs, s, k, h => by
    have h : s + k + (l.length + 1) ≤ xs.size := h
    have e : laid xs s (p :: l) k = laid (xs.setIfInBounds (s + k) p) s l (k + 1) := by unfold laid; rw [List.zipIdx_cons, List.foldl_cons]
    rw [e, laid_list l _ s (k + 1) (by rw [Array.size_setIfInBounds]; omega), Array.toList_setIfInBounds]
    have hl : s + k < xs.toList.length := by rw [Array.length_toList]; omega
    have e1 : (xs.toList.set (s + k) p).take (s + (k + 1)) = xs.toList.take (s + k) ++ [p] := by
      rw [List.set_eq_take_append_cons_drop, if_pos hl, List.take_append, List.length_take, Nat.min_eq_left (by omega), List.take_of_length_le (by rw [List.length_take]; omega), show s + (k + 1) - (s + k) = 1 by omega]; rfl
    have e2 : (xs.toList.set (s + k) p).drop (s + (k + 1) + l.length) = xs.toList.drop (s + k + (p :: l).length) := by
      rw [List.drop_set_of_lt (by omega)]; congr 1; simp only [List.length_cons]; omega
    rw [e1, e2, List.append_assoc]; rfl
theorem K_laid {xs m : Array Keyed} {s : Nat} (h : s + m.size ≤ xs.size) (i : Nat) : K (laid xs s m.toList 0) i = if s ≤ i ∧ i < s + m.size then K m (i - s) else K xs i := by
  have e := laid_list m.toList xs s 0 (by simpa using h)
  have g : (laid xs s m.toList 0)[i]? = if s ≤ i ∧ i < s + m.size then m[i - s]? else xs[i]? := by
    rw [← Array.getElem?_toList, e]
    simp only [Nat.add_zero, Array.length_toList]
    have l1 : (xs.toList.take s).length = s := by rw [List.length_take, Array.length_toList]; omega
    by_cases c1 : i < s
    · rw [List.getElem?_append_left (by omega), if_neg (by omega), List.getElem?_take_of_lt c1, Array.getElem?_toList]
    · rw [List.getElem?_append_right (by omega), l1]
      by_cases c2 : i < s + m.size
      · rw [List.getElem?_append_left (by rw [Array.length_toList]; omega), if_pos ⟨by omega, c2⟩, Array.getElem?_toList]
      · rw [List.getElem?_append_right (by rw [Array.length_toList]; omega), if_neg (by omega), List.getElem?_drop, Array.length_toList, Array.getElem?_toList]; congr 1; omega
  split at g <;> rename_i c
  · rw [if_pos c]; exact K_congr g
  · rw [if_neg c]; exact K_congr g
theorem laid_perm {xs m : Array Keyed} {s e t : Nat} (h1 : s ≤ e) (h2 : e ≤ t) (h : t ≤ xs.size) (hm : MFin (xs.extract s e) (xs.extract e t) m) : (laid xs s m.toList 0).Perm xs ∧ m.size = t - s := by
  have hz : m.size = t - s := by
    have := hm.1.length_eq
    rw [List.length_append, Array.length_toList, Array.length_toList, Array.length_toList, Array.size_extract, Array.size_extract] at this
    omega
  refine ⟨Array.perm_iff_toList_perm.mpr ?_, hz⟩
  rw [laid_list m.toList xs s 0 (by rw [Array.length_toList]; omega)]
  simp only [Nat.add_zero, Array.length_toList]
  rw [hz, show s + (t - s) = t by omega]
  have e1 : (xs.extract s e).toList ++ (xs.extract e t).toList = (xs.toList.take t).drop s := by
    rw [ext_at, ext_at]
    have a1 := List.take_append_drop (e - s) ((xs.toList.take t).drop s)
    rw [← a1, List.drop_drop, show s + (e - s) = e by omega]
    congr 1
    rw [List.drop_take, List.drop_take, List.take_take, Nat.min_eq_left (by omega)]
  have e2 : xs.toList = xs.toList.take s ++ ((xs.toList.take t).drop s ++ xs.toList.drop t) := by
    have a1 := List.take_append_drop t xs.toList
    have a2 := List.take_append_drop s (xs.toList.take t)
    rw [List.take_take, Nat.min_eq_left (by omega)] at a2
    rw [← List.append_assoc, a2, a1]
  have hm1 := hm.1
  rw [e1] at hm1
  refine List.Perm.trans ?_ (List.Perm.of_eq e2.symm)
  exact List.Perm.append_left _ (List.Perm.append_right _ hm1)
section
variable {prog : Program} {w : World} {A : Around} {E : Value → Shared → Prop} {s : Shared} {a₀ : Array Keyed}
theorem wpS_set {σ : Type} {M : Model} {x st : σ} {Q : PUnit → σ → Prop} (h : Q ⟨⟩ x) : wpS M A E s (set x : StateT σ Sem PUnit) Q st := by
  unfold wpS; exact wpAny_pure ⟨rfl, h⟩
theorem wpS_mergeAt {st : SortSt} {i sa na pa nb pb : Nat} {Q : Bool → SortSt → Prop} (h0 : IntKeys a₀) (hB : SB a₀ st) (e1 : (pendingOf st)[i]? = some (sa, na, pa)) (e2 : (pendingOf st)[i + 1]? = some (sa + na, nb, pb))
    (z1 : 0 < na) (z2 : 0 < nb) (hz : sa + na + nb ≤ a₀.size) (s1 : Seg (arrOf st) sa (sa + na)) (s2 : Seg (arrOf st) (sa + na) (sa + na + nb))
    (h : ∀ st', SB a₀ st' → pendingOf st' = ((pendingOf st).setIfInBounds i (sa, na + nb, pa)).eraseIdxIfInBounds (i + 1) → Seg (arrOf st') sa (sa + na + nb) → (∀ m, m < sa ∨ sa + na + nb ≤ m → K (arrOf st') m = K (arrOf st) m) → Q true st') :
    wpS (model prog w) A E s (mergeAt' i) Q st := by
  unfold mergeAt'
  refine wpS_bind (wpS_get ?_)
  dsimp only
  have hS := hB.size
  have hI := ints_perm hB.perm h0
  obtain ⟨x0, e0⟩ := at_lt (show sa + na < (arrOf st).size by omega)
  obtain ⟨xl, el⟩ := at_lt (show sa + na - 1 < (arrOf st).size by omega)
  have i0 := hI.at e0
  have il := hI.at el
  have k0 := K_at e0
  have kl := K_at el
  rw [show (((sortPriv% PySem.Builtin.SortState.pending) st)[i]?, ((sortPriv% PySem.Builtin.SortState.pending) st)[i + 1]?) = (some (sa, na, pa), some (sa + na, nb, pb)) from by rw [← e1, ← e2]]
  dsimp only
  refine wpS_bind (wpS_set ?_)
  refine wpS_bind (m := elem' (arrOf st) (sa + na)) (wpS_elem e0 ?_)
  refine wpS_bind (m := gallop' false x0 (arrOf st) sa na 0) (wpS_right hB.kind i0 hI s1 (by omega) z1 fun k hk1 hk2 hk3 => ?_)
  dsimp only
  by_cases c1 : na - k = 0
  · rw [if_pos (by simpa using c1)]
    refine wpS_pure (h _ ⟨hB.perm, hB.kind, hB.failed⟩ rfl (fun p q hp hpq hq => ?_) fun _ _ => rfl)
    by_cases d1 : q < sa + na
    · exact s1 p q hp hpq d1
    by_cases d2 : sa + na ≤ p
    · exact s2 p q d2 hpq hq
    have b1 := hk2 p hp (by omega)
    have b2 := s2 (sa + na) q (Nat.le_refl _) (by omega) hq
    rw [← k0] at b1
    exact Int.le_trans b1 b2
  rw [if_neg (by simpa using c1)]
  rw [show sa + k + (na - k) - 1 = sa + na - 1 by omega]
  refine wpS_bind (m := elem' (arrOf st) (sa + na - 1)) (wpS_elem el ?_)
  refine wpS_bind (m := gallop' true xl (arrOf st) (sa + na) nb (nb - 1)) (wpS_left hB.kind il hI s2 (by omega) (by omega) fun l hl1 hl2 hl3 => ?_)
  dsimp only
  by_cases c2 : l = 0
  · rw [if_pos (by simpa using c2)]
    refine wpS_pure (h _ ⟨hB.perm, hB.kind, hB.failed⟩ rfl (fun p q hp hpq hq => ?_) fun _ _ => rfl)
    by_cases d1 : q < sa + na
    · exact s1 p q hp hpq d1
    by_cases d2 : sa + na ≤ p
    · exact s2 p q d2 hpq hq
    have b1 := s1 p (sa + na - 1) hp (by omega) (by omega)
    have b2 := hl3 q (by omega) hq
    rw [← kl] at b2
    exact Int.le_trans b1 b2
  rw [if_neg (by simpa using c2)]
  have pa1 := seg_list (xs := arrOf st) (lo := sa + k) (hi := sa + na) (fun p q u v x => s1 p q (by omega) v x) (by omega)
  have pb1 := seg_list (xs := arrOf st) (lo := sa + na) (hi := sa + na + l) (fun p q u v x => s2 p q u v (by omega)) (by omega)
  have f0 : ∀ y ∈ ((arrOf st).extract (sa + k) (sa + na)).toList, kle x0 y := fun y hy => by
    obtain ⟨m, m1, m2, m3, em⟩ := mem_ext hy
    have := hk3 m m1 m2
    rw [K_at em] at this
    exact Int.le_of_lt this
  have fl : ∀ y ∈ ((arrOf st).extract (sa + na) (sa + na + l)).toList, kle y xl := fun y hy => by
    obtain ⟨m, m1, m2, m3, em⟩ := mem_ext hy
    have := hl2 m m1 m2
    rw [K_at em] at this
    exact Int.le_of_lt this
  have za : ((arrOf st).extract (sa + k) (sa + na)).size = na - k := by rw [Array.size_extract]; omega
  have g0 : ((arrOf st).extract (sa + na) (sa + na + l))[0]? = some x0 := by rw [Array.getElem?_extract, if_pos (by omega)]; exact e0
  have gl : ((arrOf st).extract (sa + k) (sa + na))[((arrOf st).extract (sa + k) (sa + na)).size - 1]? = some xl := by rw [za, Array.getElem?_extract, if_pos (by omega), ← el]; congr 1; omega
  have fin : ∀ (r : Array Keyed) (g : Nat), MFin ((arrOf st).extract (sa + k) (sa + na)) ((arrOf st).extract (sa + na) (sa + na + l)) r →
      Q true (SortSt.mk' (kindOf st) (laid (arrOf st) (sa + k) r.toList 0) (((pendingOf st).setIfInBounds i (sa, na + nb, pa)).eraseIdxIfInBounds (i + 1)) g (failedOf st)) := by
    intro r g hr
    obtain ⟨pr, pz⟩ := laid_perm (xs := arrOf st) (by omega) (by omega) (by omega) hr
    have lo1 : ∀ y ∈ r.toList, kle x0 y := fun y hy => by
      rcases List.mem_append.mp (hr.1.mem_iff.mp hy) with z | z
      · exact f0 y z
      · obtain ⟨m, m1, m2, m3, em⟩ := mem_ext z
        have := s2 (sa + na) m (Nat.le_refl _) m1 (by omega)
        rw [K_at em, k0] at this
        exact this
    have hi1 : ∀ y ∈ r.toList, kle y xl := fun y hy => by
      rcases List.mem_append.mp (hr.1.mem_iff.mp hy) with z | z
      · obtain ⟨m, m1, m2, m3, em⟩ := mem_ext z
        have := s1 m (sa + na - 1) (by omega) (by omega) (by omega)
        rw [K_at em, kl] at this
        exact this
      · exact fl y z
    have at_r : ∀ m, m < r.size → numOf x0.1 ≤ K r m ∧ K r m ≤ numOf xl.1 := fun m hm => by
      obtain ⟨y, ey⟩ := at_lt hm
      have hy : y ∈ r.toList := by obtain ⟨hl, e⟩ := Array.getElem?_eq_some_iff.mp ey; rw [← e]; simp
      rw [K_at ey]
      exact ⟨lo1 y hy, hi1 y hy⟩
    refine h _ ⟨pr.trans hB.perm, hB.kind, hB.failed⟩ rfl (fun p q hp hpq hq => ?_) fun m hm => ?_
    · show K (laid _ _ _ _) p ≤ K (laid _ _ _ _) q
      rw [K_laid (by omega), K_laid (by omega)]
      by_cases d1 : p < sa + k
      · rw [if_neg (by omega)]
        have b1 := hk2 p hp d1
        by_cases d2 : sa + k ≤ q ∧ q < sa + k + r.size
        · rw [if_pos d2]; exact Int.le_trans b1 (at_r _ (by omega)).1
        · rw [if_neg d2]
          by_cases d3 : q < sa + na
          · exact s1 p q hp hpq d3
          · have b2 := s2 (sa + na) q (Nat.le_refl _) (by omega) hq
            rw [← k0] at b1
            exact Int.le_trans b1 b2
      · by_cases d2 : q < sa + k + r.size
        · rw [if_pos (by omega), if_pos (by omega)]
          exact srt_K hr.2 _ _ (by omega) (by omega)
        · rw [if_neg (c := sa + k ≤ q ∧ _) (by omega)]
          have b2 := hl3 q (by omega) hq
          by_cases d3 : p < sa + k + r.size
          · rw [if_pos (by omega)]; exact Int.le_trans (at_r _ (by omega)).2 b2
          · rw [if_neg (by omega)]; exact s2 p q (by omega) hpq hq
    · show K (laid _ _ _ _) m = _
      rw [K_laid (by omega), if_neg (by omega)]
  have hfn : ∀ x : Option Value, x = none → x.isNone = true := fun x e => by rw [e]; rfl
  by_cases c3 : na - k ≤ l
  · rw [if_pos c3]
    refine wpS_bind (m := mergeLo' _ _) (wpS_mergeLo hB.kind (ints_ext hI) (ints_ext hI) pa1 pb1 g0 f0 gl fl fun r g hr => ?_)
    refine wpS_bind (wpS_modify (wpS_bind (wpS_get ?_)))
    refine wpS_pure ?_
    have := fin r g hr
    rw [← hfn _ hB.failed] at this
    exact this
  · rw [if_neg c3]
    refine wpS_bind (m := mergeHi' _ _) (wpS_mergeHi hB.kind (ints_ext hI) (ints_ext hI) pa1 pb1 g0 f0 gl fl fun r g hr => ?_)
    refine wpS_bind (wpS_modify (wpS_bind (wpS_get ?_)))
    refine wpS_pure ?_
    have := fin r g hr
    rw [← hfn _ hB.failed] at this
    exact this
end
end PyProof.Rows
namespace PyProof.Rows
open PySem
noncomputable def Dst (xs : Array Keyed) : Prop := (xs.toList.map fun p => numOf p.1).Nodup
theorem dst_perm {xs ys : Array Keyed} (h : xs.Perm ys) (hd : Dst ys) : Dst xs := ((Array.perm_iff_toList_perm.mp h).map _).nodup_iff.mpr hd
theorem dst_ne {xs : Array Keyed} (hd : Dst xs) {i j : Nat} (hij : i < j) (hj : j < xs.size) : K xs i ≠ K xs j := by
  rw [K_eq (by omega), K_eq hj]
  have := List.pairwise_iff_getElem.mp hd i j (by simpa using Nat.lt_trans hij hj) (by simpa using hj) hij
  simpa using this
section
variable {prog : Program} {w : World} {A : Around} {E : Value → Shared → Prop} {s : Shared} {a₀ : Array Keyed}
theorem SB.at {st : SortSt} (h : SB a₀ st) (h0 : IntKeys a₀) {i : Nat} (hi : i < a₀.size) : ∃ t q, (arrOf st)[i]? = some (.int (K (arrOf st) i) t, q) := by
  obtain ⟨x, ex⟩ := at_lt (show i < (arrOf st).size by rw [h.size]; exact hi)
  obtain ⟨n, t, e⟩ := (ints_perm h.perm h0).at ex
  refine ⟨t, x.2, ?_⟩
  rw [ex, K_at ex, e]
  exact congrArg some (Prod.ext e rfl)
theorem wpS_lts {st : SortSt} {i j : Nat} {Q : Option Bool → SortSt → Prop} (hB : SB a₀ st) (h0 : IntKeys a₀) (hi : i < a₀.size) (hj : j < a₀.size)
    (h : Q (some (decide (K (arrOf st) i < K (arrOf st) j))) st) : wpS (model prog w) A E s (ltAt' i j) Q st := by
  obtain ⟨t, p, e1⟩ := hB.at h0 hi
  obtain ⟨u, q, e2⟩ := hB.at h0 hj
  exact wpS_ltAt hB.kind e1 e2 h
theorem wpS_rev {st : SortSt} {i j : Nat} {Q : Unit → SortSt → Prop} (h : Q () (setArr st (mirror (arrOf st) i j ((j - i) / 2)))) : wpS (model prog w) A E s (reverseSlice' i j) Q st := wpS_modify h
theorem wpS_mov {st : SortSt} {i j : Nat} {Q : Unit → SortSt → Prop} (h : Q () (setArr st (bubble (arrOf st) i (i - j)))) : wpS (model prog w) A E s (moveDown' i j) Q st := wpS_modify h
theorem wpS_run {st : SortSt} {lo n : Nat} {Q : Option Nat → SortSt → Prop} (h0 : IntKeys a₀) (hD : Dst a₀) (hB : SB a₀ st) (h1 : 1 ≤ n) (hn : lo + n ≤ a₀.size)
    (h : ∀ m st', SB a₀ st' → pendingOf st' = pendingOf st → 1 ≤ m → m ≤ n → Seg (arrOf st') lo (lo + m) → (∀ i, i < lo → K (arrOf st') i = K (arrOf st) i) → Q (some m) st') : wpS (model prog w) A E s (countRun' lo n) Q st := by
  have asc : ∀ (f : Nat → Option (Option Nat) × Nat → StateT SortSt Sem (ForInStep (Option (Option Nat) × Nat))) (st : SortSt) (k : Nat), SB a₀ st → 1 ≤ k → k ≤ n → Seg (arrOf st) lo (lo + k) →
      (∀ x m R, m < n → 1 ≤ m → R (if decide (K (arrOf st) (lo + m) < K (arrOf st) (lo + m - 1)) = true then .done (none, m) else .yield (none, m + 1)) st → wpS (model prog w) A E s (f x (none, m)) R st) →
      wpS (model prog w) A E s (forIn [k:n] ((none, k) : Option (Option Nat) × Nat) f) (fun c st' => st' = st ∧ ∃ m, c = (none, m) ∧ k ≤ m ∧ m ≤ n ∧ Seg (arrOf st) lo (lo + m) ∧ (m < n → K (arrOf st) (lo + m) < K (arrOf st) (lo + m - 1))) st := by
    intro f st k hB hk1 hkn hs hf
    refine wpS_forRange (I := fun x c st' => st' = st ∧ x ≤ n ∧ c = (none, x) ∧ Seg (arrOf st) lo (lo + x)) ?_ ?_ ⟨rfl, hkn, rfl, hs⟩
    · rintro x c st' hx1 hx2 ⟨rfl, _, rfl, hs⟩
      refine hf x x _ hx2 (by omega) ?_
      by_cases c : K (arrOf st') (lo + x) < K (arrOf st') (lo + x - 1)
      · rw [if_pos (by simpa using c)]; exact ⟨rfl, x, rfl, hx1, by omega, hs, fun _ => c⟩
      · rw [if_neg (by simpa using c)]
        refine ⟨rfl, by omega, rfl, fun p q hp hpq hq => ?_⟩
        by_cases d : q < lo + x
        · exact hs p q hp hpq d
        · have : q = lo + x := by omega
          subst this
          by_cases d2 : p = lo + x
          · rw [d2]; exact Int.le_refl _
          · exact Int.le_trans (hs p (lo + x - 1) hp (by omega) (by omega)) (Int.not_lt.mp c)
    · rintro c st' ⟨rfl, hx, rfl, hs⟩
      exact ⟨rfl, _, rfl, by omega, hx, hs, fun z => absurd z (by omega)⟩
  have one : ∀ st : SortSt, Seg (arrOf st) lo (lo + 1) := fun st p q hp hpq hq => by rw [show p = q by omega]; exact Int.le_refl _
  unfold countRun'
  refine wpS_bind (wpS_mono (asc _ st 1 hB (Nat.le_refl _) h1 (one st) fun x m R hm hm1 hR => ?_) ?_)
  · dsimp only
    refine wpS_bind (m := ltAt' (lo + m) (lo + m - 1)) (wpS_lts hB h0 (by omega) (by omega) ?_)
    dsimp only
    split at hR <;> rename_i c
    · rw [if_pos c]; exact wpS_pure hR
    · rw [if_neg c]; exact wpS_pure hR
  rintro c st' ⟨rfl, m, rfl, m1, m2, hs, hbr⟩
  dsimp only
  by_cases c1 : m = n
  · rw [if_pos (by simpa using c1)]; exact wpS_pure (h m _ hB rfl m1 m2 hs fun _ _ => rfl)
  rw [if_neg (by simpa using c1)]
  have hS := hB.size
  by_cases c2 : m > 1
  · rw [if_pos c2]
    refine wpS_bind (m := ltAt' lo (lo + m - 1)) (wpS_lts hB h0 (by omega) (by omega) ?_)
    have hlt : K (arrOf st') lo < K (arrOf st') (lo + m - 1) := by
      have := hs lo (lo + m - 1) (Nat.le_refl _) (by omega) (by omega)
      have ne := dst_ne (dst_perm hB.perm hD) (show lo < lo + m - 1 by omega) (by omega)
      omega
    rw [decide_eq_true hlt]
    exact wpS_pure (h m _ hB rfl m1 m2 hs fun _ _ => rfl)
  rw [if_neg c2]
  have e1 : m = 1 := by omega
  subst e1
  refine wpS_bind (wpS_lift (wpAny_rule ⟨rfl, ?_⟩))
  have hb1 := hbr (by omega)
  have desc : ∀ (f : Nat → Option (Option Nat) × Nat × Nat → StateT SortSt Sem (ForInStep (Option (Option Nat) × Nat × Nat))),
      (∀ x m R, m < n → 1 ≤ m → R (if decide (K (arrOf st') (lo + m) < K (arrOf st') (lo + m - 1)) = true then .yield (none, m + 1, 0) else .done (none, m, 0)) st' → wpS (model prog w) A E s (f x (none, m, 0)) R st') →
      wpS (model prog w) A E s (forIn [1 + 1:n] ((none, 1 + 1, 0) : Option (Option Nat) × Nat × Nat) f) (fun c st2 => st2 = st' ∧ ∃ m, c = (none, m, 0) ∧ 1 ≤ m ∧ m ≤ n ∧ ∀ p q, lo ≤ p → p ≤ q → q < lo + m → K (arrOf st') q ≤ K (arrOf st') p) st' := by
    intro f hf
    refine wpS_forRange (I := fun x c st2 => st2 = st' ∧ x ≤ n ∧ c = (none, x, 0) ∧ ∀ p q, lo ≤ p → p ≤ q → q < lo + x → K (arrOf st') q ≤ K (arrOf st') p) ?_ ?_ ⟨rfl, by omega, rfl, fun p q hp hpq hq => ?_⟩
    · rintro x c st2 hx1 hx2 ⟨rfl, _, rfl, hs⟩
      refine hf x x _ hx2 (by omega) ?_
      by_cases c : K (arrOf st2) (lo + x) < K (arrOf st2) (lo + x - 1)
      · rw [if_pos (by simpa using c)]
        refine ⟨rfl, by omega, rfl, fun p q hp hpq hq => ?_⟩
        by_cases d : q < lo + x
        · exact hs p q hp hpq d
        · have : q = lo + x := by omega
          subst this
          by_cases d2 : p = lo + x
          · rw [d2]; exact Int.le_refl _
          · exact Int.le_trans (Int.le_of_lt c) (hs p (lo + x - 1) hp (by omega) (by omega))
      · rw [if_neg (by simpa using c)]; exact ⟨rfl, x, rfl, by omega, by omega, hs⟩
    · rintro c st2 ⟨rfl, hx, rfl, hs⟩
      exact ⟨rfl, _, rfl, by omega, hx, hs⟩
    · by_cases d : p = q
      · rw [d]; exact Int.le_refl _
      · have e1 : p = lo := by omega
        have e2 : q = lo + 1 := by omega
        rw [e1, e2]; exact Int.le_of_lt hb1
  refine wpS_bind (wpS_mono (desc _ fun x m R hm hm1 hR => ?_) ?_)
  · dsimp only
    refine wpS_bind (m := ltAt' (lo + m) (lo + m - 1)) (wpS_lts hB h0 (by omega) (by omega) ?_)
    dsimp only
    by_cases c : K (arrOf st') (lo + m) < K (arrOf st') (lo + m - 1)
    · rw [if_pos (by simpa using c)] at hR
      rw [if_pos (by simpa using c), if_neg (by omega)]
      exact wpS_pure hR
    · rw [if_neg (by simpa using c)] at hR
      rw [if_neg (by simpa using c)]
      refine wpS_bind (m := ltAt' (lo + m - 1) (lo + m)) (wpS_lts hB h0 (by omega) (by omega) ?_)
      have ne := dst_ne (dst_perm hB.perm hD) (show lo + m - 1 < lo + m by omega) (by omega)
      rw [decide_eq_true (show K (arrOf st') (lo + m - 1) < K (arrOf st') (lo + m) by omega)]
      exact wpS_pure hR
  rintro c st2 ⟨rfl, m, rfl, m1, m2, hs2⟩
  dsimp only
  rw [if_neg (by omega)]
  refine wpS_bind (m := reverseSlice' lo (lo + m)) (wpS_rev ?_)
  have hB3 : SB a₀ (setArr st2 (mirror (arrOf st2) lo (lo + m) ((lo + m - lo) / 2))) := ⟨(mirror_perm _ _ _ _).trans hB.perm, hB.kind, hB.failed⟩
  have hK : ∀ i, K (mirror (arrOf st2) lo (lo + m) ((lo + m - lo) / 2)) i = if lo ≤ i ∧ i < lo + m then K (arrOf st2) (lo + (lo + m) - 1 - i) else K (arrOf st2) i := K_mirror (by omega)
  have hs3 : Seg (arrOf (setArr st2 (mirror (arrOf st2) lo (lo + m) ((lo + m - lo) / 2)))) lo (lo + m) := fun p q hp hpq hq => by
    show K (mirror _ _ _ _) p ≤ K (mirror _ _ _ _) q
    rw [hK, hK, if_pos (by omega), if_pos (by omega)]
    exact hs2 _ _ (by omega) (by omega) (by omega)
  refine wpS_bind (wpS_mono (asc _ _ m hB3 m1 m2 hs3 fun x k R hm hm1 hR => ?_) ?_)
  · dsimp only
    refine wpS_bind (m := ltAt' (lo + k) (lo + k - 1)) (wpS_lts hB3 h0 (by omega) (by omega) ?_)
    dsimp only
    split at hR <;> rename_i c
    · rw [if_pos c]; exact wpS_pure hR
    · rw [if_neg c]; exact wpS_pure hR
  rintro c st4 ⟨rfl, k, rfl, k1, k2, hs4, _⟩
  refine wpS_pure (h k _ hB3 rfl (by omega) k2 hs4 fun i hi => ?_)
  show K (mirror _ _ _ _) i = _
  rw [hK, if_neg (by omega)]
theorem wpS_ins {st : SortSt} {lo n ok : Nat} {Q : Bool → SortSt → Prop} (h0 : IntKeys a₀) (hn : lo + n ≤ a₀.size) (hok : ok ≤ n) (hB : SB a₀ st) (hs : Seg (arrOf st) lo (lo + ok))
    (h : ∀ st', SB a₀ st' → pendingOf st' = pendingOf st → Seg (arrOf st') lo (lo + n) → (∀ i, i < lo → K (arrOf st') i = K (arrOf st) i) → Q true st') : wpS (model prog w) A E s (binarySort' lo n ok) Q st := by
  unfold binarySort'
  refine wpS_bind (wpS_mono (wpS_forRange (I := fun k c st' => c = (none, ()) ∧ SB a₀ st' ∧ pendingOf st' = pendingOf st ∧ Seg (arrOf st') lo (lo + min k n) ∧ ∀ i, i < lo → K (arrOf st') i = K (arrOf st) i)
    (Q := fun c st' => c = (none, ()) ∧ SB a₀ st' ∧ pendingOf st' = pendingOf st ∧ Seg (arrOf st') lo (lo + n) ∧ ∀ i, i < lo → K (arrOf st') i = K (arrOf st) i) ?step ?fin ?init) ?post)
  case post =>
    rintro c st' ⟨rfl, hB', hp, hs', hk⟩
    exact wpS_pure (h st' hB' hp hs' hk)
  case init =>
    refine ⟨rfl, hB, rfl, fun i j hi hij hj => ?_, fun _ _ => rfl⟩
    by_cases h1 : ok = 0
    · have : i = j := by omega
      subst this; exact Int.le_refl _
    · exact hs i j hi hij (by omega)
  case fin =>
    rintro c st' ⟨hc, hB', hp, hs', hk⟩
    refine ⟨hc, hB', hp, ?_, hk⟩
    rwa [show min (max (max ok 1) n) n = n by omega] at hs'
  case step =>
    rintro k c st' hak hkn ⟨rfl, hB', hp, hs', hkk⟩
    rw [show min k n = k by omega] at hs'
    refine wpS_bind (wpS_mono (wpS_forRange (I := fun x c st'' => st'' = st' ∧ ∃ l r, c = (none, l, r) ∧ l ≤ r ∧ r ≤ k ∧ r - l ≤ k - x ∧
        (∀ i, i < l → K (arrOf st') (lo + i) ≤ K (arrOf st') (lo + k)) ∧ (∀ i, r ≤ i → i < k → K (arrOf st') (lo + k) < K (arrOf st') (lo + i)))
      (Q := fun c st'' => st'' = st' ∧ ∃ l r, c = (none, l, r) ∧ l ≤ k ∧
        (∀ i, i < l → K (arrOf st') (lo + i) ≤ K (arrOf st') (lo + k)) ∧ (∀ i, l ≤ i → i < k → K (arrOf st') (lo + k) < K (arrOf st') (lo + i))) ?istep ?ifin ?iinit) ?ipost)
    case iinit => exact ⟨rfl, 0, k, rfl, by omega, by omega, by omega, fun i hi => by omega, fun i h1 h2 => by omega⟩
    case ifin =>
      rintro c st'' ⟨rfl, l, r, rfl, hlr, hrk, hm, hlo, hhi⟩
      have : l = r := by omega
      subst this
      exact ⟨rfl, l, l, rfl, hrk, hlo, hhi⟩
    case istep =>
      rintro x c st'' _ hxk ⟨rfl, l, r, rfl, hlr, hrk, hm, hlo, hhi⟩
      dsimp only
      by_cases hge : l ≥ r
      · rw [if_pos hge]
        have : l = r := by omega
        subst this
        exact wpS_pure ⟨rfl, l, l, rfl, hrk, hlo, hhi⟩
      · rw [if_neg hge]
        refine wpS_bind (m := ltAt' _ _) (wpS_lts hB' h0 (by omega) (by omega) ?_)
        by_cases hless : K (arrOf st'') (lo + k) < K (arrOf st'') (lo + (l + r) / 2)
        · simp only [hless, decide_true, if_true]
          refine wpS_pure ⟨rfl, l, (l + r) / 2, rfl, by omega, by omega, by omega, hlo, fun i h1 h2 => ?_⟩
          exact Int.lt_of_lt_of_le hless (hs' _ _ (by omega) (by omega) (by omega))
        · simp only [hless, decide_false, Bool.false_eq_true, if_false]
          refine wpS_pure ⟨rfl, (l + r) / 2 + 1, r, rfl, by omega, by omega, by omega, fun i h1 => ?_, hhi⟩
          exact Int.le_trans (hs' (lo + i) (lo + (l + r) / 2) (by omega) (by omega) (by omega)) (Int.not_lt.mp hless)
    case ipost =>
      rintro c st'' ⟨rfl, l, r, rfl, hlk, hlo, hhi⟩
      dsimp only
      refine wpS_bind (m := moveDown' (lo + k) (lo + l)) (wpS_mov ?_)
      have hz := hB'.size
      have hK : ∀ i, K (bubble (arrOf st'') (lo + k) (lo + k - (lo + l))) i = if i = lo + l then K (arrOf st'') (lo + k) else if lo + l < i ∧ i ≤ lo + k then K (arrOf st'') (i - 1) else K (arrOf st'') i := fun i => by
        rw [K_bubble (by omega) (by omega), show lo + k - (lo + k - (lo + l)) = lo + l by omega]
      refine wpS_pure ⟨rfl, ⟨(bubble_perm _ _ _).trans hB'.perm, hB'.kind, hB'.failed⟩, hp, ?_, fun i hi => ?_⟩
      · rw [show min (k + 1) n = k + 1 by omega]
        intro p q hp1 hpq hq
        show K (bubble _ _ _) p ≤ K (bubble _ _ _) q
        have b1 : ∀ m, lo ≤ m → m < lo + l → K (arrOf st'') m ≤ K (arrOf st'') (lo + k) := fun m u v => by
          have := hlo (m - lo) (by omega); rwa [show lo + (m - lo) = m by omega] at this
        have b2 : ∀ m, lo + l ≤ m → m < lo + k → K (arrOf st'') (lo + k) < K (arrOf st'') m := fun m u v => by
          have := hhi (m - lo) (by omega) (by omega); rwa [show lo + (m - lo) = m by omega] at this
        rw [hK, hK]
        repeat' split
        all_goals first
          | (exfalso; omega)
          | exact Int.le_refl _
          | exact b1 _ (by omega) (by omega)
          | exact Int.le_of_lt (b2 _ (by omega) (by omega))
          | exact hs' _ _ (by omega) (by omega) (by omega)
      · show K (bubble _ _ _) i = _
        rw [hK, if_neg (by omega), if_neg (by omega)]; exact hkk i hi
end
end PyProof.Rows
namespace PyProof.Rows
open PySem
noncomputable def Runs (xs : Array Keyed) : List (Nat × Nat × Nat) → Nat → Nat → Prop
  | [], s, t => s = t
  | (b, n, _) :: r, s, t => b = s ∧ 0 < n ∧ Seg xs s (s + n) ∧ Runs xs r (s + n) t
section
variable {xs ys : Array Keyed}
theorem Runs.app : ∀ {l1 l2 : List (Nat × Nat × Nat)} {s t : Nat}, Runs xs (l1 ++ l2) s t ↔ ∃ m, Runs xs l1 s m ∧ Runs xs l2 m t
  | [], l2, s, t => ⟨fun h => ⟨s, rfl, h⟩, fun zq26 => by obtain ⟨m, e, h⟩ := zq26; exact (by cases e; exact h)⟩
  | (b, n, p) :: l1, l2, s, t => ⟨fun zq27 => by obtain ⟨a, c, d, h⟩ := zq27; exact (by obtain ⟨m, u, v⟩ := Runs.app.mp h; exact ⟨m, ⟨a, c, d, u⟩, v⟩), fun zq28 => by obtain ⟨m, ⟨a, c, d, u⟩, v⟩ := zq28; exact (⟨a, c, d, Runs.app.mpr ⟨m, u, v⟩⟩)⟩
theorem Runs.le : ∀ {l : List (Nat × Nat × Nat)} {s t : Nat}, Runs xs l s t → s + l.length ≤ t
  | [], s, t, h => by cases h; exact Nat.le_refl _
  | (b, n, p) :: l, s, t, ⟨a, c, d, h⟩ => by have := h.le; simp only [List.length_cons]; omega
theorem Runs.congr : ∀ {l : List (Nat × Nat × Nat)} {s t : Nat}, (∀ m, s ≤ m → m < t → K ys m = K xs m) → Runs xs l s t → Runs ys l s t
  | [], s, t, e, h => h
  | (b, n, p) :: l, s, t, e, ⟨a, c, d, h⟩ => by
    have hl := h.le
    exact ⟨a, c, fun p q u v x => by rw [e p u (by omega), e q (by omega) (by omega)]; exact d p q u v x, h.congr fun m u v => e m (by omega) v⟩
theorem Runs.join {pre post : List (Nat × Nat × Nat)} {sa na pa sb nb pb s t : Nat} (h : Runs xs (pre ++ (sa, na, pa) :: (sb, nb, pb) :: post) s t) :
    sb = sa + na ∧ 0 < na ∧ 0 < nb ∧ sa + na + nb ≤ t ∧ Seg xs sa (sa + na) ∧ Seg xs (sa + na) (sa + na + nb) ∧
    ∀ ys : Array Keyed, Seg ys sa (sa + na + nb) → (∀ m, m < sa ∨ sa + na + nb ≤ m → K ys m = K xs m) → Runs ys (pre ++ (sa, na + nb, pa) :: post) s t := by
  obtain ⟨m, h1, rfl, z1, s1, e2, z2, s2, h2⟩ := Runs.app.mp h
  have hl := h2.le
  refine ⟨e2, z1, z2, by omega, s1, s2, fun ys hs hk => Runs.app.mpr ⟨sa, h1.congr fun m _ v => hk m (.inl v), rfl, by omega, by rw [← Nat.add_assoc]; exact hs, ?_⟩⟩
  rw [← Nat.add_assoc]
  exact h2.congr fun m u _ => hk m (.inr u)
end
theorem ite_lt {c : Prop} [Decidable c] {a b n : Nat} (h1 : a + 1 < n) (h2 : b + 1 < n) : (if c then a else b) + 1 < n := by split <;> assumption
theorem split_at {α : Type} {p : Array α} {i : Nat} (h : i + 1 < p.size) : ∃ x y post, p.toList = p.toList.take i ++ x :: y :: post ∧ p[i]? = some x ∧ p[i + 1]? = some y ∧
    ∀ z, ((p.setIfInBounds i z).eraseIdxIfInBounds (i + 1)).toList = p.toList.take i ++ z :: post := by
  have h1 : i < p.toList.length := by rw [Array.length_toList]; omega
  have h2 : i + 1 < p.toList.length := by rw [Array.length_toList]; omega
  refine ⟨p.toList[i], p.toList[i + 1], p.toList.drop (i + 2), ?_, ?_, ?_, fun z => ?_⟩
  · rw [← List.drop_eq_getElem_cons h2, ← List.drop_eq_getElem_cons h1, List.take_append_drop]
  · rw [← Array.getElem?_toList]; exact List.getElem?_eq_getElem _
  · rw [← Array.getElem?_toList]; exact List.getElem?_eq_getElem _
  · rw [Array.toList_eraseIdxIfInBounds, Array.toList_setIfInBounds, List.eraseIdx_eq_take_drop_succ, List.set_eq_take_append_cons_drop, if_pos h1, List.take_append, List.drop_append]
    have l1 : (p.toList.take i).length = i := by rw [List.length_take]; omega
    rw [l1, show i + 1 - i = 1 by omega, show i + 1 + 1 - i = 2 by omega, List.take_of_length_le (by omega), List.drop_of_length_le (l := p.toList.take i) (by omega), List.nil_append, List.append_assoc]
    show _ ++ ([z] ++ (p.toList.drop (i + 1)).drop 1) = _
    rw [List.drop_drop]; rfl
theorem Runs.pw {xs : Array Keyed} (q : Nat) : ∀ (l : List (Nat × Nat × Nat)) (i : Nat) {s t : Nat}, Runs xs l s t → Runs xs (l.modify i fun x => (x.1, x.2.1, q)) s t
  | [], i, s, t, h => by cases i <;> exact h
  | (b, n, p) :: l, 0, s, t, h => h
  | (b, n, p) :: l, i + 1, s, t, ⟨a, c, d, h⟩ => ⟨a, c, d, Runs.pw q l i h⟩
section
variable {prog : Program} {w : World} {A : Around} {E : Value → Shared → Prop} {s : Shared} {a₀ : Array Keyed}
theorem wpS_join {st : SortSt} {i t : Nat} {Q : Bool → SortSt → Prop} (h0 : IntKeys a₀) (hB : SB a₀ st) (hi : i + 1 < (pendingOf st).size) (hR : Runs (arrOf st) (pendingOf st).toList 0 t) (ht : t ≤ a₀.size)
    (h : ∀ st', SB a₀ st' → (pendingOf st').size + 1 = (pendingOf st).size → Runs (arrOf st') (pendingOf st').toList 0 t → (∀ m, t ≤ m → K (arrOf st') m = K (arrOf st) m) → Q true st') : wpS (model prog w) A E s (mergeAt' i) Q st := by
  obtain ⟨⟨sa, na, pa⟩, ⟨sb, nb, pb⟩, post, el, e1, e2, hz⟩ := split_at hi
  rw [el] at hR
  obtain ⟨rfl, z1, z2, hl, s1, s2, hj⟩ := hR.join
  refine wpS_mergeAt h0 hB e1 e2 z1 z2 (by omega) s1 s2 fun st' hB' hp hs hk => ?_
  have hp2 := congrArg Array.toList hp
  rw [hz] at hp2
  refine h st' hB' ?_ (by rw [hp2]; exact hj _ hs hk) fun m hm => hk m (.inr (by omega))
  have l1 := congrArg List.length hp2
  have l2 := congrArg List.length el
  simp only [List.length_append, List.length_cons, Array.length_toList] at l1 l2
  omega
theorem wpS_runs {st : SortSt} {Q : Unit → SortSt → Prop} (h0 : IntKeys a₀) (hD : Dst a₀) (hB : SB a₀ st) (hp : pendingOf st = #[])
    (h : ∀ st', SB a₀ st' → Seg (arrOf st') 0 a₀.size → Q () st') : wpS (model prog w) A E s sortRuns' Q st := by
  unfold sortRuns'
  refine wpS_bind (wpS_get ?_)
  have hS := hB.size
  dsimp only
  rw [show ((sortPriv% PySem.Builtin.SortState.a) st).size = a₀.size from hS]
  refine wpS_bind (wpS_mono (wpS_forRange (I := fun x c st' => ∃ lo, c = (none, lo) ∧ x ≤ lo ∧ lo ≤ a₀.size ∧ SB a₀ st' ∧ Runs (arrOf st') (pendingOf st').toList 0 lo)
    (Q := fun c st' => c = (none, a₀.size) ∧ SB a₀ st' ∧ Runs (arrOf st') (pendingOf st').toList 0 a₀.size) ?step ?fin ?init) ?post)
  case init => exact ⟨0, rfl, Nat.le_refl _, Nat.zero_le _, hB, by rw [hp]; rfl⟩
  case fin =>
    rintro c st' ⟨lo, rfl, a, b, hB', hR⟩
    have : lo = a₀.size := by omega
    subst this
    exact ⟨rfl, hB', hR⟩
  case post =>
    rintro c st' ⟨rfl, hB', hR⟩
    dsimp only
    refine wpS_bind (wpS_mono (wpS_forRange (I := fun x c st' => c = (none, ()) ∧ SB a₀ st' ∧ Runs (arrOf st') (pendingOf st').toList 0 a₀.size ∧ ((pendingOf st').size ≤ a₀.size - x ∨ (pendingOf st').size ≤ 1))
      (Q := fun c st' => c = (none, ()) ∧ SB a₀ st' ∧ Runs (arrOf st') (pendingOf st').toList 0 a₀.size ∧ (pendingOf st').size ≤ 1) ?step1 ?fin1 ?init1) ?post1)
    case init1 =>
      have := hR.le
      rw [Array.length_toList] at this
      exact ⟨rfl, hB', hR, .inl (by omega)⟩
    case fin1 =>
      rintro c st2 ⟨rfl, hB2, hR2, hz⟩
      exact ⟨rfl, hB2, hR2, by omega⟩
    case post1 =>
      rintro c st2 ⟨rfl, hB2, hR2, hz⟩
      refine wpS_pure (h st2 hB2 ?_)
      have hz2 : (pendingOf st2).toList.length ≤ 1 := by rw [Array.length_toList]; exact hz
      match hl : (pendingOf st2).toList with
      | [] => rw [hl] at hR2; rw [← (show 0 = a₀.size from hR2)]; intro p q a b c; omega
      | [(b, n, p)] => rw [hl] at hR2; obtain ⟨_, _, hs, e⟩ := hR2; rw [← (show 0 + n = a₀.size from e)]; exact hs
      | _ :: _ :: _ => rw [hl] at hz2; simp at hz2
    case step1 =>
      rintro x c st2 _ hx ⟨rfl, hB2, hR2, hz⟩
      refine wpS_bind (wpS_get ?_)
      by_cases c1 : (pendingOf st2).size ≤ 1
      · rw [if_pos c1]; exact wpS_pure ⟨rfl, hB2, hR2, c1⟩
      rw [if_neg c1]
      refine wpS_bind (m := mergeAt' _) (wpS_join h0 hB2 ?_ hR2 (Nat.le_refl _) fun st3 hB3 hz3 hR3 _ => ?_)
      · exact ite_lt (show (pendingOf st2).size - 2 - 1 + 1 < (pendingOf st2).size by omega) (show (pendingOf st2).size - 2 + 1 < (pendingOf st2).size by omega)
      · exact wpS_pure ⟨rfl, hB3, hR3, by omega⟩
  case step =>
    rintro x c st' _ hx ⟨lo, rfl, h1, h2, hB', hR⟩
    dsimp only
    by_cases c1 : lo ≥ a₀.size
    · rw [if_pos c1]
      have : lo = a₀.size := by omega
      subst this
      exact wpS_pure ⟨rfl, hB', hR⟩
    rw [if_neg c1]
    refine wpS_bind (m := countRun' lo (a₀.size - lo)) (wpS_run h0 hD hB' (by omega) (by omega) fun m st2 hB2 hp2 m1 m2 hs2 hk2 => ?_)
    dsimp only
    have hR2 : Runs (arrOf st2) (pendingOf st2).toList 0 lo := by rw [hp2]; exact hR.congr fun i _ hi => hk2 i hi
    have fin : ∀ (n : Nat) (st3 : SortSt), 1 ≤ n → lo + n ≤ a₀.size → SB a₀ st3 → Seg (arrOf st3) lo (lo + n) → Runs (arrOf st3) (pendingOf st3).toList 0 lo →
        (∃ lo', ((none, lo + n) : Option Unit × Nat) = (none, lo') ∧ x + 1 ≤ lo' ∧ lo' ≤ a₀.size ∧ SB a₀ (setPending st3 ((pendingOf st3).push (lo, n, 0))) ∧ Runs (arrOf st3) ((pendingOf st3).push (lo, n, 0)).toList 0 lo') := by
      intro n st3 hn1 hn2 hB3 hs3 hR3
      refine ⟨_, rfl, by omega, hn2, ⟨hB3.perm, hB3.kind, hB3.failed⟩, ?_⟩
      rw [Array.toList_push]
      exact Runs.app.mpr ⟨lo, hR3, rfl, by omega, hs3, rfl⟩
    by_cases c2 : m < (sortPriv% PySem.Builtin.minRun) a₀.size a₀.size 0
    case' pos =>
      rw [if_pos c2]
      refine wpS_bind (wpS_lift (wpAny_rule ⟨rfl, ?_⟩))
      refine wpS_bind (m := binarySort' lo (min (a₀.size - lo) ((sortPriv% PySem.Builtin.minRun) a₀.size a₀.size 0)) m) (wpS_ins h0 (by omega) (by omega) hB2 hs2 fun st3 hB3 hp3 hs3 hk3 => ?_)
      rw [if_neg (by decide)]
      have hn1 : 1 ≤ min (a₀.size - lo) ((sortPriv% PySem.Builtin.minRun) a₀.size a₀.size 0) := by omega
      have hn2 : lo + min (a₀.size - lo) ((sortPriv% PySem.Builtin.minRun) a₀.size a₀.size 0) ≤ a₀.size := by omega
      have hR3 : Runs (arrOf st3) (pendingOf st3).toList 0 lo := by rw [hp3]; exact hR2.congr fun i _ hi => hk3 i hi
      clear hB2 hs2 hR2 hk2 hp2 hp3 hk3 c2
      generalize min (a₀.size - lo) ((sortPriv% PySem.Builtin.minRun) a₀.size a₀.size 0) = n at *
    case' neg =>
      rw [if_neg c2]
      have hB3 := hB2
      have hs3 := hs2
      have hR3 := hR2
      have hn1 := m1
      have hn2 : lo + m ≤ a₀.size := by omega
      clear hB2 hs2 hR2 hk2 hp2 c2 m2 m1
      generalize st2 = st3 at *
      generalize m = n at *
    all_goals
      refine wpS_bind (wpS_get ?_)
      cases hb : (pendingOf st3).back? with
      | none =>
        dsimp only
        exact wpS_bind (wpS_modify (wpS_pure (fin _ _ hn1 hn2 hB3 hs3 hR3)))
      | some v =>
        obtain ⟨s1, n1, p1⟩ := v
        dsimp only
        generalize (sortPriv% PySem.Builtin.power) a₀.size (2 * s1 + n1) (2 * s1 + n1 + n1 + n) a₀.size = pw
        refine wpS_bind (wpS_mono (wpS_forRange (I := fun x c st' => c = (none, ()) ∧ SB a₀ st' ∧ Runs (arrOf st') (pendingOf st').toList 0 lo ∧ Seg (arrOf st') lo (lo + n))
          (Q := fun c st' => c = (none, ()) ∧ SB a₀ st' ∧ Runs (arrOf st') (pendingOf st').toList 0 lo ∧ Seg (arrOf st') lo (lo + n)) ?step2 ?fin2 ?init2) ?post2)
        case init2 => exact ⟨rfl, hB3, hR3, hs3⟩
        case fin2 => exact fun c st4 z => z
        case post2 =>
          rintro c st4 ⟨rfl, hB4, hR4, hs4⟩
          dsimp only
          refine wpS_bind (wpS_modify (wpS_bind (wpS_modify (wpS_pure ?_))))
          refine fin n (setPending st4 ((pendingOf st4).modify ((pendingOf st4).size - 1) fun x => (x.1, x.2.1, pw))) hn1 hn2 ⟨hB4.perm, hB4.kind, hB4.failed⟩ hs4 ?_
          show Runs (arrOf st4) ((pendingOf st4).modify ((pendingOf st4).size - 1) fun x => (x.1, x.2.1, pw)).toList 0 lo
          rw [Array.toList_modify]
          exact Runs.pw _ _ _ hR4
        case step2 =>
          rintro y c st4 _ hy ⟨rfl, hB4, hR4, hs4⟩
          refine wpS_bind (wpS_get ?_)
          by_cases c3 : (pendingOf st4).size > 1
          · obtain ⟨⟨b1, b2, b3⟩, eb⟩ : ∃ v, (pendingOf st4)[(pendingOf st4).size - 2]? = some v := ⟨_, Array.getElem?_eq_getElem (by omega)⟩
            rw [if_pos c3, show ((sortPriv% PySem.Builtin.SortState.pending) st4)[((sortPriv% PySem.Builtin.SortState.pending) st4).size - 2]? = some (b1, b2, b3) from eb]
            dsimp only
            by_cases c4 : b3 ≤ pw
            · rw [if_pos c4]; exact wpS_pure ⟨rfl, hB4, hR4, hs4⟩
            · rw [if_neg c4]
              refine wpS_bind (m := mergeAt' _) (wpS_join h0 hB4 (show (pendingOf st4).size - 2 + 1 < _ by omega) hR4 (by omega) fun st5 hB5 hz5 hR5 hk5 => ?_)
              exact wpS_pure ⟨rfl, hB5, hR5, fun p q u v z => by rw [hk5 p u, hk5 q (by omega)]; exact hs4 p q u v z⟩
          · rw [if_neg c3]; exact wpS_pure ⟨rfl, hB4, hR4, hs4⟩
end
end PyProof.Rows
namespace PySem.W
open PySem PySem.Calls PyProof.Rows
section
variable {prog : Program} {w : World} {A : Around} {E : Value → Shared → Prop} {s : Shared}
theorem list_sort_many {a : Addr} {vs : List Value} {ns : List Int} {n : Nat} {P : PySem.Fin → Shared → Prop} (ho : s.heap.get? a = some (seqObj "list" vs.toArray n)) (hI : IntsAre vs ns) (hd : ns.Nodup) (hz : vs.length ≤ sizeLine)
    (h : ∀ (out : Array Value) (ms : List Int), IntsAre out.toList ms → ms.Perm ns → ms.Pairwise (· ≤ ·) → P (.done (.ret .none)) { s with heap := sortedHeap s.heap a vs out }) : wpAny (model prog w) A (Builtin.«list.sort» ⟨[.ref a], []⟩) P E s := by
  by_cases h64 : vs.length < 64
  · exact list_sort_tree ho hI h64 h
  have h0 : (#[] : Array Value).size ≤ sizeLine + 1 := Nat.zero_le _
  rw [list_sort_plain]
  refine wpAny_bind (listItems_at ho rfl (wpAny_bind (listUpdate_at ho rfl ?_ hz h0)))
  obtain ⟨e1, ho1⟩ : ∃ e1, (s.heap.update a (Obj.mapSeq fun _ => (#[] : Array Value))).get? a = some (seqObj "list" #[] e1) := ⟨_, get?_update_seq ho (fun _ => #[])⟩
  refine wpAny_bind (seqEpoch_at ho1 rfl (wpAny_bind (wpAny_newTuple (wpAny_bind (wpAny_newList (wpAny_holding ?_) (Nat.zero_le _))) hz)))
  have ha : a < (s.heap.update a (Obj.mapSeq fun _ => (#[] : Array Value))).objs.size := Heap.lt_size ho1
  have ho6 : (((s.heap.update a (Obj.mapSeq fun _ => (#[] : Array Value))).push (seqObj "tuple" vs.toArray 0)).push (seqObj "list" #[] 0)).get? a = some (seqObj "list" #[] e1) := Heap.get?_push_of_some _ (Heap.get?_push_of_some _ ho1)
  show wpAny (model prog w) A _ P E { s with heap := ((s.heap.update a (Obj.mapSeq fun _ => (#[] : Array Value))).push (seqObj "tuple" vs.toArray 0)).push (seqObj "list" #[] 0) }
  dsimp only
  have h2 : ¬ vs.toArray.size < 2 := by rw [List.size_toArray]; omega
  rw [if_neg h2, if_neg h2]
  have hk : keyKind' vs.toArray = pure oneType' := by
    match vs, h64, hI with
    | [], h, _ => exact absurd (by simp) h
    | [_], h, _ => exact absurd (by simp) h
    | _ :: _ :: _, _, hI => exact keyKind_ints hI
  rw [hk]
  refine wpAny_bind (wpAny_pure ?_)
  have hD : Dst (pairsOf vs) := by
    unfold Dst
    rw [pairsOf_toList]
    have : (vs.zip vs).map (fun p => numOf p.1) = ns := by
      rw [show (vs.zip vs).map (fun p => numOf p.1) = ((vs.zip vs).map Prod.fst).map numOf by rw [List.map_map]; rfl, List.map_fst_zip (Nat.le_refl _), hI.nums]
    rw [this]
    exact hd
  refine wpAny_bind (wpAny_mono (wpS_runs (a₀ := pairsOf vs) (st := SortSt.mk' oneType' (vs.toArray.zip vs.toArray) #[] 7 none) (Q := fun _ st' => SB (pairsOf vs) st' ∧ PyProof.Rows.Seg (arrOf st') 0 (pairsOf vs).size) hI.intKeys hD ⟨Array.Perm.refl _, rfl, rfl⟩ rfl fun st' b1 b2 => ⟨b1, b2⟩) ?_ fun _ _ e => e)
  rintro ⟨⟨⟩, st'⟩ s' ⟨rfl, hB, hs⟩
  dsimp only
  have hl : ((arrOf st').map (·.2)).size = vs.length := (Array.size_map ..).trans (hB.perm.size_eq.trans (pairsOf_size _))
  refine wpAny_bind (seqEpoch_at ho6 rfl (wpAny_bind (listUpdate_at ho6 rfl ?_ (Nat.zero_le _) (Nat.le_trans (Nat.le_of_eq hl) (Nat.le_succ_of_le hz)))))
  rw [hB.failed]
  simp only [bne_self_eq_false, Bool.false_eq_true, if_false]
  obtain ⟨ms, c1, c2, c3⟩ := sorted_out hI hB.perm fun i j hij hj => hs i j (Nat.zero_le _) hij hj
  exact wpAny_pure (h _ ms c1 c2 c3)
end
end PySem.W
namespace PySem
open L2 PyProof.Rows PySem.Calls
section
variable {prog : Program} {w : World} {A : Around} {E : Value → Shared → Prop} {s : Shared} {K : Type} [DecidableEq K] {knd : KeyKind prog w K} {d : Addr} {kvs : List (K × Value)} {ep : Nat}
theorem sorted_dictI {Q : Value → Shared → Prop} {ns : List Int} (hh : A.handled = none) (lo : (d == sysModules) = false) (hm : s.heap.DictAt knd d kvs ep) (hn : kvs.length ≤ sizeLine) (hd : ns.Nodup)
    (hs : ∀ vs : List Value, vs.length = kvs.length → (∀ (j : Nat) v, vs[j]? = some v → ∃ q x, kvs[j]? = some (q, x) ∧ knd.is q v = true) → IntsAre vs ns)
    (k : ∀ (q : Addr) (vs : List Value) (ms : List Int) (h' : Heap) (n tk : Nat), s.heap.objs.size ≤ q → h'.get? q = some { cls := .type "list", data := .seq vs.toArray n } → IntsAre vs ms → ms.Perm ns → ms.Pairwise (· ≤ ·) → (∀ b o, s.heap.get? b = some o → h'.get? b = some o) → Q (.ref q) { s with heap := h', toks := tk }) :
    wpAny (model prog w) A (call (.builtin "sorted") [.ref d]) Q E s := by
  refine Calls.call_function_entry kind_sorted plain_sorted entry_sorted (args_sorted1 _) ?_
  unfold Builtin.«sorted»
  refine wpAny_bind (m := checkCount "sorted" 1 1 _) (wpAny_pure (wpAny_bind (collect_dict hh lo hm hn fun vs h1 tk hl hv hgt hk => wpAny_bind (wpAny_newList ?_ (by rw [hl]; exact hn)))))
  have hS := hs vs hl hv
  have g1 : (h1.push (seqObj "list" vs.toArray 0)).get? h1.objs.size = some (seqObj "list" vs.toArray 0) := Heap.get?_push_size _ rfl
  change wpAny _ _ _ _ _ { s with heap := h1.push (seqObj "list" vs.toArray 0), toks := tk }
  refine wpAny_bind (wpAny_holding (wpAny_call_entry slot_list_sort ⟨_, g1, rfl⟩ entry_list_sort (PySem.W.list_sort_many g1 hS hd (by rw [hl]; exact hn) fun out ms b1 b2 b3 => ⟨_, rfl, wpAny_pure ⟨_, rfl, ?_⟩⟩) (args_list_sort _)))
  have hz : (h1.push (seqObj "list" vs.toArray 0)).objs.size = h1.objs.size + 1 := size_push' ..
  obtain ⟨e, he⟩ := sortedHeap_at (out := out) g1
  refine k h1.objs.size out.toList ms _ e tk (Nat.le_of_lt hgt) (by rw [Array.toArray_toList]; exact he) b1 b2 b3 fun b o eb => ?_
  have hb := Heap.lt_size (hk b o eb)
  rw [sortedHeap_old (Nat.ne_of_lt hb) (by rw [hz]; exact Nat.lt_succ_of_lt hb)]
  exact Heap.get?_push_of_some _ (hk b o eb)
end
end PySem
namespace L2
open PySem PySem.Spec PyProof.Rows
section
variable {X : Cx}
noncomputable def rSortedDI : List V → Hp → VK → Prop := fun xs H Q => ∃ p, xs = [.ref p] ∧ ∃ kvs : List (Key × V), H p = some (.dK kvs) ∧ ∃ ns : List Int, kvs.map (·.1) = ns.map Sum.inl ∧ ns.Nodup ∧ ∀ (q : Addr) (ms : List Int), H q = none → ms.Perm ns → ms.Pairwise (· ≤ ·) → Q (.ref q) (upd H q (.lst (ms.map V.int)))
theorem ints_keys {P : Program} {w : World} : ∀ {ns : List Int} {kv : List (Key × Value)} {vs : List Value}, kv.map (·.1) = ns.map Sum.inl → vs.length = kv.length → (∀ (j : Nat) v, vs[j]? = some v → ∃ q x, kv[j]? = some (q, x) ∧ (mixKind P w).is q v = true) → IntsAre vs ns
  | [], [], [], _, _, _ => .nil
  | [], _ :: _, _, h, _, _ => by simp at h
  | _ :: _, [], _, h, _, _ => by simp at h
  | [], [], _ :: _, _, h, _ => by simp at h
  | _ :: _, _ :: _, [], _, h, _ => by simp at h
  | x :: ns, q :: kv, v :: vs, h1, h2, h3 => by
    simp only [List.map_cons, List.cons.injEq] at h1
    obtain ⟨k, y, e1, e2⟩ := h3 0 v rfl
    simp only [List.getElem?_cons_zero, Option.some.injEq] at e1
    subst e1
    have e3 : k = Sum.inl x := h1.1
    subst e3
    have ih := ints_keys (P := P) (w := w) (ns := ns) (kv := kv) (vs := vs) h1.2 (by simpa using h2) fun j v e => by simpa using h3 (j + 1) v (by simpa using e)
    rcases keyIs_shape (k := Sum.inl x) (v := v) e2 with ⟨i, t, ej, ek⟩ | ⟨z, t, ej, ek⟩
    · cases ej
      subst ek
      exact .cons _ _ ih
    · cases ej
theorem call_sortedDI (hc : X.calm = true) : CallR X (.builtin "sorted") rSortedDI := by
  intro pins s σ H xs us Q I r h
  obtain ⟨p, rfl, kvs, hp, ns, hk, hl, q⟩ := h
  obtain ⟨u, rfl, ru⟩ := vals1 r
  cases ru
  obtain ⟨z, hd, vs, rel, dd⟩ := dk_of I.hok hp
  obtain ⟨ep, da⟩ := dd.dictAt
  have hkv : vs.map (·.1) = ns.map Sum.inl := by rw [← rel.keys]; exact hk
  have l1 : vs.length = ns.length := by have := congrArg List.length hkv; simpa using this
  have l2 : kvs.length = ns.length := by have := congrArg List.length hk; simpa using this
  refine sorted_dictI (ns := ns) (I.ok.hd hc) hd da (by omega) hl (fun ws h1 h2 => ints_keys hkv h1 h2) fun a ws ms h' n tk ha hg hi hpm hso hold => ?_
  have new : ObjOk X.prog X.w (upd H a (.lst (ms.map V.int))) h' a (.lst (ms.map V.int)) := ⟨by rw [List.length_map, hpm.length_eq]; omega, ws, n, vals_ints hi, hg⟩
  have hf := I.hok.fresh ha
  refine ⟨.ref a, _, I.call (d' := s.drawn) (ch := []) (g' := s.gens) (t' := tk) (Un.laid hold ha hf) (I.hok.laid hold ha new) I.bare (fun _ z => nomatch z), rfl, q _ ms hf hpm hso⟩
end
end L2
namespace PySem
section
variable {prog : Program} {w : World} {A : Around} {E : Value → Shared → Prop} {s : Shared} {KK : Type} [DecidableEq KK] {knd : KeyKind prog w KK}
theorem nx_val {J d : Addr} {i ep : Nat} {kvs : List (KK × Value)} {k : KK} {v : Value} {Q : Value → Shared → Prop} (hit : s.heap.IsValIter J d i kvs.length ep) (hm : s.heap.DictAt knd d kvs ep) (hx : kvs[i]? = some (k, v))
    (hQ : ∀ g, g.IsValIter J d (i + 1) kvs.length ep → Heap.SameBut J s.heap g → Q v { s with heap := g }) : wpAny (model prog w) A (Builtin.SmallTypes.nextOf (.ref J)) Q E s := by
  obtain ⟨o, ho, hc, hd⟩ := id hit
  obtain ⟨od, es, hod, hcd, hdd, hk, hp, hn⟩ := id hm
  have hsz : es.size = kvs.length := by rw [← hp.length]; simp
  have hown : Builtin.Dict_items.ownsTuple "dict_valueiterator" = false := by decide
  have hlt' : i < es.size := by rw [hsz]; exact (List.getElem?_eq_some_iff.mp hx).1
  have hval : es[i].val = v := (hp.get? (e := es[i]) (by simp [hlt']) hx).2
  have hit' : (s.heap.update J (Obj.mapFields (·.setIfInBounds 1 (rawInt ((i : Int) + 1))))).IsValIter J d (i + 1) kvs.length ep := ⟨_, Heap.get?_update_self _ ho (Obj.isFreed_of_fields (Obj.data_mapFields hd _)), (Obj.cls_mapFields ..).trans hc, by rw [Obj.data_mapFields hd]; simp [rawInt]⟩
  unfold Builtin.SmallTypes.nextOf
  refine wpAny_bind (wpAny_callSpecial?_slot (name := Str.ofString "__next__") hit.typeIs F.slot_dict_valueiterator_next (wpAny_call_entry F.slot_dict_valueiterator_next hit.typeIs F.entry_dict_valueiterator_next (wpAny_bind (wpAny_pure (wpAny_bind (wpAny_bind ?_)))) (F.args_dict_valueiterator_next_1 _)))
  first | refine wpAny_bind (wpAny_typeNameOfWhole_valiter hit.typeIs (wpAny_pure (wpAny_bind (wpAny_fieldsOf ho hd ?_)))) | refine wpAny_bind (wpAny_typeNameOf_valiter hit.typeIs (wpAny_pure (wpAny_bind (wpAny_fieldsOf ho hd ?_))))
  simp only [hown, Bool.false_eq_true, if_false]
  change wpAny _ _ (if (Value.ref d == Value.none) = true then _ else _) _ _ s
  rw [if_neg (show ¬ ((Value.ref d == Value.none) = true) from Bool.false_ne_true)]
  refine wpAny_bind (wpAny_pure (wpAny_bind (wpAny_dictEntries hod hdd ?_)))
  rw [if_neg (by rw [hsz]; simp)]
  refine wpAny_bind (wpAny_pure (wpAny_bind (wpAny_dictEpoch hod hdd ?_)))
  rw [if_neg (by simp)]
  refine wpAny_pure ?_
  simp only [show ¬ ((i : Int) < 0) from by omega, if_false, Int.toNat_natCast, Array.getElem?_eq_getElem hlt']
  refine wpAny_bind ?_
  first | refine wpAny_bind (wpAny_typeNameOfWhole_valiter hit.typeIs (wpAny_pure (wpAny_bind (wpAny_isOneOf_valiter hit.typeIs ?_)))) | refine wpAny_bind (wpAny_typeNameOf_valiter hit.typeIs (wpAny_pure (wpAny_bind (wpAny_isOneOf_valiter hit.typeIs ?_))))
  change wpAny _ _ (setField (.ref J) 1 (rawInt ((i : Int) + 1)) >>= _) _ _ s
  refine wpAny_bind (wpAny_setField ho hd (by simp) (wpAny_bind (wpAny_holding (wpAny_bind ?_))))
  refine wpAny_isOneOf_valiter (s := { s with heap := s.heap.update J (Obj.mapFields (·.setIfInBounds 1 (rawInt ((i : Int) + 1)))) }) hit'.typeIs (wpAny_bind ?_)
  refine wpAny_isOneOf_valiter (s := { s with heap := s.heap.update J (Obj.mapFields (·.setIfInBounds 1 (rawInt ((i : Int) + 1)))) }) hit'.typeIs ?_
  change wpAny _ _ (pure es[i].val) _ _ _
  exact wpAny_pure (wpAny_pure ⟨_, rfl, wpAny_pure (hval ▸ hQ _ hit' (Heap.SameBut.update ..))⟩)
structure ZVal (g : Heap) (z P O I J S d : Addr) (i n ep : Nat) (f0 f1 : Value) : Prop where
  zz : g.get? z = some { cls := .type "zip", dict := none, data := .fields #[f0, f1, .bool false, .ref P, .ref O], slots := #[] }
  pp : IsPair g P (.ref I) (.ref J)
  oo : ∃ a b, IsPair g O a b
  ii : g.IsTupleIter I S i
  jj : g.IsValIter J d i n ep
theorem ZVal.keep {g g' : Heap} {z P O I J S d : Addr} {i n ep : Nat} {f0 f1 : Value} (h : ZVal g z P O I J S d i n ep f0 f1) (k : ∀ b ∈ [z, P, O, I, J], ∀ o, g.get? b = some o → g'.get? b = some o) : ZVal g' z P O I J S d i n ep f0 f1 := by
  obtain ⟨a, b, oo⟩ := h.oo
  obtain ⟨o, j1, j2⟩ := h.jj
  exact ⟨k z (by simp) _ h.zz, k P (by simp) _ h.pp, ⟨a, b, k O (by simp) _ oo⟩, h.ii.at fun o e => k I (by simp) o e, ⟨o, k J (by simp) _ j1, j2⟩⟩
theorem dictAt_but {g g' : Heap} {b d : Addr} {kvs : List (KK × Value)} {ep : Nat} (h : g.DictAt knd d kvs ep) (s : Heap.ExtBut b g g') (hb : d ≠ b) : g'.DictAt knd d kvs ep := by
  obtain ⟨o, es, ho, r⟩ := h
  exact ⟨o, es, s _ _ hb ho, r⟩
theorem zv_item {z P O I J S d : Addr} {i ep : Nat} {xs : Array Value} {kvs : List (KK × Value)} {q : KK} {x y : Value} {Q : Value → Shared → Prop} (D : ZipApart z P O I J S d) (Z : ZVal s.heap z P O I J S d i kvs.length ep .none (.bool false))
    (hS : s.heap.IsTuple S xs) (hT : s.heap.DictAt knd d kvs ep) (hx : xs[i]? = some x) (hy : kvs[i]? = some (q, y))
    (k : ∀ g, ZVal g z P O I J S d (i + 1) kvs.length ep (rawInt s.heap.objs.size) (.bool false) → IsPair g s.heap.objs.size x y →
      (∀ c o, c ≠ z → c ≠ O → c ≠ I → c ≠ J → s.heap.get? c = some o → g.get? c = some o) → Q (.ref s.heap.objs.size) { s with heap := g }) :
    wpAny (model prog w) A (Builtin.«zip.__next__» ⟨[.ref z], []⟩) (fun fin s' => ∃ v, fin = .done (.ret v) ∧ Q v s') E s := by
  have zz := Z.zz
  obtain ⟨a, b, oo⟩ := Z.oo
  change wpAny _ _ (field (.ref z) 2 >>= _) _ _ _
  refine wpAny_bind (wpAny_field zz rfl (x := .bool false) rfl ?_)
  change wpAny _ _ (field (.ref z) 3 >>= _) _ _ _
  refine wpAny_bind (wpAny_field zz rfl (x := .ref P) rfl (wpAny_bind (wpAny_seqItems Z.pp rfl ?_)))
  change wpAny _ _ (Builtin.SmallTypes.ownedTupleIsFree (.ref z) >>= _) _ _ _
  refine wpAny_bind (by
    unfold Builtin.SmallTypes.ownedTupleIsFree
    refine wpAny_bind (wpAny_field zz rfl (x := .none) rfl (wpAny_pure ?_))
    simp only [if_true]
    refine wpAny_bind (wpAny_rule (wpAny_bind (wpAny_field zz rfl (x := .ref O) rfl (wpAny_bind (wpAny_setField_rec zz (by simp) fun g1 z1 s1 => ?_)))))
    replace z1 : g1.get? z = some { cls := .type "zip", dict := none, data := .fields #[.ellipsis, .bool false, .bool false, .ref P, .ref O], slots := #[] } := z1
    refine wpAny_bind ?_
    simp only [List.zipIdx_cons, List.zipIdx_nil, List.forIn_cons, List.forIn_nil]
    refine wpAny_bind (wpAny_bind (wpAny_onRaise ?_))
    change wpAny _ _ (Builtin.SmallTypes.nextOf (.ref I) >>= _) _ _ _
    refine wpAny_bind (nx_tup (Z.ii.extBut s1.extBut D.i1z) (hS.extBut s1.extBut D.l1z) hx fun g2 i2 s2 => wpAny_pure ?_)
    have o2 : IsPair g2 O a b := s2.extBut _ _ D.TOi1 (s1.extBut _ _ D.TOz oo)
    refine wpAny_bind (wpAny_seqItems o2 rfl (wpAny_bind (wpAny_updateSeq_pair o2 fun g3 o3 s3 => ?_)))
    replace o3 : IsPair g3 O x b := o3
    refine wpAny_bind (wpAny_letGo (wpAny_pure (wpAny_bind (wpAny_bind (wpAny_onRaise ?_)))))
    change wpAny _ _ (Builtin.SmallTypes.nextOf (.ref J) >>= _) _ _ _
    refine wpAny_bind (nx_val (((Z.jj.extBut s1.extBut D.i2z).extBut s2.extBut D.i12.symm).extBut s3.extBut D.TOi2.symm) (dictAt_but (dictAt_but (dictAt_but hT s1.extBut D.l2z) s2.extBut D.l2i1) s3.extBut D.l2TO) hy fun g4 j4 s4 => wpAny_pure ?_)
    have o4 : IsPair g4 O x b := s4.extBut _ _ D.TOi2 o3
    refine wpAny_bind (wpAny_seqItems o4 rfl (wpAny_bind (wpAny_updateSeq_pair o4 fun g5 o5 s5 => ?_)))
    replace o5 : IsPair g5 O x y := o5
    refine wpAny_bind (wpAny_letGo (wpAny_pure (wpAny_pure (wpAny_bind (wpAny_seqItems o5 rfl (wpAny_bind (wpAny_newTuple ?_)))))))
    have sz : g5.objs.size = s.heap.objs.size := by rw [s5.1, s4.1, s3.1, s2.1, s1.1]
    have z5 := s5.extBut _ _ D.TOz.symm (s4.extBut _ _ D.i2z.symm (s3.extBut _ _ D.TOz.symm (s2.extBut _ _ D.i1z.symm z1)))
    have k5 : ∀ c o, c ≠ z → c ≠ O → c ≠ I → c ≠ J → s.heap.get? c = some o → g5.get? c = some o := fun c o c1 c2 c3 c4 e =>
      s5.extBut _ _ c2 (s4.extBut _ _ c4 (s3.extBut _ _ c2 (s2.extBut _ _ c3 (s1.extBut _ _ c1 e))))
    have i5 : g5.IsTupleIter I S (i + 1) := ((i2.extBut s3.extBut D.TOi1.symm).extBut s4.extBut D.i12).extBut s5.extBut D.TOi1.symm
    have j5 : g5.IsValIter J d (i + 1) kvs.length ep := j4.extBut s5.extBut D.TOi2.symm
    have zl : z < g5.objs.size := Heap.lt_size z5
    change wpAny _ _ (Builtin.SmallTypes.ownedTupleHandOut (.ref z) (.ref g5.objs.size) >>= _) _ _ _
    refine wpAny_bind ?_
    unfold Builtin.SmallTypes.ownedTupleHandOut
    have z6 := Heap.get?_push_of_some { cls := .type "tuple", data := .seq #[x, y] } z5
    refine wpAny_bind (wpAny_setField_rec z6 (by simp) fun g7 z7 s7 => wpAny_setField_rec z7 (by simp) fun g8 z8 s8 => ?_)
    have up : ∀ c o, c ≠ z → g5.get? c = some o → g8.get? c = some o := fun c o c1 e => s8.extBut _ _ c1 (s7.extBut _ _ c1 (Heap.get?_push_of_some _ e))
    have t8 : IsPair g8 g5.objs.size x y := s8.extBut _ _ (Nat.ne_of_gt zl) (s7.extBut _ _ (Nat.ne_of_gt zl) (Heap.get?_push_size _ rfl))
    refine wpAny_pure ⟨_, rfl, ?_⟩
    obtain ⟨oj, ej, rj⟩ := j5
    have zf : ZVal g8 z P O I J S d (i + 1) kvs.length ep (rawInt g5.objs.size) (.bool false) :=
      ⟨z8, up _ _ D.TIz (k5 _ _ D.TIz D.TITO D.TIi1 D.TIi2 Z.pp), ⟨x, y, up _ _ D.TOz o5⟩, i5.at fun o e => up _ o D.i1z e, ⟨oj, up _ _ D.i2z ej, rj⟩⟩
    rw [sz] at zf t8
    change Q (.ref g5.objs.size) _
    rw [sz]
    exact k g8 zf t8 fun c o c1 c2 c3 c4 e => up c o c1 (k5 c o c1 c2 c3 c4 e))
theorem zv_end {z P O I J S d : Addr} {i n ep : Nat} {xs : Array Value} {Q : Fin → Shared → Prop} (hd : A.handled = none) (D : ZipApart z P O I J S d) (Z : ZVal s.heap z P O I J S d i n ep .none (.bool false)) (hS : s.heap.IsTuple S xs) (hx : xs[i]? = none)
    (k : ∀ g e, (∀ c o, c ≠ z → c ≠ O → c ≠ I → c ≠ J → s.heap.get? c = some o → g.get? c = some o) → (∃ o, g.get? e = some o ∧ o.cls = .type "StopIteration") → E (.ref e) { s with heap := g }) : wpAny (model prog w) A (Builtin.«zip.__next__» ⟨[.ref z], []⟩) Q E s := by
  have zz := Z.zz
  change wpAny _ _ (field (.ref z) 2 >>= _) _ _ _
  refine wpAny_bind (wpAny_field zz rfl (x := .bool false) rfl ?_)
  change wpAny _ _ (field (.ref z) 3 >>= _) _ _ _
  refine wpAny_bind (wpAny_field zz rfl (x := .ref P) rfl (wpAny_bind (wpAny_seqItems Z.pp rfl ?_)))
  change wpAny _ _ (Builtin.SmallTypes.ownedTupleIsFree (.ref z) >>= _) _ _ _
  refine wpAny_bind (by
    unfold Builtin.SmallTypes.ownedTupleIsFree
    refine wpAny_bind (wpAny_field zz rfl (x := .none) rfl (wpAny_pure ?_))
    simp only [if_true]
    refine wpAny_bind (wpAny_rule (wpAny_bind (wpAny_field zz rfl (x := .ref O) rfl (wpAny_bind (wpAny_setField_rec zz (by simp) fun g1 z1 s1 => wpAny_bind ?_)))))
    simp only [List.zipIdx_cons, List.zipIdx_nil, List.forIn_cons, List.forIn_nil]
    refine wpAny_bind (wpAny_bind (wpAny_onRaise ?_))
    change wpAny _ _ (Builtin.SmallTypes.nextOf (.ref I) >>= _) _ _ _
    refine wpAny_bind (nx_tup_end hd (Z.ii.extBut s1.extBut D.i1z) (hS.extBut s1.extBut D.l1z) hx fun g2 e s2 he => ?_)
    obtain ⟨oe, he1, he2⟩ := he
    have z2 := s2 _ _ D.i1z.symm z1
    have ez : e ≠ z := fun q => by subst q; rw [z2] at he1; cases he1; simp at he2
    exact wpAny_setField_rec z2 (by simp) fun g3 _ s3 => k g3 e (fun c o c1 _ c3 _ q => s3.extBut _ _ c1 (s2 _ _ c3 (s1.extBut _ _ c1 q))) ⟨oe, s3.extBut _ _ ez he1, he2⟩)
theorem zv_laid {hp : Heap} {S V d : Addr} {n ep : Nat} (h1 : S < hp.objs.size) (h2 : d < hp.objs.size) {G1 G2 G3 G4 G5 : Heap} (e1 : G1 = hp.push { cls := .type "tuple_iterator", data := .fields #[.ref S, .int 0 0] })
    (e2 : G2 = G1.push { cls := .type "dict_valueiterator", data := .fields #[.ref d, .int 0 0, .int n 0, .int ep 0] }) (e3 : G3 = G2.push { cls := .type "tuple", data := .seq #[.ref hp.objs.size, .ref G1.objs.size] }) (e4 : G4 = G3.push { cls := .type "tuple", data := .seq #[.none, .none] })
    (e5 : G5 = G4.push { cls := .type "zip", data := .fields #[.none, .bool false, .bool false, .ref G2.objs.size, .ref G3.objs.size] }) :
    ZVal G5 G4.objs.size G2.objs.size G3.objs.size hp.objs.size G1.objs.size S d 0 n ep .none (.bool false) ∧ ZipApart G4.objs.size G2.objs.size G3.objs.size hp.objs.size G1.objs.size S d ∧ hp.objs.size ≤ G4.objs.size ∧ hp.objs.size ≤ G3.objs.size ∧ hp.objs.size ≤ G2.objs.size ∧ hp.objs.size ≤ G1.objs.size ∧ ∀ c o, hp.get? c = some o → G5.get? c = some o := by
  have n1 : G1.objs.size = hp.objs.size + 1 := by rw [e1, Heap.size_push]
  have n2 : G2.objs.size = hp.objs.size + 2 := by rw [e2, Heap.size_push, n1]
  have n3 : G3.objs.size = hp.objs.size + 3 := by rw [e3, Heap.size_push, n2]
  have n4 : G4.objs.size = hp.objs.size + 4 := by rw [e4, Heap.size_push, n3]
  have p5 : ∀ c o, G4.get? c = some o → G5.get? c = some o := fun c o e => by rw [e5]; exact Heap.get?_push_of_some _ e
  have p4 : ∀ c o, G3.get? c = some o → G5.get? c = some o := fun c o e => p5 c o (by rw [e4]; exact Heap.get?_push_of_some _ e)
  have p3 : ∀ c o, G2.get? c = some o → G5.get? c = some o := fun c o e => p4 c o (by rw [e3]; exact Heap.get?_push_of_some _ e)
  have p2 : ∀ c o, G1.get? c = some o → G5.get? c = some o := fun c o e => p3 c o (by rw [e2]; exact Heap.get?_push_of_some _ e)
  have p1 : ∀ c o, hp.get? c = some o → G5.get? c = some o := fun c o e => p2 c o (by rw [e1]; exact Heap.get?_push_of_some _ e)
  refine ⟨⟨by rw [e5]; exact Heap.get?_push_size _ rfl, p4 _ _ (by rw [e3]; exact Heap.get?_push_size _ rfl), ⟨.none, .none, p5 _ _ (by rw [e4]; exact Heap.get?_push_size _ rfl)⟩, ⟨_, p2 _ _ (by rw [e1]; exact Heap.get?_push_size _ rfl), rfl, rfl⟩, ⟨_, p3 _ _ (by rw [e2]; exact Heap.get?_push_size _ rfl), rfl, rfl⟩⟩, ?_, by omega, by omega, by omega, by omega, p1⟩
  rw [n1, n2, n3, n4]
  exact PyProof.Rows.zipApart_new h1 h2
theorem zipv_made (knd : KeyKind prog w KK) (S V d : Addr) (xs : Array Value) (kvs : List (KK × Value)) (ep : Nat) : MeetsIn prog w (Builtin.«zip.__new__» ⟨[.type "zip", .ref S, .ref V], []⟩) (fun _ R s => s.heap.IsTuple S xs ∧ s.heap.IsValuesView V d ∧ s.heap.DictAt knd d kvs ep ∧
      ∀ g z P O I J, ZVal g z P O I J S d 0 kvs.length ep .none (.bool false) → ZipApart z P O I J S d → s.heap.objs.size ≤ z → s.heap.objs.size ≤ P → s.heap.objs.size ≤ O → s.heap.objs.size ≤ I → s.heap.objs.size ≤ J → (∀ c o, s.heap.get? c = some o → g.get? c = some o) → R (.ok (.ret (.ref z))) { s with heap := g }) :=
  .of_wp fun A R s h => by
    obtain ⟨hp, g, dd, tk, os⟩ := s; obtain ⟨h1, h2, h3, h⟩ := h
    have hsub := sub_zip
    have q1 : Heap.IsTuple (Shared.heap ⟨hp, g, dd, tk, os⟩) S xs := h1
    have q2 : Heap.IsValuesView (Shared.heap ⟨hp.push { cls := .type "tuple_iterator", data := .fields #[.ref S, .int 0 0] }, g, dd, tk, os⟩) V d := by
      obtain ⟨o, a, b⟩ := h2; exact ⟨o, Heap.get?_push_of_some _ a, b⟩
    have q3 : Heap.DictAt knd (Shared.heap ⟨hp.push { cls := .type "tuple_iterator", data := .fields #[.ref S, .int 0 0] }, g, dd, tk, os⟩) d kvs ep := h3.push _
    wp_walk using wpAny_pyIter_tuple q1, wpAny_pyIter_values (knd := knd) q2 q3
    obtain ⟨oS, hS, _⟩ := id h1
    obtain ⟨za, zb, n4, n3, n2, n1, zc⟩ := zv_laid (hp := hp) (V := V) (n := kvs.length) (ep := ep) (Heap.lt_size hS) h3.lt_size rfl rfl rfl rfl rfl
    exact ⟨_, rfl, h _ _ _ _ _ _ za zb n4 n2 n3 (Nat.le_refl _) n1 zc⟩
end
end PySem
namespace L2
open PySem PySem.Spec PyProof.Rows
noncomputable def Itzv (K : PySem.W.Frag) (a d : Addr) (o : Obj) (kvs : List (Key × V)) : It :=
  ⟨fun i H => H d = some (.frz o (.dK kvs)) ∧ i < kvs.length ∧ ∃ xs x, SqT K H a xs ∧ xs[i]? = some x,
   fun i H v H' => ∃ t x y, H t = none ∧ v = .ref t ∧ H' = upd H t (.tup [x, y]) ∧ (∀ xs, SqT K H a xs → xs[i]? = some x) ∧ ∃ k, kvs[i]? = some (k, y),
   fun i H => ∃ xs, SqT K H a xs ∧ xs[i]? = none⟩
theorem turn_zipV {P : Program} {w : World} {K : PySem.W.Frag} {es : List Expr} {x1} {pos : Pos} (a d z Q O I J : Addr) (D : ZipApart z Q O I J a d) (o : Obj) (kvs : List (Key × V)) (ep : Nat) (hep : ∃ es, o.data = .dict es ep) :
    Turn P w K (.Tuple es x1 pos) (Itzv K a d o kvs) [z, Q, O, I, J] z (fun i h => ZVal h z Q O I J a d i kvs.length ep .none (.bool false)) where
  mem := by simp
  obj := fun i h st c hc => by
    obtain ⟨u, v, oo⟩ := st.oo
    obtain ⟨oi, i1, i2, i3⟩ := st.ii
    obtain ⟨oj, j1, j2, j3⟩ := st.jj
    simp only [List.mem_cons, List.not_mem_nil, or_false] at hc
    rcases hc with rfl | rfl | rfl | rfl | rfl
    · exact ⟨_, st.zz, fun v z => by cases z⟩
    · exact ⟨_, st.pp, fun v z => by cases z⟩
    · exact ⟨_, oo, fun v z => by cases z⟩
    · exact ⟨oi, i1, fun v z => by rw [i3] at z; cases z⟩
    · exact ⟨oj, j1, fun v z => by rw [j3] at z; cases z⟩
  keep := fun i h h' st k => st.keep k
  item := by
    intro X hP hw hK hc i pins s σ H E In hf st hg
    subst hP hw hK
    obtain ⟨hdd, hi, xs, x, hq, hx⟩ := hg
    obtain ⟨ho, hz, hd, vs, rel, od, es, ep', hod, hr⟩ := (show s.heap.get? d = some o ∧ ObjOk X.prog X.w H s.heap d (.dK kvs) from In.hok d _ hdd)
    rw [ho] at hod
    cases hod
    obtain ⟨es0, he0⟩ := hep
    have eep : ep' = ep := by
      have := hr.2.1
      rw [he0] at this
      cases this
      rfl
    subst eep
    have hlen := rel.length
    obtain ⟨k, y, hkv⟩ : ∃ k v, kvs[i]? = some (k, v) := ⟨kvs[i].1, kvs[i].2, by simp [hi]⟩
    obtain ⟨u2, hu2, ru2⟩ := kv_get rel hkv
    obtain ⟨its, rv, p, hz'⟩ := In.tuple hq
    obtain ⟨u, hu, ru⟩ := rv.get hx
    have hT : s.TypeIs (.ref z) "zip" := ⟨_, st.zz, rfl⟩
    have st' := st
    rw [hlen] at st'
    unfold pyNext
    refine wpAny_bind (wpAny_attempt (wpAny_callSpecial?_slot (name := Str.ofString "__next__") hT F.slot_zip_next (wpAny_call_entry F.slot_zip_next hT F.entry_zip_next (zv_item (knd := mixKind X.prog X.w) (kvs := vs) D st' (show s.heap.IsTuple a its.toArray from p) ⟨o, es, ho, hr⟩ (x := u) (y := u2) (by simpa using hu) hu2 fun g Z1 t1 k1 => wpAny_pure ⟨_, rfl, ?_⟩) (F.args_zip_next_1 _))))
    have hnew : H s.heap.objs.size = none := In.hok.fresh (Nat.le_refl _)
    refine wpAny_letOwnedTupleGo_zip (s := { s with heap := g }) Z1.zz fun g2 z2 s2 => ?_
    have nn : ∀ c ∈ [z, Q, O, I, J], c ≠ s.heap.objs.size := fun c hc e => by
      obtain ⟨u', v', oo⟩ := st.oo
      obtain ⟨oi, i1, _⟩ := st.ii
      obtain ⟨oj, j1, _⟩ := st.jj
      simp only [List.mem_cons, List.not_mem_nil, or_false] at hc
      rcases hc with rfl | rfl | rfl | rfl | rfl
      · exact absurd (Heap.lt_size st.zz) (by rw [e]; exact Nat.lt_irrefl _)
      · exact absurd (Heap.lt_size st.pp) (by rw [e]; exact Nat.lt_irrefl _)
      · exact absurd (Heap.lt_size oo) (by rw [e]; exact Nat.lt_irrefl _)
      · exact absurd (Heap.lt_size i1) (by rw [e]; exact Nat.lt_irrefl _)
      · exact absurd (Heap.lt_size j1) (by rw [e]; exact Nat.lt_irrefl _)
    have Z2 : ZVal g2 z Q O I J a d (i + 1) kvs.length ep' .none (.bool false) := by
      obtain ⟨u', v', oo⟩ := Z1.oo
      rw [hlen]
      exact ⟨z2, s2.extBut _ _ D.TIz Z1.pp, ⟨u', v', s2.extBut _ _ D.TOz oo⟩, Z1.ii.extBut s2.extBut D.i1z, Z1.jj.extBut s2.extBut D.i2z⟩
    have I2 : Inv X pins σ (upd H s.heap.objs.size (.tup [x, y])) { s with heap := g2 } := In.turnedNew (t' := s.toks) (fp := [z, Q, O, I, J]) (fun c o hc e => by
        simp only [List.mem_cons, List.not_mem_nil, or_false, not_or] at hc
        exact s2.extBut _ _ hc.1 (k1 c o hc.1 hc.2.2.1 hc.2.2.2.1 hc.2.2.2.2 e)) hf (Nat.le_refl _)
      ⟨by show 2 ≤ sizeLine; decide, [u, u2], .cons ru (.cons ru2 .nil), ⟨_, s2.extBut _ _ (nn z (by simp)).symm t1, rfl, _, rfl⟩⟩
    exact ⟨.ref s.heap.objs.size, _, I2, rfl, ⟨_, x, y, hnew, rfl, rfl, fun zs hzs => by rw [In.tuple_inj hzs hq]; exact hx, k, hkv⟩, Z2, fun c hc => by rw [upd_ne (nn c hc)]; exact (hf c hc).1⟩
  done := by
    intro X hP hw hK hc i pins s σ H E In hf st hg
    subst hP hw hK
    obtain ⟨xs, hq, hx⟩ := hg
    obtain ⟨its, rv, p, hz⟩ := In.tuple hq
    have hT : s.TypeIs (.ref z) "zip" := ⟨_, st.zz, rfl⟩
    unfold pyNext
    refine wpAny_bind (wpAny_attempt (wpAny_callSpecial?_slot (name := Str.ofString "__next__") hT F.slot_zip_next (wpAny_call_entry F.slot_zip_next hT F.entry_zip_next (zv_end (In.ok.hd hc) D st (show s.heap.IsTuple a its.toArray from p) (by simpa using vals_none rv hx) fun g e kg he => ?_) (F.args_zip_next_1 _))))
    obtain ⟨o, ho, hcl⟩ := he
    refine wpAny_bind (wpAny_isInstance (T := "StopIteration") (b := true) ⟨o, ho, hcl⟩ isSubtype_stop ?_)
    exact wpAny_pure ⟨rfl, In.turnedL (t' := s.toks) (fp := [z, Q, O, I, J]) (fun c o hc e => by
        simp only [List.mem_cons, List.not_mem_nil, or_false, not_or] at hc
        exact kg c o hc.1 hc.2.2.1 hc.2.2.2.1 hc.2.2.2.2 e) hf⟩
  self := fun _ _ _ _ _ st h => wpAny_pyIter_zipT st.zz h
noncomputable def iZV (K : PySem.W.Frag) (ta td : TE) : TI := fun σ H R => ta σ H fun x H1 => ∃ a, x = .ref a ∧ td σ H1 fun y H2 => ∃ d, y = .ref d ∧ ∃ kvs, H2 d = some (.dK kvs) ∧ ∃ xs, H2 a = some (.tup xs) ∧ ∀ o, R (Itzv K a d o kvs) (upd H2 d (.frz o (.dK kvs)))
section
variable {X : Cx} {K : PySem.W.Frag} {e1 oe : Expr} {ta td : TE} {p pos pos' apos cpos : Pos} {es : List Expr}
theorem pi_zipV {x1} (hK : X.K = K) (hg : Gl X "zip") (hm : X.mg "zip" = none) (ha : PE X e1 ta) (ho : PE X oe td) (hs : starEach [e1, .Call (.Attribute oe "values" apos) [] [] cpos] X.env = [(false, eval e1 X.env), (false, eval (.Call (.Attribute oe "values" apos) [] [] cpos) X.env)] := by rfl)
    (hs2 : starEach [.Call (.Attribute oe "values" apos) [] [] cpos] X.env = [(false, eval (.Call (.Attribute oe "values" apos) [] [] cpos) X.env)] := by rfl) (hbase : attributeBase oe "values" X.env (eval oe X.env) = eval oe X.env := by rfl) (hline : (apos.endLine == cpos.line) = true := by rfl) :
    PI X (.Tuple es x1 pos') (.Call (.Name "zip" p) [e1, .Call (.Attribute oe "values" apos) [] [] cpos] [] pos) (iZV K ta td) := by
  subst hK
  intro pins s σ H R I h
  refine Call_ (ld_blt I hg hm boot_zip' (PyProof.Rows.callWith_type1 ?_ (by rw [hs, hs2]) (by rw [hs2]; rfl)))
  rw [hs]
  change wpAny _ _ (spliced [(false, eval e1 X.env), (false, eval (.Call (.Attribute oe "values" apos) [] [] cpos) X.env)]) _ _ s
  refine Calls.spliced_cons (thn (ha pins s σ H _ I h) fun u s0 zr7098 => ?_)
  obtain ⟨x, H0, I0, r0, q0⟩ := zr7098
  obtain ⟨a, rfl, q0⟩ := q0
  cases r0
  refine Calls.spliced_cons (wpAny_Call_method0_late hbase hline (thn (ho pins s0 σ H0 _ I0 q0) fun v s1 zr7101 => ?_))
  obtain ⟨y, H1, I1, r1, d, ex, kvs, hq, xs, hxs, q⟩ := zr7101
  subst ex
  cases r1
  obtain ⟨hz, hd, vs, rel, od, es', ep, hod, hr⟩ := dk_of I1.hok hq
  obtain ⟨t1, t2, _⟩ := isD_at I1 (.inl ⟨_, .inl hq⟩)
  refine ⟨"dict", "dict.values", PySem.F.plainAttrs_dict, PySem.F.slot_dict_values, PySem.F.type_dict_values, t1, t2, ?_⟩
  refine method_meetsIn PySem.F.slot_dict_values PySem.F.entry_dict_values rfl (PySem.evalArgs_none ⟨rfl, t1, PySem.F.args_dict_values_1 _, _, meets_dict_values (mixKind X.prog X.w) d hd, ⟨vs, od, es', ep, hod, hr⟩, ?_⟩)
  refine Calls.spliced_nil ?_
  obtain ⟨its, rv, pl, hzz⟩ := I1.tuple (SqT.of hxs)
  have pp : ∀ b o, s1.heap.get? b = some o → (s1.heap.push { cls := .type "dict_values", data := .fields #[.ref d] }).get? b = some o := fun b o e => Heap.get?_push_of_some _ e
  refine callType_newIn (s := { s1 with heap := s1.heap.push { cls := .type "dict_values", data := .fields #[.ref d] } }) F.called_zip (by decide) (F.typeCall_zip_2 _ _) (F.newCall_zip_2 _ _) (fun obj => F.args_object_init_3 obj _ _) F.entry_zip_new (zipv_made (mixKind X.prog X.w) a s1.heap.objs.size d its.toArray vs ep) ⟨(show s1.heap.IsTuple a its.toArray from pl).at fun o e => pp a o e, ⟨_, Heap.get?_push_size _ rfl, rfl, rfl⟩, ⟨od, es', pp _ _ hod, hr⟩, fun g z P O II J Z D l1 l2 l3 l4 l5 kg => ⟨⟨_, Z.zz, rfl⟩, ?_⟩⟩
  have hsz : (s1.heap.push { cls := .type "dict_values", data := .fields #[.ref d] }).objs.size = s1.heap.objs.size + 1 := Heap.size_push ..
  have le1 : ∀ c, (s1.heap.push { cls := .type "dict_values", data := .fields #[.ref d] }).objs.size ≤ c → s1.heap.objs.size ≤ c := fun c hc => by rw [hsz] at hc; exact Nat.le_of_succ_le hc
  have hn : ∀ ob u, X.H₀ d ≠ some (.frz ob u) := fun ob u e => by have := I1.base.frzs d ob u e; rw [hq] at this; cases this
  have I2 : Inv X pins σ H1 { s1 with heap := g } := I1.kept (t' := s1.toks) fun b o e => kg b o (pp b o e)
  have ok2 := I2.hok d _ hq
  have I3 := I2.retag (o' := .frz od (.dK kvs)) hq (by intro y z; cases z) (by intro y z; cases z) hn (by intro y z; cases z) ⟨kg _ _ (pp _ _ hod), ok2⟩
  have hlen := rel.length
  refine wpAny_pyIter_zipT (s := { s1 with heap := g }) Z.zz ⟨z, [z, P, O, II, J], _, _, _, rfl, I3, turn_zipV a d z P O II J D od kvs ep ⟨es', hr.2.1⟩, by rw [hlen]; exact Z, fun c hc => ?_, q od⟩
  have fr : ∀ c, s1.heap.objs.size ≤ c → FpOk X pins (upd H1 d (.frz od (.dK kvs))) c := fun c hc => by
    have hf := I1.hok.fresh hc
    exact I1.fpOk hc (by rw [upd_ne (fun z => by rw [z, hq] at hf; cases hf)]; exact hf)
  simp only [List.mem_cons, List.not_mem_nil, or_false] at hc
  rcases hc with rfl | rfl | rfl | rfl | rfl
  · exact fr _ (le1 _ l1)
  · exact fr _ (le1 _ l2)
  · exact fr _ (le1 _ l3)
  · exact fr _ (le1 _ l4)
  · exact fr _ (le1 _ l5)
theorem comp_zvg {a d : Addr} {o : Obj} {kvs : List (Key × V)} {xs : List V} {g : TG} {tc : TT} {te : TE} {σ0 : St} {Q : VK} {H1 : Hp} {D : Addr} (Pv : Nat → List V → Hp → Prop) (h0 : Pv 0 [] (upd H1 D (.lst []))) (hle : xs.length ≤ kvs.length) (hl : ∀ i ys H, Pv i ys H → SqT K H a xs ∧ H d = some (.frz o (.dK kvs)))
    (hs : ∀ (i : Nat) (x y : V) (k : Key) (ys : List V) (H : Hp) (t : Addr), xs[i]? = some x → kvs[i]? = some (k, y) → Pv i ys H → H t = none → g (.ref t) σ0 (upd H t (.tup [x, y])) fun σ2 H3 => tc σ2 H3 fun c H4 => if c = true then te σ2 H4 fun v H5 => H5 D = some (.lst ys) ∧ ys.length < sizeLine ∧ Pv (i + 1) (ys ++ [v]) (upd H5 D (.lst (ys ++ [v]))) else Pv (i + 1) ys H4)
    (hd : ∀ ys H, Pv xs.length ys H → Q (.ref D) H) : CompG (Itzv K a d o kvs) σ0 g tc te Q H1 D := by
  refine ⟨fun i m ys H => Pv i ys H ∧ i ≤ xs.length ∧ m = xs.length - i, ⟨_, h0, Nat.zero_le _, rfl⟩, ?_⟩
  rintro i m ys H ⟨hp, hi, rfl⟩
  obtain ⟨sa, sb⟩ := hl i ys H hp
  by_cases hin : i = xs.length
  · left
    subst hin
    exact ⟨⟨xs, sa, List.getElem?_eq_none_iff.mpr (Nat.le_refl _)⟩, hd ys H hp⟩
  · right
    have h1 : i < xs.length := by omega
    refine ⟨⟨sb, by omega, xs, xs[i], sa, by simp [h1]⟩, fun ys' H' => Pv (i + 1) ys' H', fun ys' H' h => ⟨_, by omega, h, by omega, rfl⟩, ?_⟩
    rintro v H' ⟨t, x, y, ht, rfl, rfl, e1, k, e2⟩
    exact hs i x y k ys H t (e1 xs sa) e2 hp ht
end
end L2
namespace L2
open PySem PySem.Spec PyProof.Rows
theorem tgOk_nest : TgOk (gTupT 2 (gCons (gTupT 2 (gCons (gName 0) (gCons (gName 1) gNil))) (gCons (gName 2) gNil))) 3 := by
  intro x σ0 H Q h q
  obtain ⟨a, e, xs, sq, l, v, r, e2, b, e3, zs, sz, lz, v1, r1, f1, v2, r2, f2, f3, v3, r3, f4, f5, q⟩ := q
  refine ⟨a, e, xs, sq, l, v, r, e2, b, e3, zs, sz, lz, v1, r1, f1, v2, r2, f2, f3, v3, r3, f4, f5, ((Wk.set (h 0 (by decide))).trans (Wk.set ?_)).trans (Wk.set ?_), q⟩
  · rw [List.getElem?_set_ne (by decide)]; exact h 1 (by decide)
  · rw [List.getElem?_set_ne (by decide), List.getElem?_set_ne (by decide)]; exact h 2 (by decide)
end L2
namespace Lw
open PySem L2
local macro_rules | `(tactic| ctx_has vcx $ids*) => `(tactic| ((try dsimp only [tVarM, List.map, List.append_eq, List.set, L2.start, List.length_cons, List.length_nil, List.replicate, List.cons_append, List.nil_append, Nat.reduceAdd, Nat.reduceSub, Nat.zero_add, Nat.add_zero, tYes, iRng1, iRng2, rIsB, IsB, rAll, rAny, rSum, tSeq, tNext, tIfS, tRet, tDrop, tAsg, gName, tVar, tC, tOp, tUn, tTest, tB, tAnd, tOr, tNot, tAndV, tOrV, tNotV, tChain, tCB, tCall, tCons, tNil, tLst, tTup, tDG, sDP, rI0, rI, rU, rEq, rNe, rLenL, rLenT, rIL, rIT, rIS, rSL, rSQ, rSlS, iL, iT, tML, tMS, rmJoin, rmIndex, tFldC, sFldC, tMethC, tMakeC, rDictD, tDNewK, rMinL, rMaxL, iE, iV, iD, tIsN, gTupT, gCons, gNil, rmAppend, rmPop, rInL, rInT, rTupL, rCS, rLenS, tListRev, tDisp, tPairs, rAllL, rAnyL, tSl, tNoPart, tPart, List.set_cons_zero, List.set_cons_succ, List.getElem?_cons_zero, List.getElem?_cons_succ, List.map_cons, List.map_nil]); (simp only [tVarM, cxK, cpK, tComp_eq, tFor_eq, inner0, inner1, inner2, inner3, Option.join_some, tYes, iRng1, iRng2, rIsB, IsB, rAll, rAny, rSum, tSeq, tNext, tIfS, tRet, tDrop, tAsg, gName, tVar, tC, tOp, tUn, tTest, tB, tAnd, tOr, tNot, tAndV, tOrV, tNotV, tChain, tCB, tCall, tCons, tNil, tLst, tTup, tDG, sDP, ex_kS, ex_kI, rI0, rI, rU, rEq, rNe, scal_ii, scal_ss, scal_bb, scal_nn, scal_in, scal_si, rLenL, rLenT, rIL, rIT, rIS, rSL, rSQ, rSlS, iL, iT, tML, tMS, rmJoin, rmIndex, tFldC, sFldC, tMethC, tMakeC, rDictD, tDNewK, rMinL, rMaxL, iE, iV, iD, tIsN, gTupT, gCons, gNil, atI0, atI1, atI2, atI3, atI4, ofS_inj, rmAppend, rmPop, rInL, rInT, rTupL, rCS, rLenS, tListRev, tDisp, tPairs, HO.dK.injEq, HO.lst.injEq, HO.tup.injEq, HO.ins.injEq, rAllL, rAnyL, tSl, tNoPart, tPart, L2.start, List.map_cons, List.map_nil, List.length_cons, List.length_nil, List.replicate, List.cons_append, List.nil_append, List.append_nil, List.getElem?_cons_zero, List.getElem?_cons_succ, List.set_cons_zero, List.set_cons_succ, Option.some.injEq, V.int.injEq, V.ref.injEq, V.str.injEq, V.bl.injEq, V.ty.injEq, List.cons.injEq, and_assoc, and_true, true_and, and_self, exists_eq_left, exists_eq_left', exists_eq_right, exists_eq_right', exists_and_left, exists_eq, exists_eq', reduceCtorEq, false_and, and_false, false_or, or_false, exists_false, decide_eq_true_eq, String.reduceEq, String.reduceBEq, Bool.or_true, Bool.true_or, Bool.or_false, Bool.false_or, or_true, true_or, if_true, if_false, Bool.not_eq_true', Nat.reduceAdd, Nat.reduceSub, Nat.zero_add, $[$ids:ident],*])))
variable {P : Program} {w : World} {K : PySem.W.Frag} {mg : Str → Option Value} {base : Heap}
noncomputable def top (i : Nat) : Stmt := PySem.Challenge.pw_seekhall_k15_whole_long_sums_and_counts.main.body.getD i (.Pass ⟨0, 0, 0, 0⟩)
noncomputable abbrev s_is_between : Stmt := top 2
noncomputable abbrev s_Wish___init__ : Stmt := inClass (top 4) 0
noncomputable abbrev s_parts_of : Stmt := top 6
noncomputable abbrev s_spans_of : Stmt := top 7
noncomputable abbrev s_Sum___init__ : Stmt := inClass (top 8) 0
noncomputable abbrev s_Sum_may_end_well : Stmt := inClass (top 8) 2
noncomputable abbrev s_Sum_sums_with : Stmt := inClass (top 8) 3
noncomputable abbrev s_Sum_sums_kept : Stmt := inClass (top 8) 4
noncomputable abbrev s_Sum_may_keep : Stmt := inClass (top 8) 5
noncomputable abbrev s_Sum_may_break : Stmt := inClass (top 8) 6
noncomputable abbrev s_Many___init__ : Stmt := inClass (top 10) 0
noncomputable abbrev s_Many_fewest : Stmt := inClass (top 10) 2
noncomputable abbrev s_Many_most : Stmt := inClass (top 10) 3
noncomputable abbrev s_Many_may_keep : Stmt := inClass (top 10) 4
noncomputable abbrev s_Many_may_break : Stmt := inClass (top 10) 5
noncomputable abbrev s__law_deal : Stmt := top 12
noncomputable abbrev s__law_draw : Stmt := top 13
noncomputable abbrev s__law_names : Stmt := top 14
noncomputable abbrev s__law_filling : Stmt := top 15
noncomputable abbrev s__law_even_rooms : Stmt := top 16
noncomputable abbrev s__law_terms : Stmt := top 17
noncomputable abbrev s__law_is : Stmt := top 18
noncomputable abbrev s__law_sum_right : Stmt := top 19
noncomputable abbrev s__law_all_sums : Stmt := top 20
noncomputable abbrev s__law_gap_right : Stmt := top 21
noncomputable abbrev s__law_wide_rooms : Stmt := top 22
noncomputable abbrev s__law_count_right : Stmt := top 23
noncomputable abbrev s_law : Stmt := top 24
theorem sc_is_between : FnScope ["number", "low", "high"] ["number", "low", "high"] (defScope s_is_between) := ⟨rfl, rfl, rfl, by decide +kernel, rfl, by decide +kernel, by decide +kernel⟩
theorem sc_Wish___init__ : FnScope ["self", "wish"] ["self", "wish"] (defScope s_Wish___init__) := ⟨rfl, rfl, rfl, by decide +kernel, rfl, by decide +kernel, by decide +kernel⟩
theorem sc_parts_of : FnScope ["term", "rooms"] ["term", "rooms"] (defScope s_parts_of) := ⟨rfl, rfl, rfl, by decide +kernel, rfl, by decide +kernel, by decide +kernel⟩
theorem sc_spans_of : FnScope ["terms", "rooms", "spans", "term", "parts"] ["terms", "rooms"] (defScope s_spans_of) := ⟨rfl, rfl, rfl, by decide +kernel, rfl, by decide +kernel, by decide +kernel⟩
theorem sc_Sum___init__ : FnScope ["self", "wish"] ["self", "wish"] (defScope s_Sum___init__) := ⟨rfl, rfl, rfl, by decide +kernel, rfl, by decide +kernel, by decide +kernel⟩
theorem sc_Sum_may_end_well : FnScope ["self", "reached", "behind", "may_rise_to_low", "may_fall_to_high"] ["self", "reached", "behind"] (defScope s_Sum_may_end_well) := ⟨rfl, rfl, rfl, by decide +kernel, rfl, by decide +kernel, by decide +kernel⟩
theorem sc_Sum_sums_with : FnScope ["self", "reached", "parts", "behind", "further", "part", "earlier"] ["self", "reached", "parts", "behind"] (defScope s_Sum_sums_with) := ⟨rfl, rfl, rfl, by decide +kernel, rfl, by decide +kernel, by decide +kernel⟩
theorem sc_Sum_sums_kept : FnScope ["self", "rooms", "spans", "reached", "number", "term"] ["self", "rooms"] (defScope s_Sum_sums_kept) := ⟨rfl, rfl, rfl, by decide +kernel, rfl, by decide +kernel, by decide +kernel⟩
theorem sc_Sum_may_keep : FnScope ["self", "rooms"] ["self", "rooms"] (defScope s_Sum_may_keep) := ⟨rfl, rfl, rfl, by decide +kernel, rfl, by decide +kernel, by decide +kernel⟩
theorem sc_Sum_may_break : FnScope ["self", "rooms", "span"] ["self", "rooms"] (defScope s_Sum_may_break) := ⟨rfl, rfl, rfl, by decide +kernel, rfl, by decide +kernel, by decide +kernel⟩
theorem sc_Many___init__ : FnScope ["self", "wish"] ["self", "wish"] (defScope s_Many___init__) := ⟨rfl, rfl, rfl, by decide +kernel, rfl, by decide +kernel, by decide +kernel⟩
theorem sc_Many_fewest : FnScope ["self", "rooms"] ["self", "rooms"] (defScope s_Many_fewest) := ⟨rfl, rfl, rfl, by decide +kernel, rfl, by decide +kernel, by decide +kernel⟩
theorem sc_Many_most : FnScope ["self", "rooms"] ["self", "rooms"] (defScope s_Many_most) := ⟨rfl, rfl, rfl, by decide +kernel, rfl, by decide +kernel, by decide +kernel⟩
theorem sc_Many_may_keep : FnScope ["self", "rooms"] ["self", "rooms"] (defScope s_Many_may_keep) := ⟨rfl, rfl, rfl, by decide +kernel, rfl, by decide +kernel, by decide +kernel⟩
theorem sc_Many_may_break : FnScope ["self", "rooms"] ["self", "rooms"] (defScope s_Many_may_break) := ⟨rfl, rfl, rfl, by decide +kernel, rfl, by decide +kernel, by decide +kernel⟩
theorem sc__law_deal : FnScope ["_law_script", "_law_start", "_law_cells", "_law_number", "_law_cell"] ["_law_script", "_law_start"] (defScope s__law_deal) := ⟨rfl, rfl, rfl, by decide +kernel, rfl, by decide +kernel, by decide +kernel⟩
theorem sc__law_draw : FnScope ["_law_deal_here", "_law_many", "_law_number", "_law_one", "_law_other"] ["_law_deal_here", "_law_many"] (defScope s__law_draw) := ⟨rfl, rfl, rfl, by decide +kernel, rfl, by decide +kernel, by decide +kernel⟩
theorem sc__law_names : FnScope ["_law_deal_here", "_law_many", "_law_letters", "_law_names_here", "_law_k", "_law_word", "_law_place"] ["_law_deal_here", "_law_many"] (defScope s__law_names) := ⟨rfl, rfl, rfl, by decide +kernel, rfl, by decide +kernel, by decide +kernel⟩
theorem sc__law_filling : FnScope ["_law_deal_here", "_law_rooms", "_law_filling_here", "_law_name"] ["_law_deal_here", "_law_rooms"] (defScope s__law_filling) := ⟨rfl, rfl, rfl, by decide +kernel, rfl, by decide +kernel, by decide +kernel⟩
theorem sc__law_even_rooms : FnScope ["_law_deal_here", "_law_names_here", "_law_by", "_law_rooms", "_law_name", "_law_value", "_law_some", "_law_k"] ["_law_deal_here", "_law_names_here", "_law_by"] (defScope s__law_even_rooms) := ⟨rfl, rfl, rfl, by decide +kernel, rfl, by decide +kernel, by decide +kernel⟩
theorem sc__law_terms : FnScope ["_law_deal_here", "_law_names_here", "_law_terms_here", "_law_name", "_law_a"] ["_law_deal_here", "_law_names_here"] (defScope s__law_terms) := ⟨rfl, rfl, rfl, by decide +kernel, rfl, by decide +kernel, by decide +kernel⟩
theorem sc__law_is : FnScope ["_law_found", "_law_due"] ["_law_found", "_law_due"] (defScope s__law_is) := ⟨rfl, rfl, rfl, by decide +kernel, rfl, by decide +kernel, by decide +kernel⟩
theorem sc__law_sum_right : FnScope ["_law_deal_here", "_law_terms_here", "_law_rooms", "_law_by", "_law_one", "_law_other", "_law_near", "_law_between", "_law_just", "_law_free"] ["_law_deal_here", "_law_terms_here", "_law_rooms", "_law_by"] (defScope s__law_sum_right) := ⟨rfl, rfl, rfl, by decide +kernel, rfl, by decide +kernel, by decide +kernel⟩
theorem sc__law_all_sums : FnScope ["_law_terms_here", "_law_rooms", "_law_found", "_law_a", "_law_name", "_law_further", "_law_one", "_law_value"] ["_law_terms_here", "_law_rooms"] (defScope s__law_all_sums) := ⟨rfl, rfl, rfl, by decide +kernel, rfl, by decide +kernel, by decide +kernel⟩
theorem sc__law_gap_right : FnScope ["_law_deal_here", "_law_terms_here", "_law_rooms", "_law_sums", "_law_at", "_law_k", "_law_between"] ["_law_deal_here", "_law_terms_here", "_law_rooms"] (defScope s__law_gap_right) := ⟨rfl, rfl, rfl, by decide +kernel, rfl, by decide +kernel, by decide +kernel⟩
theorem sc__law_wide_rooms : FnScope ["_law_deal_here", "_law_names_here", "_law_rooms", "_law_name", "_law_value", "_law_some", "_law_k"] ["_law_deal_here", "_law_names_here"] (defScope s__law_wide_rooms) := ⟨rfl, rfl, rfl, by decide +kernel, rfl, by decide +kernel, by decide +kernel⟩
theorem sc__law_count_right : FnScope ["_law_deal_here", "_law_names_here", "_law_rooms", "_law_values", "_law_filling_here", "_law_count", "_law_low", "_law_near", "_law_least", "_law_most", "_law_thing", "_law_whole"] ["_law_deal_here", "_law_names_here", "_law_rooms"] (defScope s__law_count_right) := ⟨rfl, rfl, rfl, by decide +kernel, rfl, by decide +kernel, by decide +kernel⟩
theorem sc_law : FnScope ["_law_script", "_law_deal_here", "_law_names_here", "_law_by", "_law_some", "_law_rooms", "_law_terms_here"] ["_law_script"] (defScope s_law) := ⟨rfl, rfl, rfl, by decide +kernel, rfl, by decide +kernel, by decide +kernel⟩
structure Txt (K : PySem.W.Frag) (mg : Str → Option Value) : Prop where
  b_len : mg "len" = none
  b_max : mg "max" = none
  b_min : mg "min" = none
  b_sum : mg "sum" = none
  b_list : mg "list" = none
  b_reversed : mg "reversed" = none
  b_range : mg "range" = none
  b_isinstance : mg "isinstance" = none
  b_all : mg "all" = none
  b_any : mg "any" = none
  b_sorted : mg "sorted" = none
  b_dict : mg "dict" = none
  b_tuple : mg "tuple" = none
  b_bool : mg "bool" = none
  b_enumerate : mg "enumerate" = none
  b_zip : mg "zip" = none
  at_Wish : mg "Wish" = some (.ref (clsAt mg "Wish"))
  at_Sum : mg "Sum" = some (.ref (clsAt mg "Sum"))
  cl_Sum : Cls K (clsAt mg "Sum")
  no_Sum_wish : NoAttr K (clsAt mg "Sum") "wish"
  no_Sum_terms : NoAttr K (clsAt mg "Sum") "terms"
  no_Sum_low : NoAttr K (clsAt mg "Sum") "low"
  no_Sum_high : NoAttr K (clsAt mg "Sum") "high"
  at_Many : mg "Many" = some (.ref (clsAt mg "Many"))
  cl_Many : Cls K (clsAt mg "Many")
  no_Many_wish : NoAttr K (clsAt mg "Many") "wish"
  no_Many_among : NoAttr K (clsAt mg "Many") "among"
  no_Many_cells : NoAttr K (clsAt mg "Many") "cells"
  no_Many_low : NoAttr K (clsAt mg "Many") "low"
  no_Many_high : NoAttr K (clsAt mg "Many") "high"
noncomputable def dealKvs (m sd n : Int) (l : Addr) : List (Key × V) := [(Sum.inr "mixed", .int m), (Sum.inr "seed", .int sd), (Sum.inr "number", .int n), (Sum.inr "left", .ref l)]
structure DealAt (H : Hp) (d l : Addr) : Prop where
  ex : ∃ (m sd n : Int) (xs : List Int), H d = some (.dK (dealKvs m sd n l)) ∧ H l = some (.lst (xs.map V.int)) ∧ 0 ≤ n ∧ (∀ x ∈ xs, 0 ≤ x) ∧ 0 ≤ sd ∧ sd < 2147483648 ∧ xs.length ≤ 63
noncomputable def But (d l : Addr) (H H' : Hp) : Prop := ∀ b o, b ≠ d → b ≠ l → H b = some o → H' b = some o
theorem k_ms : ¬ ((Sum.inr (Str.ofString "mixed") : Key) = Sum.inr (Str.ofString "seed")) := by decide +kernel
theorem k_mn : ¬ ((Sum.inr (Str.ofString "mixed") : Key) = Sum.inr (Str.ofString "number")) := by decide +kernel
theorem k_ml : ¬ ((Sum.inr (Str.ofString "mixed") : Key) = Sum.inr (Str.ofString "left")) := by decide +kernel
theorem k_sn : ¬ ((Sum.inr (Str.ofString "seed") : Key) = Sum.inr (Str.ofString "number")) := by decide +kernel
theorem k_sl : ¬ ((Sum.inr (Str.ofString "seed") : Key) = Sum.inr (Str.ofString "left")) := by decide +kernel
theorem k_nl : ¬ ((Sum.inr (Str.ofString "number") : Key) = Sum.inr (Str.ofString "left")) := by decide +kernel
theorem get_mixed (m sd n : Int) (l : Addr) : valV (dealKvs m sd n l) (Sum.inr "mixed") = some (.int m) := by unfold dealKvs; rw [valV_pos rfl]
theorem get_seed (m sd n : Int) (l : Addr) : valV (dealKvs m sd n l) (Sum.inr "seed") = some (.int sd) := by unfold dealKvs; rw [valV_neg k_ms, valV_pos rfl]
theorem get_number (m sd n : Int) (l : Addr) : valV (dealKvs m sd n l) (Sum.inr "number") = some (.int n) := by unfold dealKvs; rw [valV_neg k_mn, valV_neg k_sn, valV_pos rfl]
theorem get_left (m sd n : Int) (l : Addr) : valV (dealKvs m sd n l) (Sum.inr "left") = some (.ref l) := by unfold dealKvs; rw [valV_neg k_ml, valV_neg k_sl, valV_neg k_nl, valV_pos rfl]
theorem put_number (m sd n y : Int) (l : Addr) : putK (dealKvs m sd n l) (Sum.inr "number") (.int y) = dealKvs m sd y l := by
  unfold putK
  rw [valV_any, get_number]
  simp only [Option.isSome_some, if_true, dealKvs, List.map_cons, List.map_nil, if_neg k_mn, if_neg k_sn, if_neg (Ne.symm k_nl)]
theorem put_seed (m sd n y : Int) (l : Addr) : putK (dealKvs m sd n l) (Sum.inr "seed") (.int y) = dealKvs m y n l := by
  unfold putK
  rw [valV_any, get_seed]
  simp only [Option.isSome_some, if_true, dealKvs, List.map_cons, List.map_nil, if_neg k_ms, if_neg (Ne.symm k_sn), if_neg (Ne.symm k_sl)]
theorem deal_len (m sd n : Int) (l : Addr) : (dealKvs m sd n l).length < sizeLine := by show 4 < sizeLine; decide
theorem cmul_small {i j : Int} (h0 : 0 ≤ i) (h1 : i < 4294967296) : CMul i j := .inl ⟨by omega, by omega⟩
noncomputable def spDraw : Sp := fun vs H Q _ => ∃ (d l : Addr) (m : Int), vs = [.ref d, .int m] ∧ DealAt H d l ∧ 0 < m ∧ m < 18446744073709551616 ∧ ∀ (r : Int) (H' : Hp), 0 ≤ r → r < m → DealAt H' d l → But d l H H' → Q (.int r) H'
theorem merge_deal (m sd n : Int) (l : Addr) : mergeK [] (dealKvs m sd n l) = dealKvs m sd n l := by
  have e1 : putK ([] : List (Key × V)) (Sum.inr (Str.ofString "mixed")) (.int m) = [(Sum.inr (Str.ofString "mixed"), .int m)] := putK_new _ valV_nil
  have e2 : putK [((Sum.inr (Str.ofString "mixed") : Key), V.int m)] (Sum.inr (Str.ofString "seed")) (.int sd) = [(Sum.inr (Str.ofString "mixed"), .int m), (Sum.inr (Str.ofString "seed"), .int sd)] := putK_new _ (by rw [valV_neg k_ms, valV_nil])
  have e3 : putK [((Sum.inr (Str.ofString "mixed") : Key), V.int m), (Sum.inr (Str.ofString "seed"), .int sd)] (Sum.inr (Str.ofString "number")) (.int n) = [(Sum.inr (Str.ofString "mixed"), .int m), (Sum.inr (Str.ofString "seed"), .int sd), (Sum.inr (Str.ofString "number"), .int n)] := putK_new _ (by rw [valV_neg k_mn, valV_neg k_sn, valV_nil])
  have e4 : putK [((Sum.inr (Str.ofString "mixed") : Key), V.int m), (Sum.inr (Str.ofString "seed"), .int sd), (Sum.inr (Str.ofString "number"), .int n)] (Sum.inr (Str.ofString "left")) (.ref l) = dealKvs m sd n l := putK_new _ (by rw [valV_neg k_ml, valV_neg k_sl, valV_neg k_nl, valV_nil])
  show putK (putK (putK (putK ([] : List (Key × V)) (Sum.inr (Str.ofString "mixed")) (.int m)) (Sum.inr (Str.ofString "seed")) (.int sd)) (Sum.inr (Str.ofString "number")) (.int n)) (Sum.inr (Str.ofString "left")) (.ref l) = _
  rw [e1, e2, e3, e4]
theorem cut_ints (ns : List Int) (lo hi : Option Int) : ∃ ms : List Int, cutV (ns.map V.int) lo hi = ms.map V.int ∧ ms.length ≤ ns.length := by
  unfold cutV
  refine ⟨(ns.drop (HT.sIx (ns.map V.int).length 0 lo)).take (HT.sIx (ns.map V.int).length (ns.map V.int).length hi - HT.sIx (ns.map V.int).length 0 lo), by simp [List.map_take, List.map_drop], ?_⟩
  rw [List.length_take, List.length_drop]
  omega
theorem int_at {ms : List Int} {i : Nat} {x : V} (h : (ms.map V.int)[i]? = some x) : ∃ v, x = .int v := by
  rw [List.getElem?_map] at h
  cases e : ms[i]? with
  | none => rw [e] at h; cases h
  | some z => rw [e] at h; exact ⟨z, (Option.some.inj h).symm⟩
noncomputable def spDeal (K : PySem.W.Frag) : Sp := fun vs H Q _ => ∃ (a : Addr) (ns : List Int) (st : Int), vs = [.ref a, .int st] ∧ SqL K H a (ns.map V.int) ∧ ns.length ≤ 63 ∧ 0 ≤ st ∧ st ≤ 63 ∧ ∀ (d l : Addr) (H' : Hp), H d = none → H l = none → DealAt H' d l → Same H H' → Q (.ref d) H'
theorem draw_rd {d l : Addr} {m : Int} {H : Hp} {Q : VK} {E : XK} (D : DealAt H d l) (m0 : 0 < m) (m1 : m < 18446744073709551616) (h : ∀ (r : Int) (H' : Hp), 0 ≤ r → r < m → DealAt H' d l → But d l H H' → Q (.int r) H') : spDraw [.ref d, .int m] H Q E := ⟨d, l, m, rfl, D, m0, m1, h⟩
theorem But.refl {d l : Addr} (H : Hp) : But d l H H := fun _ _ _ _ e => e
theorem But.trans {d l : Addr} {H H1 H2 : Hp} (a : But d l H H1) (b : But d l H1 H2) : But d l H H2 := fun c o h1 h2 e => b c o h1 h2 (a c o h1 h2 e)
theorem But.new {d l p : Addr} {H H1 : Hp} {o : HO} (a : But d l H H1) (hp : H1 p = none) : But d l H (upd H1 p o) := fun c u h1 h2 e => by
  have e1 := a c u h1 h2 e
  rw [upd_ne (ne_of_none e1 hp)]; exact e1
theorem But.same {d l : Addr} {H H1 H2 : Hp} (a : But d l H H1) (s : Same H1 H2) : But d l H H2 := fun c u h1 h2 e => s c u (a c u h1 h2 e)
theorem DealAt.ne {d l p : Addr} {H : Hp} (D : DealAt H d l) (hp : H p = none) : p ≠ d ∧ p ≠ l := by
  obtain ⟨m, sd, n, xs, hd, hl, _⟩ := D.ex
  exact ⟨(ne_of_none hd hp).symm, (ne_of_none hl hp).symm⟩
theorem DealAt.same {d l : Addr} {H H' : Hp} (D : DealAt H d l) (s : Same H H') : DealAt H' d l := by
  obtain ⟨m, sd, n, xs, hd, hl, r⟩ := D.ex
  exact ⟨m, sd, n, xs, s _ _ hd, s _ _ hl, r⟩
theorem DealAt.new {d l p : Addr} {H : Hp} {o : HO} (D : DealAt H d l) (hp : H p = none) : DealAt (upd H p o) d l := D.same (Same.upd0 hp)
theorem DealAt.put {d l p : Addr} {H : Hp} {o : HO} (D : DealAt H d l) (h1 : p ≠ d) (h2 : p ≠ l) : DealAt (upd H p o) d l := by
  obtain ⟨m, sd, n, xs, hd, hl, r⟩ := D.ex
  exact ⟨m, sd, n, xs, by rw [upd_ne h1.symm]; exact hd, by rw [upd_ne h2.symm]; exact hl, r⟩
theorem But.put {d l p : Addr} {H H1 : Hp} {o : HO} (a : But d l H H1) (hp : H p = none) : But d l H (upd H1 p o) := fun c u h1 h2 e => by
  rw [upd_ne (ne_of_none e hp)]; exact a c u h1 h2 e
theorem But.free {d l p : Addr} {H H1 : Hp} (a : But d l H H1) (D : DealAt H1 d l) (hp : H1 p = none) : H p = none := by
  obtain ⟨h1, h2⟩ := D.ne hp
  cases e : H p with
  | none => rfl
  | some o => rw [a p o h1 h2 e] at hp; cases hp
theorem atI_mem {α : Type} {xs : List α} {i : Int} (h0 : 0 ≤ i) (h1 : i < (xs.length : Int)) : ∃ v, atI xs i = some v ∧ v ∈ xs := by
  obtain ⟨n, rfl⟩ := Int.eq_ofNat_of_zero_le h0
  have hn : n < xs.length := by omega
  exact ⟨xs[n], atI_nat (by simp [hn]), List.getElem_mem hn⟩
theorem draw_of {d l p : Addr} {m : Int} {vs : List V} {H : Hp} {Q : VK} {E : XK} (D : DealAt H d l) (hp : H p = none) (m0 : 0 < m) (m1 : m < 18446744073709551616) (hm : m = (vs.length : Int)) (h : ∀ (r : Int) (v : V) (H' : Hp), v ∈ vs → atI vs r = some v → DealAt H' d l → But d l H H' → H' p = some (.lst vs) → Q (.int r) H') : spDraw [.ref d, .int m] (upd H p (.lst vs)) Q E :=
  draw_rd (D.new hp) m0 m1 fun r H' r0 r1 D' B' => by
    obtain ⟨v, e, hv⟩ := atI_mem (xs := vs) r0 (by omega)
    exact h r v H' hv e D' (((But.refl H).new hp).trans B') (B' p _ (D.ne hp).1 (D.ne hp).2 upd_same)
theorem ok__law_draw   (T : Txt K mg) (L : FnL K mg "_law_draw" s__law_draw ["_law_deal_here", "_law_many"])  : Fn P w K mg base "_law_draw" 1 ["_law_deal_here", "_law_many"] (spDraw) := by
  have nd := sc__law_draw.nd
  refine L.ok sc__law_draw (fun vs H Q E h => ?_) (fun f cdv A outer s H vs Q E hr h => ?_) <;> obtain ⟨d, l, m, rfl, D, m0, m1, k⟩ := h
  · rfl
  have hu := hu_of hr
  refine ⟨_, (pss_cons (ps_while PassesOwn.never (PW.pt (pw_and (pt_cmpR op_eq (pe_dg hu (pvM 0) pe_str (fun _ _ => rfl)) pe_int (nomark _)) (pw_and (pt_cmpR op_gt (pe_callB call_lenL rfl T.b_len PySem.boot_len (pa_cons (pe_dg hu (pvM 0) pe_str (fun _ _ => rfl)) pa_nil)) pe_int (nomark _)) (pw_and1 (pt_cmpR op_eq (pe_dg hu (pvM 0) pe_str (fun _ _ => rfl)) pe_int (nomark _)))))) (pss_one (ps_dp hu (pvM 0) pe_str (pe_mL0 PySem.F.slot_list_pop PySem.F.type_list_pop ml_pop (pe_dg hu (pvM 0) pe_str (fun _ _ => rfl))) rfl)))
    (pss_cons (ps_set (i := 2) nd rfl (by first | exact Or.inl rfl | exact Or.inr rfl) (pe_dg hu (pvM 0) pe_str (fun _ _ => rfl)))
    (pss_cons (ps_if (pt_cmpR op_gt (pvM 2) pe_int (nomark _)) (pss_cons (ps_dp hu (pvM 0) pe_str (pe_op op_fdivW (pvM 2) (pvM 1)) rfl)
    (pss_one (ps_ret (pe_op op_mod (pvM 2) (pvM 1))))) pss_nil)
    (pss_cons (ps_set (i := 3) nd rfl (by first | exact Or.inl rfl | exact Or.inr rfl) (pe_op op_mod (pe_op op_add (pe_op op_mul (pe_dg hu (pvM 0) pe_str (fun _ _ => rfl)) pe_int) pe_int) pe_int))
    (pss_cons (ps_dp hu (pvM 0) pe_str (pe_op op_mod (pe_op op_add (pe_op op_mul (pvM 3) pe_int) pe_int) pe_int) rfl)
    (pss_cons (ps_set (i := 4) nd rfl (by first | exact Or.inl rfl | exact Or.inr rfl) (pe_op op_mod (pe_op op_mul (pe_dg hu (pvM 0) pe_str (fun _ _ => rfl)) (pe_dg hu (pvM 0) pe_str (fun _ _ => rfl))) pe_int))
    (pss_one (ps_ret (pe_op op_mod (pe_op op_add (pe_op op_mul (pe_op op_mod (pe_op op_mul (pvM 3) (pvM 3)) pe_int) pe_int) (pvM 4)) (pvM 1)))))))))), ?_⟩
  obtain ⟨mx, sd, n, xs, hd, hl, n0, hx, s0, s1, hlen⟩ := D.ex
  have dl : d ≠ l := ne_of hd hl (by intro z; cases z)
  refine while_rd (fun μ σ H' => ∃ (n : Int) (xs : List Int), σ = [some (.ref d), some (.int m), none, none, none] ∧ H' d = some (.dK (dealKvs mx sd n l)) ∧ H' l = some (.lst (xs.map V.int)) ∧ 0 ≤ n ∧ (∀ x ∈ xs, 0 ≤ x) ∧ xs.length ≤ 63 ∧ But d l H H' ∧ μ = xs.length)
    (fun σ H' => ∃ (n : Int) (xs : List Int), σ = [some (.ref d), some (.int m), none, none, none] ∧ H' d = some (.dK (dealKvs mx sd n l)) ∧ H' l = some (.lst (xs.map V.int)) ∧ 0 ≤ n ∧ (∀ x ∈ xs, 0 ≤ x) ∧ xs.length ≤ 63 ∧ But d l H H')
    ⟨_, n, xs, rfl, hd, hl, n0, hx, hlen, fun b o _ _ e => e, rfl⟩ ?_ ?_
  · rintro R hR μ σ H1 ⟨n1, xs1, rfl, hd1, hl1, n01, hx1, hlen1, bt, rfl⟩
    have hr := hR _ _ ⟨n1, xs1, rfl, hd1, hl1, n01, hx1, hlen1, bt⟩
    (try ctx_has vcx true_and hd1 hl1 get_number get_left get_mixed)
    refine ite2 (fun h1 => ?_) (fun _ => hr)
    refine ite2 (fun h2 => ?_) (fun _ => hr)
    refine ite2 (fun h3 => ?_) (fun _ => hr)
    rcases List.eq_nil_or_concat xs1 with rfl | ⟨ys, z, rfl⟩
    · simp at h2
    refine ⟨fun σ' H' => σ' = [some (.ref d), some (.int m), none, none, none] ∧ H' = upd (upd H1 l (.lst (ys.map V.int))) d (.dK (dealKvs mx sd z l)), ?_, V.int z, by simp, dealKvs mx sd n1 l, by rw [upd_ne dl]; exact hd1, deal_len _ _ _ _, by rw [put_number]; simp⟩
    rintro _ _ ⟨rfl, rfl⟩
    refine ⟨ys.length, by simp, rfl, z, upd_same, ys, by rw [upd_ne dl.symm, upd_same], hx1 z (by simp), fun x hx => hx1 x (by simp [hx]), by simp at hlen1; omega, fun b o h1 h2 e => ?_, rfl⟩
    rw [upd_ne h1, upd_ne h2]
    exact bt b o h1 h2 e
  · rintro σ H1 ⟨n1, xs1, rfl, hd1, hl1, n01, hx1, hlen1, bt⟩
    (try ctx_has vcx true_and hd1 hl1 get_number get_left get_mixed get_seed deal_len put_number put_seed upd_same)
    have fin : ∀ (r sd' n' : Int), 0 ≤ r → r < m → 0 ≤ n' → 0 ≤ sd' → sd' < 2147483648 → Q (.int r) (upd H1 d (HO.dK (dealKvs mx sd' n' l))) := fun r sd' n' r0 r1 n'0 h0 h1 =>
      k r _ r0 r1 ⟨mx, sd', n', xs1, upd_same, by rw [upd_ne dl.symm]; exact hl1, n'0, hx1, h0, h1, hlen1⟩ fun b o h1 h2 e => by rw [upd_ne h1]; exact bt b o h1 h2 e
    refine ite2 (fun h1 => ?_) (fun h1 => ?_)
    · exact ⟨⟨m0, m1⟩, m0, fin _ _ _ (Int.emod_nonneg _ (by omega)) (Int.emod_lt_of_pos _ m0) (Int.ediv_nonneg (by omega) (by omega)) s0 s1⟩
    · generalize hone : (sd * 48271 + 7919) % 2147483647 = one
      have o0 : 0 ≤ one := by omega
      have o1 : one < 2147483647 := by omega
      generalize hsd2 : (one * 40692 + 104729) % 2147483399 = sd2
      have p0 : 0 ≤ sd2 := by omega
      have p1 : sd2 < 2147483399 := by omega
      have q0 := Int.emod_nonneg (one * one) (show (2147483629 : Int) ≠ 0 by decide)
      have q1 := Int.emod_lt_of_pos (one * one) (show (0 : Int) < 2147483629 by decide)
      exact ⟨cmul_small s0 (by omega), by decide, cmul_small o0 (by omega), by decide, cmul_small p0 (by omega), by decide, cmul_small o0 (by omega), by decide, cmul_small q0 (by omega), m0,
        fin _ _ _ (Int.emod_nonneg _ (by omega)) (Int.emod_lt_of_pos _ m0) n01 p0 (by omega)⟩
theorem ok__law_deal   (T : Txt K mg) (L : FnL K mg "_law_deal" s__law_deal ["_law_script", "_law_start"])  : Fn P w K mg base "_law_deal" 1 ["_law_script", "_law_start"] (spDeal K) := by
  have nd := sc__law_deal.nd
  refine L.ok sc__law_deal (fun vs H Q E h => ?_) (fun f cdv A outer s H vs Q E hr h => ?_) <;> obtain ⟨a, ns, st, rfl, hS, hlen, st0, st1, k⟩ := h
  · rfl
  have hu := hu_of hr
  refine ⟨_, (pss_cons (ps_setC (i := 2) (N := ["_law_cell"]) (nt := 1) (js := []) nd rfl (by first | exact Or.inl rfl | exact Or.inr rfl) rfl (compOk_of ["_law_script", "_law_start", "_law_cells", "_law_number", "_law_cell"] (defScope s__law_deal).names rfl rfl rfl (by decide +kernel)) (pi_LK (K := K) rfl (pe_slice sl_Q (pvM 0) (po_some (pvM 1)) (po_some pe_int))) (fun _ _ _ _ _ _ => (pg_name (i := 0) (show List.Nodup [("_law_cell" : Str)] by decide +kernel) rfl (Or.inl rfl))) (tgOk_name (by decide)) (fun _ _ _ _ _ _ => pts_nil) (fun _ _ _ _ _ _ => (pe_callB (call_max2 rfl) rfl T.b_max (show bootBuiltins "max" = some (.builtin "max") by decide +kernel) (pa_cons (pvM 0) (pa_cons (pe_op op_sub pe_int (pvM 0)) pa_nil)))))
    (pss_cons (ps_set (i := 3) nd rfl (by first | exact Or.inl rfl | exact Or.inr rfl) (pe_op op_add pe_int (pvM 1)))
    (pss_cons (ps_for PassesOwn.never rfl (pi_LK (K := K) rfl (pvM 2)) (pg_name (i := 4) nd rfl (by first | exact Or.inl rfl | exact Or.inr rfl)) (pss_one (ps_set (i := 3) nd rfl (by first | exact Or.inl rfl | exact Or.inr rfl) (pe_op op_mod (pe_op op_add (pe_op op_mul (pvM 3) pe_int) (pvM 4)) pe_int))))
    (pss_one (ps_ret (pe_disp (pps_cons pe_str (pe_op op_mod (pe_callB (call_sum_l rfl) rfl T.b_sum (show bootBuiltins "sum" = some (.builtin "sum") by decide +kernel) (pa_cons (pe_slice sl_Q (pvM 0) po_none (po_some pe_int)) pa_nil)) pe_int) (pps_cons pe_str (pvM 3) (pps_cons pe_str pe_int (pps_cons pe_str (pe_listrev rfl rfl T.b_list rfl T.b_reversed (pvM 2)) pps_nil)))) rfl rfl (by nofun) (by decide))))))), ?_⟩
  (try ctx_has vcx true_and)
  refine ⟨_, hS, fun p hp => ⟨_, upd_same, fun D hD => ?_⟩⟩
  have pD : D ≠ p := by rintro rfl; rw [upd_same] at hD; cases hD
  obtain ⟨ms, hms, hml⟩ := cut_ints ns (some st) (some 63)
  rw [hms] at hD ⊢
  rw [upd_ne pD] at hD
  refine comp_g wlk_list (fun i ys H2 => ∃ cs : List Int, ys = cs.map V.int ∧ cs.length = i ∧ (∀ x ∈ cs, 0 ≤ x) ∧ H2 p = some (.lst (ms.map V.int)) ∧ H2 D = some (.lst ys) ∧ Same H H2)
    ⟨[], rfl, rfl, by simp, by rw [upd_ne pD.symm, upd_same], upd_same, (Same.upd0 hp).upd_new (by rw [upd_ne pD]; exact hD)⟩ (fun i ys H2 zq29 => by obtain ⟨_, _, _, _, h, _⟩ := zq29; exact (.of h)) ?_ ?_
  · rintro i x ys H2 hi hx ⟨cs, rfl, rfl, hc, h1, h2, sm⟩
    obtain ⟨v, rfl⟩ := int_at hx
    (try ctx_has vcx true_and h2)
    have hi : cs.length < 63 := by simp at hi; omega
    refine ⟨by simp; exact small1000 (by omega), cs ++ [if 0 - v > v then 0 - v else v], by simp, by simp, fun x hx => ?_, by rw [upd_ne pD.symm]; exact h1, upd_same, fun b o e => ?_⟩
    · rcases List.mem_append.mp hx with q | q
      · exact hc x q
      · rw [List.mem_singleton.mp q]; split <;> omega
    · rw [upd_ne (ne_of_none e hD)]; exact sm b o e
  · rintro ys H2 ⟨cs, rfl, hc, hpos, h1, h2, sm⟩
    have hcl : cs.length ≤ 63 := by simp at hc; omega
    (try ctx_has vcx true_and h2)
    refine for_g wlk_list (fun i σ H3 => ∃ (z : Int) (v : Option V), σ = [some (.ref a), some (.int st), some (.ref D), some (.int z), v] ∧ 0 ≤ z ∧ z < 2147483648 ∧ H3 = H2)
      ⟨_, _, rfl, by omega, by omega, rfl⟩ (fun i σ H3 zq30 => by obtain ⟨_, _, _, _, _, h⟩ := zq30; exact (by rw [h]; exact .of h2)) ?_ ?_
    · rintro i x σ H3 hi hx ⟨z, v, rfl, z0, z1, rfl⟩
      obtain ⟨y, rfl⟩ := int_at hx
      (try ctx_has vcx true_and)
      exact ⟨cmul_small z0 (by omega), by decide, by omega, by omega⟩
    · rintro σ H3 ⟨z, v, rfl, z0, z1, rfl⟩
      (try ctx_has vcx true_and h2 rSum)
      intro d hd
      refine ⟨_, (sm.upd_new hd).seq hS, fun p2 hp2 => ?_⟩
      have dp2 : p2 ≠ d := by rintro rfl; rw [upd_same] at hp2; cases hp2
      have hp2' : H3 p2 = none := by rwa [upd_ne dp2] at hp2
      obtain ⟨xs, hxs, _⟩ := cut_ints ns none (some 1)
      rw [hxs]
      have nD2 : D ≠ p2 := ne_of_none h2 hp2'
      have nDd : D ≠ d := ne_of_none h2 hd
      refine ⟨xs, .of upd_same, by decide, _, by rw [upd_ne nD2, upd_ne nDd]; exact h2, fun l hl => ?_⟩
      have l1 : l ≠ p2 := by rintro rfl; rw [upd_same] at hl; cases hl
      have l2 : l ≠ d := by rintro rfl; rw [upd_ne dp2.symm, upd_same] at hl; cases hl
      have hl' : H3 l = none := by rwa [upd_ne l1, upd_ne l2] at hl
      refine ⟨by rw [upd_ne l2.symm, upd_ne dp2.symm, upd_same], dealKvs (xs.sum % 2) z 0 l, rfl, by show 4 ≤ 15; decide, ?_⟩
      rw [merge_deal]
      refine k d l _ (sm.free hd) (sm.free hl') ⟨_, z, 0, cs.reverse, upd_same, by rw [upd_ne l2, upd_same, List.map_reverse], by omega, fun x hx => hpos x (List.mem_reverse.mp hx), z0, z1, by simpa using hcl⟩ fun b o e => ?_
      have e3 := sm b o e
      rw [upd_ne (ne_of_none e3 hd), upd_ne (ne_of_none e3 hl'), upd_ne (ne_of_none e3 hp2'), upd_ne (ne_of_none e3 hd)]
      exact e3
noncomputable def spNames : Sp := fun vs H Q _ => ∃ (d l : Addr) (m : Int), vs = [.ref d, .int m] ∧ DealAt H d l ∧ 0 ≤ m ∧ m ≤ 20 ∧ ∀ (p : Addr) (ws : List Str) (H' : Hp), H p = none → NamesOk ws → ws.length = m.toNat → H' p = some (.lst (ws.map V.str)) → DealAt H' d l → But d l H H' → Q (.ref p) H'
theorem nxt_rd {w1 : Str} (n1 : IsNm w1) {P : Str → Prop} (h : P (nxtW w1)) : w1.length ≤ sizeLine ∧ ∃ c, atI w1.cps.toList 0 = some c ∧ ∃ i rest, Builtin.Str.occurrences (Str.ofString "abcdefghijklmnopqrstuvwxyz") { cps := #[c] } 0 (Str.ofString "abcdefghijklmnopqrstuvwxyz").length 1 = i :: rest ∧ (0 : Int) < 26 ∧
    (Str.ofString "abcdefghijklmnopqrstuvwxyz").length ≤ sizeLine ∧ ∃ c, atI (Str.ofString "abcdefghijklmnopqrstuvwxyz").cps.toList (((i : Nat) + 1 : Int) % 26) = some c ∧ w1.length ≤ sizeLine ∧ (Str.mk #[c]).length + (Txt.slice w1 (some 1) none).length ≤ sizeLine ∧ P ((Str.mk #[c]) ++ Txt.slice w1 (some 1) none) := by
  obtain ⟨c, cs, e, hc, hcs, hl⟩ := n1.cons
  have hlw : w1.length ≤ sizeLine := Nat.le_of_lt (small1000 (Nat.le_trans n1.le (by decide)))
  have hs := Txt.slice_le w1 (some 1) none
  have hw := n1.le
  refine ⟨hlw, c, by rw [e]; exact atI_zero _ _, _, _, letters_index hc, by decide, letters_len, _, letters_at (by omega) (by omega), hlw, Nat.le_of_lt (small1000 (by show 1 + _ ≤ 1000; omega)), ?_⟩
  have hc2 := hc
  simp only [smallB, Bool.and_eq_true, decide_eq_true_eq] at hc2
  have hl1 : w1.length = cs.length + 1 := by rw [← len_cps, e]; rfl
  have key : (Str.mk #[97 + ((((c - 97 : Nat) : Int) + 1) % 26).toNat]) ++ Txt.slice w1 (some 1) none = nxtW w1 := by
    apply str_ext
    rw [append_cps, slice_cps, e, hl1]
    have e1 : 97 + ((((c - 97 : Nat) : Int) + 1) % 26).toNat = nxtC c := by unfold nxtC; omega
    have e2 : HT.sIx (cs.length + 1) 0 (some 1) = 1 := by
      show (if (1 : Int) < 0 then ((1 : Int) + ((cs.length + 1 : Nat) : Int)).toNat else min (1 : Int).toNat (cs.length + 1)) = 1
      rw [if_neg (by decide)]
      show min 1 (cs.length + 1) = 1
      omega
    rw [e1, e2, HT.sIx_none]
    simp [nxtW, e, nxtL]
  rw [key]
  exact h
theorem names_while {Dn : Ends} {d p : Addr} {v1 vk vp : Option V} {ws : List Str} {H : Hp} {wd : Str} (hw : IsNm wd) (hws : ws.length ≤ 20) (hp : H p = some (.lst (ws.map V.str)))
    (fin : ∀ (wd' : Str) (H' : Hp), IsNm wd' → wd' ∉ ws → wd' ∉ marks4 → Same H H' → Dn.nx [some (.ref d), v1, some (.str (Str.ofString "abcdefghijklmnopqrstuvwxyz")), some (.ref p), vk, some (.str wd'), vp] H') :
    tWhile
      (tOr (tTest (tOp (rInL false) (tVarM 5) (tVarM 3)))
        (tTest (tOp (rInL false) (tVarM 5) (tLst (tCons (tC (V.str (Str.ofString "in"))) (tCons (tC (V.str (Str.ofString "from"))) (tCons (tC (V.str (Str.ofString "to"))) (tCons (tC (V.str (Str.ofString "end"))) tNil))))))))
      (tAsg (tOp rCS (tOp rIS (tVarM 2) (tOp (rI (fun x j => 0 < j) fun i j => V.int (i % j)) (tOp (rI0 fun i j => V.int (i + j)) (tMS rmIndex (tVarM 2) (tCons (tOp rIS (tVarM 5) (tC (V.int 0))) tNil)) (tC (V.int 1))) (tC (V.int 26))))
          (tSl rSlS (tVarM 5) (tPart (tC (V.int 1))) tNoPart)) (gName 5))
      Dn [some (.ref d), v1, some (.str (Str.ofString "abcdefghijklmnopqrstuvwxyz")), some (.ref p), vk, some (.str wd), vp] H := by
  obtain ⟨μ0, h0⟩ := free_word hw (F := ws ++ marks4) (by simp [marks4]; omega)
  refine while_rd (fun μ σ H' => ∃ wd' : Str, σ = [some (.ref d), v1, some (.str (Str.ofString "abcdefghijklmnopqrstuvwxyz")), some (.ref p), vk, some (.str wd'), vp] ∧ IsNm wd' ∧ nxtN μ wd' ∉ ws ++ marks4 ∧ Same H H')
    (fun σ H' => ∃ wd' : Str, σ = [some (.ref d), v1, some (.str (Str.ofString "abcdefghijklmnopqrstuvwxyz")), some (.ref p), vk, some (.str wd'), vp] ∧ IsNm wd' ∧ wd' ∉ ws ∧ wd' ∉ marks4 ∧ Same H H')
    ⟨μ0, wd, rfl, hw, h0, Same.refl _⟩ ?_ ?_
  · rintro R hR μ σ H1 ⟨w1, rfl, n1, f1, sm⟩
    have hp1 := sm _ _ hp
    have step : ∀ H2, Same H H2 → w1 ∈ ws ++ marks4 → ∀ σ' H', (σ' = [some (.ref d), v1, some (.str (Str.ofString "abcdefghijklmnopqrstuvwxyz")), some (.ref p), vk, some (.str (nxtW w1)), vp] ∧ H' = H2) → ∃ m', m' < μ ∧ ∃ wd' : Str, σ' = [some (.ref d), v1, some (.str (Str.ofString "abcdefghijklmnopqrstuvwxyz")), some (.ref p), vk, some (.str wd'), vp] ∧ IsNm wd' ∧ nxtN m' wd' ∉ ws ++ marks4 ∧ Same H H' := fun H2 sm2 hin => by
      rintro _ _ ⟨rfl, rfl⟩
      cases μ with
      | zero => exact absurd hin f1
      | succ μ => exact ⟨μ, Nat.lt_succ_self _, nxtW w1, rfl, nxtW_nm n1, f1, sm2⟩
    (try ctx_has vcx true_and hp1)
    refine ⟨rfl, flat_strs _, ?_⟩
    rw [inV_strs]
    refine ite2 (fun h => ?_) (fun h => ?_)
    · exact ⟨_, step H1 sm (List.mem_append_left _ (by simpa using h)), nxt_rd n1 (P := fun z => [some (V.ref d), v1, some (.str (Str.ofString "abcdefghijklmnopqrstuvwxyz")), some (.ref p), vk, some (.str z), vp] = [some (V.ref d), v1, some (.str (Str.ofString "abcdefghijklmnopqrstuvwxyz")), some (.ref p), vk, some (.str (nxtW w1)), vp] ∧ H1 = H1) ⟨rfl, rfl⟩⟩
    · refine ⟨by decide, fun q hq => ⟨_, upd_same, rfl, by decide +kernel, ?_⟩⟩
      have sm2 : Same H (upd H1 q (.lst (marks4.map V.str))) := sm.upd_new hq
      show (if inV (V.str w1) (marks4.map V.str) = true then _ else _)
      rw [inV_strs]
      refine ite2 (fun h2 => ?_) (fun h2 => ?_)
      · exact ⟨_, step _ sm2 (List.mem_append_right _ (by simpa using h2)), nxt_rd n1 (P := fun z => [some (V.ref d), v1, some (.str (Str.ofString "abcdefghijklmnopqrstuvwxyz")), some (.ref p), vk, some (.str z), vp] = [some (V.ref d), v1, some (.str (Str.ofString "abcdefghijklmnopqrstuvwxyz")), some (.ref p), vk, some (.str (nxtW w1)), vp] ∧ _ = _) ⟨rfl, rfl⟩⟩
      · exact hR _ _ ⟨w1, rfl, n1, by simpa using h, by simpa using h2, sm2⟩
  · rintro σ H1 ⟨w1, rfl, n1, f1, f2, sm⟩
    exact fin w1 H1 n1 f1 f2 sm
theorem ok__law_names   (T : Txt K mg) (L : FnL K mg "_law_names" s__law_names ["_law_deal_here", "_law_many"]) (F_law_draw : Fn P w K mg base "_law_draw" 1 ["_law_deal_here", "_law_many"] (spDraw)) : Fn P w K mg base "_law_names" 2 ["_law_deal_here", "_law_many"] (spNames) := by
  have nd := sc__law_names.nd
  refine L.ok sc__law_names (fun vs H Q E h => ?_) (fun f cdv A outer s H vs Q E hr h => ?_) <;> obtain ⟨d, l, m, rfl, D, m0, m1, k⟩ := h
  · rfl
  have hu := hu_of hr
  refine ⟨_, (pss_cons (ps_set (i := 2) nd rfl (by first | exact Or.inl rfl | exact Or.inr rfl) pe_str)
    (pss_cons (ps_set (i := 3) nd rfl (by first | exact Or.inl rfl | exact Or.inr rfl) (pe_lst pa_nil))
    (pss_cons (ps_for PassesOwn.never rfl (pi_range1 rfl T.b_range (pa_cons (pvM 1) pa_nil)) (pg_name (i := 4) nd rfl (by first | exact Or.inl rfl | exact Or.inr rfl)) (pss_cons (ps_set (i := 5) nd rfl (by first | exact Or.inl rfl | exact Or.inr rfl) (pe_mS PySem.F.slot_str_join PySem.F.type_str_join ms_join pe_str (pa_cons (pe_comp (N := ["_law_j", "_law_letters", "_law_deal_here"]) (nt := 1) (js := [2, 0]) rfl (compOk_of ["_law_deal_here", "_law_many", "_law_letters", "_law_names_here", "_law_k", "_law_word", "_law_place"] (defScope s__law_names).names rfl rfl rfl (by decide +kernel)) (pi_range1 rfl T.b_range (pa_cons (pe_op op_add pe_int (pe_callF F_law_draw (hr.mono (by first | decide | omega)) rfl (pa_cons (pvM 0) (pa_cons pe_int pa_nil)))) pa_nil)) (fun _ _ _ _ _ _ => (pg_name (i := 0) (show List.Nodup [("_law_j" : Str), ("_law_letters" : Str), ("_law_deal_here" : Str)] by decide +kernel) rfl (Or.inl rfl))) (tgOk_name (by decide)) (fun _ _ _ _ _ _ => pts_nil) (fun _ _ _ _ _ _ => (pe_ix ix_S (pvM 1) (pe_callF F_law_draw (hr.mono (by first | decide | omega)) rfl (pa_cons (pvM 2) (pa_cons pe_int pa_nil))) (fun _ _ => rfl)))) pa_nil)))
    (pss_cons (ps_if (PW.pt (pw_and (pt_cmpR op_gt (pvM 4) pe_int (nomark _)) (pw_and1 (pt_cmpR op_eq (pe_callF F_law_draw (hr.mono (by first | decide | omega)) rfl (pa_cons (pvM 0) (pa_cons pe_int pa_nil))) pe_int (nomark _))))) (pss_cons (ps_set (i := 6) nd rfl (by first | exact Or.inl rfl | exact Or.inr rfl) (pe_callF F_law_draw (hr.mono (by first | decide | omega)) rfl (pa_cons (pvM 0) (pa_cons (pe_callB call_lenS rfl T.b_len PySem.boot_len (pa_cons (pe_ix ix_L (pvM 3) (pe_un un_neg pe_int) (fun _ _ => rfl)) pa_nil)) pa_nil))))
    (pss_one (ps_set (i := 5) nd rfl (by first | exact Or.inl rfl | exact Or.inr rfl) (pe_op op_catS (pe_op op_catS (pe_slice sl_str (pe_ix ix_L (pvM 3) (pe_un un_neg pe_int) (fun _ _ => rfl)) po_none (po_some (pvM 6))) (pe_ix ix_S (pvM 5) pe_int (fun _ _ => rfl))) (pe_slice sl_str (pe_ix ix_L (pvM 3) (pe_un un_neg pe_int) (fun _ _ => rfl)) (po_some (pe_op op_add (pvM 6) pe_int)) po_none))))) pss_nil)
    (pss_cons (ps_while PassesOwn.never (PW.pt (pw_or (pt_cmpR op_inL (pvM 5) (pvM 3) (by with_unfolding_all rfl)) (pw_or1 (pt_cmpR op_inL (pvM 5) (pe_lst (pa_cons pe_str (pa_cons pe_str (pa_cons pe_str (pa_cons pe_str pa_nil))))) (by with_unfolding_all rfl))))) (pss_one (ps_set (i := 5) nd rfl (by first | exact Or.inl rfl | exact Or.inr rfl) (pe_op op_catS (pe_ix ix_S (pvM 2) (pe_op op_mod (pe_op op_add (pe_mS PySem.F.slot_str_index PySem.F.type_str_index ms_index (pvM 2) (pa_cons (pe_ix ix_S (pvM 5) pe_int (fun _ _ => rfl)) pa_nil)) pe_int) pe_int) (fun _ _ => rfl)) (pe_slice sl_str (pvM 5) (po_some pe_int) po_none)))))
    (pss_one (ps_expr (pe_mL PySem.F.slot_list_append PySem.F.type_list_append ml_append (pvM 3) (pa_cons (pvM 5) pa_nil))))))))
    (pss_one (ps_ret (pvM 3)))))), ?_⟩
  (try ctx_has vcx true_and)
  refine ⟨by decide, fun p hp => ⟨by omega, by omega, ?_⟩⟩
  have np := D.ne hp
  refine for_g wlk_range (fun i σ H' => ∃ (ws : List Str) (vk vw vp : Option V), σ = [some (.ref d), some (.int m), some (.str (Str.ofString "abcdefghijklmnopqrstuvwxyz")), some (.ref p), vk, vw, vp] ∧ NamesOk ws ∧ ws.length = i ∧ H' p = some (.lst (ws.map V.str)) ∧ DealAt H' d l ∧ But d l H H')
    ⟨[], _, _, _, rfl, .nil, rfl, upd_same, D.new hp, (But.refl H).new hp⟩ (fun _ _ _ _ => True.intro) ?_ ?_
  · rintro i x σ H2 hi hx ⟨ws, vk, vw, vp, rfl, ok, hlen, h2, D2, B2⟩
    rw [rngV_length] at hi
    rw [rngV_get hi] at hx
    obtain rfl := Option.some.inj hx
    (try ctx_has vcx true_and)
    refine draw_rd D2 (by decide) (by decide) fun r H3 r0 r1 D3 B3 => ?_
    (try ctx_has vcx true_and)
    refine ⟨by omega, by omega, fun q hq => ?_⟩
    have h3 := B3 p _ np.1 np.2 h2
    have nq := D3.ne hq
    have npq : p ≠ q := ne_of_none h3 hq
    refine comp_g wlk_range (fun j ys H4 => ∃ cs : List Nat, ys = cs.map (fun c => V.str ⟨#[c]⟩) ∧ cs.length = j ∧ (∀ c ∈ cs, smallB c = true) ∧ H4 q = some (.lst ys) ∧ H4 p = some (.lst (ws.map V.str)) ∧ DealAt H4 d l ∧ But d l H H4)
      ⟨[], rfl, rfl, by simp, upd_same, by rw [upd_ne npq]; exact h3, D3.new hq, (B2.trans B3).new hq⟩ (fun _ _ _ _ => True.intro) ?_ ?_
    · rintro j x ys H4 hj hx ⟨cs, rfl, hcl, hcs, h4, h4p, D4, B4⟩
      (try ctx_has vcx true_and)
      rw [rngV_length] at hj
      refine draw_rd D4 (by decide) (by decide) fun r5 H5 r50 r51 D5 B5 => ?_
      have h5 := B5 q _ nq.1 nq.2 h4
      have h5p := B5 p _ np.1 np.2 h4p
      refine ⟨r5, rfl, letters_len, _, letters_at r50 r51, h5, by simp; exact small1000 (by omega), cs ++ [97 + r5.toNat], by simp, by simp; omega, fun c hc => ?_, upd_same, by rw [upd_ne npq]; exact h5p, D5.put nq.1 nq.2, (B4.trans B5).put (B2.free D2 ((B3.free D3 hq)))⟩
      rcases List.mem_append.mp hc with z | z
      · exact hcs c z
      · rw [List.mem_singleton.mp z]
        unfold smallB
        rw [Bool.and_eq_true, decide_eq_true_eq, decide_eq_true_eq]
        omega
    · rintro ys H4 ⟨cs, rfl, hcl, hcs, h4, h4p, D4, B4⟩
      rw [rngV_length] at hcl
      (try ctx_has vcx true_and)
      refine ⟨cs.map fun c => ⟨#[c]⟩, by rw [h4]; simp, by rw [sum_ones, show (Str.ofString "").length = 0 by decide +kernel]; omega, ?_⟩
      have hj := join_signs cs
      generalize Txt.join (Str.ofString "") (cs.map fun c => Str.mk #[c]) = wd at hj ⊢
      obtain ⟨c0, cs', rfl⟩ : ∃ c0 cs', cs = c0 :: cs' := by
        cases cs with
        | nil => simp at hcl; omega
        | cons a b => exact ⟨a, b, rfl⟩
      have nwd : IsNm wd := .of hj (hcs c0 (by simp)) (fun x hx => hcs x (by simp [hx])) (by simp at hcl; omega)
      have hwl : ∀ {w : Str}, IsNm w → w.length ≤ sizeLine := fun h => Nat.le_of_lt (small1000 (Nat.le_trans h.le (by decide)))
      have hws : ws.length ≤ 20 := by omega
      have fin : ∀ (wd' : Str) (H5 H6 : Hp), DealAt H5 d l → But d l H H5 → Same H5 H6 → IsNm wd' → wd' ∉ ws → wd' ∉ marks4 → ∃ ws', NamesOk ws' ∧ ws'.length = i + 1 ∧ upd H6 p (HO.lst (ws.map V.str ++ [V.str wd'])) p = some (HO.lst (ws'.map V.str)) ∧ DealAt (upd H6 p (HO.lst (ws.map V.str ++ [V.str wd']))) d l ∧ But d l H (upd H6 p (HO.lst (ws.map V.str ++ [V.str wd']))) :=
        fun wd' H5 H6 D5 B5 sm n f1 f2 => ⟨ws ++ [wd'], ok.snoc n f1 f2, by simp [hlen], by rw [upd_same]; simp, (D5.same sm).put np.1 np.2, (B5.same sm).put hp⟩
      refine ite2 (fun h => ?_) (fun h => ?_)
      · refine draw_rd D4 (by decide) (by decide) fun r5 H5 r50 r51 D5 B5 => ?_
        (try ctx_has vcx true_and)
        have h5 := B5 p _ np.1 np.2 h4p
        refine ite2 (fun h6 => ?_) (fun h6 => ?_)
        · rcases List.eq_nil_or_concat ws with rfl | ⟨ws0, z, rfl⟩
          · simp at hlen; omega
          have nz : IsNm z := ok.nm z (by simp)
          refine ⟨_, h5, _, by rw [List.concat_eq_append, List.map_append]; exact atI_last _ _, z, rfl, hwl nz, ?_⟩
          refine draw_rd D5 (by have := nz.pos; omega) (by have := nz.le; omega) fun r7 H7 r70 r71 D7 B7 => ?_
          have h7 := B7 p _ np.1 np.2 h5
          (try ctx_has vcx true_and h7)
          have hla : atI (List.map V.str (ws0.concat z)) (-1) = some (V.str z) := by rw [List.concat_eq_append, List.map_append]; exact atI_last _ _
          have l1 := Txt.slice_le z none (some r7)
          have l2 := Txt.slice_le z (some (r7 + 1)) none
          have l3 := nz.le
          refine ⟨_, hla, z, rfl, hwl nz, hwl nwd, c0, by rw [hj]; exact atI_zero _ _, Nat.le_of_lt (small1000 (by show _ + 1 ≤ 1000; omega)), _, hla, z, rfl, hwl nz, Nat.le_of_lt (small1000 (by rw [str_len_append]; show _ + 1 + _ ≤ 1000; omega)), ?_⟩
          refine names_while (edit_nm nz (hcs c0 (by simp)) r70 r71) hws h7 fun wd' H8 n f1 f2 sm => ?_
          have h8 := sm _ _ h7
          (try ctx_has vcx true_and h8)
          exact ⟨by simp only [List.length_map]; exact small1000 (by omega), fin wd' H7 H8 D7 ((B4.trans B5).trans B7) sm n f1 f2⟩
        · refine names_while nwd hws h5 fun wd' H6 n f1 f2 sm => ?_
          have h6 := sm _ _ h5
          (try ctx_has vcx true_and h6)
          exact ⟨by simp; exact small1000 (by omega), fin wd' H5 H6 D5 (B4.trans B5) sm n f1 f2⟩
      · refine names_while nwd hws h4p fun wd' H6 n f1 f2 sm => ?_
        have h6 := sm _ _ h4p
        (try ctx_has vcx true_and h6)
        exact ⟨by simp; exact small1000 (by omega), fin wd' H4 H6 D4 B4 sm n f1 f2⟩
  · rintro σ H2 ⟨ws, vk, vw, vp, rfl, ok, hlen, h2, D2, B2⟩
    (try ctx_has vcx true_and)
    rw [rngV_length] at hlen
    exact k p ws H2 hp ok hlen h2 D2 B2
noncomputable def ButOne (p : Addr) (H H' : Hp) : Prop := ∀ b o, b ≠ p → H b = some o → H' b = some o
noncomputable def RoomsFor (H : Hp) (kvs : List (Key × V)) (cs : List Str) (rm : Str → List Int) : Prop := ∀ c ∈ cs, ∃ a, valV kvs (Sum.inr c) = some (.ref a) ∧ H a = some (.tup ((rm c).map V.int))
structure KeepTI (H H' : Hp) : Prop where
  tup : ∀ a vs, H a = some (.tup vs) → H' a = some (.tup vs)
  ins : ∀ a C dx fs, H a = some (.ins C dx fs) → H' a = some (.ins C dx fs)
theorem Same.keepTI {H H' : Hp} (s : Same H H') : KeepTI H H' := ⟨fun a vs e => s _ _ e, fun a C dx fs e => s _ _ e⟩
theorem But.keepTI {d l : Addr} {H H' : Hp} (B : But d l H H') (D : DealAt H d l) : KeepTI H H' := by
  obtain ⟨m, sd, n, xs, hd, hl, _⟩ := D.ex
  exact ⟨fun a vs e => B a _ (ne_of e hd (by intro z; cases z)) (ne_of e hl (by intro z; cases z)) e, fun a C dx fs e => B a _ (ne_of e hd (by intro z; cases z)) (ne_of e hl (by intro z; cases z)) e⟩
noncomputable def spWInit (mg : Str → Option Value) (C : Str) : Sp := fun vs H Q _ => ∃ (p dx : Addr) (fs : List (Str × V)) (w : V), vs = [.ref p, w] ∧ H p = some (.ins (clsAt mg C) dx fs) ∧ fs.length < 1000 ∧ Q .non (upd H p (.ins (clsAt mg C) dx (putF "wish" w fs)))
structure ManyAt (mg : Str → Option Value) (H : Hp) (p : Addr) (am ce : V) (lo hi : Int) : Prop where
  ex : ∃ dx fs, H p = some (.ins (clsAt mg "Many") dx fs) ∧ fs.lookup (Str.ofString "among") = some am ∧ fs.lookup (Str.ofString "cells") = some ce ∧ fs.lookup (Str.ofString "low") = some (.int lo) ∧ fs.lookup (Str.ofString "high") = some (.int hi) ∧
    fs.lookup (Str.ofString "fewest") = none ∧ fs.lookup (Str.ofString "most") = none ∧ fs.lookup (Str.ofString "may_keep") = none ∧ fs.lookup (Str.ofString "may_break") = none
theorem ManyAt.same {mg : Str → Option Value} {H H' : Hp} {p : Addr} {am ce : V} {lo hi : Int} (h : ManyAt mg H p am ce lo hi) (s : Same H H') : ManyAt mg H' p am ce lo hi := by
  obtain ⟨dx, fs, h1, r⟩ := h.ex
  exact ⟨dx, fs, s _ _ h1, r⟩
theorem lt1000 {n : Nat} (h : n ≤ 4) : n < 1000 := by omega
theorem len1 (a b c d : Str) (x y z u : V) : (putF a x []).length ≤ 4 := by have := putF_le a x []; simp at this; omega
theorem len2 (a b c d : Str) (x y z u : V) : (putF b y (putF a x [])).length ≤ 4 := by have := putF_le a x []; have := putF_le b y (putF a x []); simp at *; omega
theorem len3 (a b c d : Str) (x y z u : V) : (putF c z (putF b y (putF a x []))).length ≤ 4 := by have := putF_le a x []; have := putF_le b y (putF a x []); have := putF_le c z (putF b y (putF a x [])); simp at *; omega
theorem len4 (a b c d : Str) (x y z u : V) : (putF d u (putF c z (putF b y (putF a x [])))).length ≤ 4 := by have := putF_le a x []; have := putF_le b y (putF a x []); have := putF_le c z (putF b y (putF a x [])); have := putF_le d u (putF c z (putF b y (putF a x []))); simp at *; omega
noncomputable def spMInit (mg : Str → Option Value) : Sp := fun vs H Q _ => ∃ (p dx w : Addr) (am ce : V) (lo hi : Int), vs = [.ref p, .ref w] ∧ H p = some (.ins (clsAt mg "Many") dx []) ∧ H w = some (.tup [.str "many", am, ce, .int lo, .int hi]) ∧ ∀ H', ManyAt mg H' p am ce lo hi → ButOne p H H' → Q .non H'
noncomputable def fewN (av : List Int) (rm : Str → List Int) (cs : List Str) : Nat := (cs.filter fun c => (rm c).all fun v => decide (v ∈ av)).length
noncomputable def mostN (av : List Int) (rm : Str → List Int) (cs : List Str) : Nat := (cs.filter fun c => (rm c).any fun v => decide (v ∈ av)).length
structure ManyIn (mg : Str → Option Value) (H : Hp) (p r : Addr) (av : List Int) (cs : List Str) (lo hi : Int) (kvs : List (Key × V)) (rm : Str → List Int) : Prop where
  ob : ∃ am ce, ManyAt mg H p (.ref am) (.ref ce) lo hi ∧ H am = some (.tup (av.map V.int)) ∧ H ce = some (.tup (cs.map V.str))
  rd : H r = some (.dK kvs)
  rf : RoomsFor H kvs cs rm
  sm : av.length ≤ 20 ∧ cs.length ≤ 20 ∧ ∀ c ∈ cs, (rm c).length ≤ 20
noncomputable def spFew (mg : Str → Option Value) : Sp := fun vs H Q _ => ∃ (p r : Addr) (av : List Int) (cs : List Str) (lo hi : Int) (kvs : List (Key × V)) (rm : Str → List Int), vs = [.ref p, .ref r] ∧ ManyIn mg H p r av cs lo hi kvs rm ∧ ∀ H', Same H H' → Q (.int (fewN av rm cs)) H'
noncomputable def spMost (mg : Str → Option Value) : Sp := fun vs H Q _ => ∃ (p r : Addr) (av : List Int) (cs : List Str) (lo hi : Int) (kvs : List (Key × V)) (rm : Str → List Int), vs = [.ref p, .ref r] ∧ ManyIn mg H p r av cs lo hi kvs rm ∧ ∀ H', Same H H' → Q (.int (mostN av rm cs)) H'
noncomputable def mayKeepB (lo hi : Int) (a b : Nat) : Bool := decide (lo ≤ hi) && decide (lo ≤ b) && decide ((a : Int) ≤ hi) && decide (a ≤ b)
noncomputable def mayBreakB (lo hi : Int) (a b : Nat) : Bool := decide ((a : Int) < lo) || decide (hi < (b : Int))
noncomputable def spMMayKeep (mg : Str → Option Value) : Sp := fun vs H Q _ => ∃ (p r : Addr) (av : List Int) (cs : List Str) (lo hi : Int) (kvs : List (Key × V)) (rm : Str → List Int), vs = [.ref p, .ref r] ∧ ManyIn mg H p r av cs lo hi kvs rm ∧ ∀ H', Same H H' → Q (.bl (mayKeepB lo hi (fewN av rm cs) (mostN av rm cs))) H'
noncomputable def spMMayBreak (mg : Str → Option Value) : Sp := fun vs H Q _ => ∃ (p r : Addr) (av : List Int) (cs : List Str) (lo hi : Int) (kvs : List (Key × V)) (rm : Str → List Int), vs = [.ref p, .ref r] ∧ ManyIn mg H p r av cs lo hi kvs rm ∧ ∀ H', Same H H' → Q (.bl (mayBreakB lo hi (fewN av rm cs) (mostN av rm cs))) H'
theorem ManyIn.same {mg : Str → Option Value} {H H' : Hp} {p r : Addr} {av : List Int} {cs : List Str} {lo hi : Int} {kvs : List (Key × V)} {rm : Str → List Int} (h : ManyIn mg H p r av cs lo hi kvs rm) (s : Same H H') : ManyIn mg H' p r av cs lo hi kvs rm := by
  obtain ⟨am, ce, h1, h2, h3⟩ := h.ob
  refine ⟨⟨am, ce, h1.same s, s _ _ h2, s _ _ h3⟩, s _ _ h.rd, fun c hc => ?_, h.sm⟩
  obtain ⟨a, e1, e2⟩ := h.rf c hc
  exact ⟨a, e1, s _ _ e2⟩
theorem ok_Wish___init__S  (T : Txt K mg) (L : MtdL K (ClsM K (clsAt mg "Wish") "__init__") "__init__" "Wish.__init__" s_Wish___init__ ["self", "wish"])  : FnR P w K mg base (ClsM K (clsAt mg "Wish") "__init__") 1 ["self", "wish"] (spWInit mg "Sum") := by
  have nd := sc_Wish___init__.nd
  refine L.ok sc_Wish___init__ (fun vs H Q E h => ?_) (fun f cdv A outer s H vs Q E hr h => ?_) <;> obtain ⟨p, dx, fs, w, rfl, hp, hf, k⟩ := h
  · rfl
  have hu := hu_of hr
  refine ⟨_, (pss_one (ps_fldC T.cl_Sum T.no_Sum_wish (pvM 0) (pvM 1) rfl)), ?_⟩
  (try ctx_has vcx true_and hp)
  exact ⟨hf, k⟩
theorem ok_Wish___init__M  (T : Txt K mg) (L : MtdL K (ClsM K (clsAt mg "Wish") "__init__") "__init__" "Wish.__init__" s_Wish___init__ ["self", "wish"])  : FnR P w K mg base (ClsM K (clsAt mg "Wish") "__init__") 1 ["self", "wish"] (spWInit mg "Many") := by
  have nd := sc_Wish___init__.nd
  refine L.ok sc_Wish___init__ (fun vs H Q E h => ?_) (fun f cdv A outer s H vs Q E hr h => ?_) <;> obtain ⟨p, dx, fs, w, rfl, hp, hf, k⟩ := h
  · rfl
  have hu := hu_of hr
  refine ⟨_, (pss_one (ps_fldC T.cl_Many T.no_Many_wish (pvM 0) (pvM 1) rfl)), ?_⟩
  (try ctx_has vcx true_and hp)
  exact ⟨hf, k⟩
theorem ok_Many___init__  (T : Txt K mg) (L : MtdL K (Mk K (clsAt mg "Many")) "__init__" "Many.__init__" s_Many___init__ ["self", "wish"]) (FWish___init__ : FnR P w K mg base (ClsM K (clsAt mg "Wish") "__init__") 1 ["self", "wish"] (spWInit mg "Many")) : FnR P w K mg base (Mk K (clsAt mg "Many")) 2 ["self", "wish"] (spMInit mg) := by
  have nd := sc_Many___init__.nd
  refine L.ok sc_Many___init__ (fun vs H Q E h => ?_) (fun f cdv A outer s H vs Q E hr h => ?_) <;> obtain ⟨p, dx, w, am, ce, lo, hi, rfl, hp, hw, k⟩ := h
  · rfl
  have hu := hu_of hr
  refine ⟨_, (pss_cons (ps_expr (pe_clsF FWish___init__ (hr.mono (by first | decide | omega)) rfl T.at_Wish (pa_cons (pvM 0) (pa_cons (pvM 1) pa_nil))))
    (pss_cons (ps_fldC T.cl_Many T.no_Many_among (pvM 0) (pe_ix ix_T (pvM 1) pe_int (fun _ _ => rfl)) rfl)
    (pss_cons (ps_fldC T.cl_Many T.no_Many_cells (pvM 0) (pe_ix ix_T (pvM 1) pe_int (fun _ _ => rfl)) rfl)
    (pss_cons (ps_fldC T.cl_Many T.no_Many_low (pvM 0) (pe_ix ix_T (pvM 1) pe_int (fun _ _ => rfl)) rfl)
    (pss_one (ps_fldC T.cl_Many T.no_Many_high (pvM 0) (pe_ix ix_T (pvM 1) pe_int (fun _ _ => rfl)) rfl)))))), ?_⟩
  (try ctx_has vcx true_and hw)
  have pw : w ≠ p := ne_of hw hp (by intro z; cases z)
  refine ⟨p, dx, [], .ref w, rfl, hp, by decide, ?_⟩
  (try ctx_has vcx true_and upd_same)
  refine ⟨_, by rw [upd_ne pw]; exact hw, ?_⟩
  (try ctx_has vcx true_and)
  refine ⟨lt1000 (len1 _ "" "" "" _ .non .non .non), _, by rw [upd_ne pw, upd_ne pw]; exact hw, ?_⟩
  (try ctx_has vcx true_and)
  refine ⟨lt1000 (len2 _ _ "" "" _ _ .non .non), _, by rw [upd_ne pw, upd_ne pw, upd_ne pw]; exact hw, ?_⟩
  (try ctx_has vcx true_and)
  refine ⟨lt1000 (len3 _ _ _ "" _ _ _ .non), _, by rw [upd_ne pw, upd_ne pw, upd_ne pw, upd_ne pw]; exact hw, ?_⟩
  (try ctx_has vcx true_and)
  refine ⟨lt1000 (len4 _ _ _ _ _ _ _ _), k _ ⟨dx, _, upd_same, ?_⟩ ?_⟩
  · simp only [lookup_putF, ofS_inj, String.reduceEq, if_true, if_false, true_and, List.lookup_nil, and_self]
  · intro b o hb e
    rw [upd_ne hb, upd_ne hb, upd_ne hb, upd_ne hb, upd_ne hb]
    exact e
theorem ok_Many_fewest  (T : Txt K mg) (L : MtdL K (Meth K (clsAt mg "Many") "fewest") "fewest" "Many.fewest" s_Many_fewest ["self", "rooms"])  : FnR P w K mg base (Meth K (clsAt mg "Many") "fewest") 1 ["self", "rooms"] (spFew mg) := by
  have nd := sc_Many_fewest.nd
  refine L.ok sc_Many_fewest (fun vs H Q E h => ?_) (fun f cdv A outer s H vs Q E hr h => ?_) <;> obtain ⟨p, r, av, cs, lo, hi, kvs, rm, rfl, M, k⟩ := h
  · rfl
  have hu := hu_of hr
  refine ⟨_, (pss_one (ps_ret (pe_callB call_lenL rfl T.b_len PySem.boot_len (pa_cons (pe_comp (N := ["cell", "self", "rooms"]) (nt := 1) (js := [0, 1]) rfl (compOk_of ["self", "rooms"] (defScope s_Many_fewest).names rfl rfl rfl (by decide +kernel)) (pi_TK (K := K) rfl (pe_fldC T.cl_Many T.no_Many_cells (pvM 0))) (fun _ _ _ _ _ _ => (pg_name (i := 0) (show List.Nodup [("cell" : Str), ("self" : Str), ("rooms" : Str)] by decide +kernel) rfl (Or.inl rfl))) (tgOk_name (by decide)) (fun _ _ _ _ _ _ => pts_one (pt_val (pe_callB (call_allL rfl) rfl T.b_all (show bootBuiltins "all" = some (.builtin "all") by decide +kernel) (pa_cons (pe_comp (N := ["value", "self"]) (nt := 1) (js := [1]) rfl (compOk_of ["cell", "self", "rooms"] (relN (defScope s_Many_fewest).kind (defScope s_Many_fewest).names _) rfl rfl rfl (by decide +kernel)) (pi_TK (K := K) rfl (pe_dg hu (pvM 2) (pvM 0) (fun _ _ => rfl))) (fun _ _ _ _ _ _ => (pg_name (i := 0) (show List.Nodup [("value" : Str), ("self" : Str)] by decide +kernel) rfl (Or.inl rfl))) (tgOk_name (by decide)) (fun _ _ _ _ _ _ => pts_nil) (fun _ _ _ _ _ _ => (pe_cmpR op_inT (pvM 0) (pe_fldC T.cl_Many T.no_Many_among (pvM 1)) (by with_unfolding_all rfl)))) pa_nil)))) (fun _ _ _ _ _ _ => (pvM 0))) pa_nil)))), ?_⟩
  obtain ⟨am, ce, ⟨dx, fs, h1, f1, f2, f3, f4, f5, f6, f7, f8⟩, ha, hc⟩ := M.ob
  have hr1 := M.rd
  obtain ⟨z1, z2, z3⟩ := M.sm
  (try ctx_has vcx true_and h1 f2 hc)
  intro q hq
  refine comp_filterS wlk_tup (fun v => match v with | .str c => (rm c).all (fun x => decide (x ∈ av)) | _ => false) id hq (fun H' s => .of (s _ _ hc)) (by simp; omega) ?_ ?_ ?_
  · intro x H2 Q2 hx sm q2
    obtain ⟨c, hcm, rfl⟩ := List.mem_map.mp hx
    obtain ⟨a, hv, hat⟩ := M.rf c hcm
    have hr2 := sm _ _ hr1
    have hat2 := sm _ _ hat
    (try ctx_has vcx true_and hr2 hv hat2)
    intro g hg
    refine comp_mapS wlk_tup (fun v => match v with | .int i => .bl (decide (i ∈ av)) | _ => .non) hg (fun H' s => .of (s _ _ hat2)) (by simp; have := z3 c hcm; omega) ?_ ?_
    · intro y H3 Q3 hy s3 q3
      obtain ⟨i, _, rfl⟩ := List.mem_map.mp hy
      have h1' := s3 _ _ (sm _ _ h1)
      have ha' := s3 _ _ (sm _ _ ha)
      (try ctx_has vcx true_and h1' f1 ha')
      refine ⟨rfl, flat_ints _, ?_⟩
      rw [inV_ints]
      exact q3 H3 (Same.refl _)
    · intro H3 s3 h3
      (try ctx_has vcx true_and)
      refine ⟨(rm c).map (fun i => decide (i ∈ av)), by rw [h3, List.map_map, List.map_map]; rfl, ?_⟩
      have := q2 H3 s3
      rw [List.all_map]
      exact this
  · intro x H2 Q2 hx _ sm q2
    (try ctx_has vcx true_and)
    exact q2 H2 (Same.refl _)
  · intro H2 sm h2
    (try ctx_has vcx true_and h2)
    have := k H2 sm
    rw [List.length_map, List.filter_map, List.length_map]
    exact this
theorem ok_Many_most  (T : Txt K mg) (L : MtdL K (Meth K (clsAt mg "Many") "most") "most" "Many.most" s_Many_most ["self", "rooms"])  : FnR P w K mg base (Meth K (clsAt mg "Many") "most") 1 ["self", "rooms"] (spMost mg) := by
  have nd := sc_Many_most.nd
  refine L.ok sc_Many_most (fun vs H Q E h => ?_) (fun f cdv A outer s H vs Q E hr h => ?_) <;> obtain ⟨p, r, av, cs, lo, hi, kvs, rm, rfl, M, k⟩ := h
  · rfl
  have hu := hu_of hr
  refine ⟨_, (pss_one (ps_ret (pe_callB call_lenL rfl T.b_len PySem.boot_len (pa_cons (pe_comp (N := ["cell", "self", "rooms"]) (nt := 1) (js := [0, 1]) rfl (compOk_of ["self", "rooms"] (defScope s_Many_most).names rfl rfl rfl (by decide +kernel)) (pi_TK (K := K) rfl (pe_fldC T.cl_Many T.no_Many_cells (pvM 0))) (fun _ _ _ _ _ _ => (pg_name (i := 0) (show List.Nodup [("cell" : Str), ("self" : Str), ("rooms" : Str)] by decide +kernel) rfl (Or.inl rfl))) (tgOk_name (by decide)) (fun _ _ _ _ _ _ => pts_one (pt_val (pe_callB (call_anyL rfl) rfl T.b_any (show bootBuiltins "any" = some (.builtin "any") by decide +kernel) (pa_cons (pe_comp (N := ["value", "self"]) (nt := 1) (js := [1]) rfl (compOk_of ["cell", "self", "rooms"] (relN (defScope s_Many_most).kind (defScope s_Many_most).names _) rfl rfl rfl (by decide +kernel)) (pi_TK (K := K) rfl (pe_dg hu (pvM 2) (pvM 0) (fun _ _ => rfl))) (fun _ _ _ _ _ _ => (pg_name (i := 0) (show List.Nodup [("value" : Str), ("self" : Str)] by decide +kernel) rfl (Or.inl rfl))) (tgOk_name (by decide)) (fun _ _ _ _ _ _ => pts_nil) (fun _ _ _ _ _ _ => (pe_cmpR op_inT (pvM 0) (pe_fldC T.cl_Many T.no_Many_among (pvM 1)) (by with_unfolding_all rfl)))) pa_nil)))) (fun _ _ _ _ _ _ => (pvM 0))) pa_nil)))), ?_⟩
  obtain ⟨am, ce, ⟨dx, fs, h1, f1, f2, f3, f4, f5, f6, f7, f8⟩, ha, hc⟩ := M.ob
  have hr1 := M.rd
  obtain ⟨z1, z2, z3⟩ := M.sm
  (try ctx_has vcx true_and h1 f2 hc)
  intro q hq
  refine comp_filterS wlk_tup (fun v => match v with | .str c => (rm c).any (fun x => decide (x ∈ av)) | _ => false) id hq (fun H' s => .of (s _ _ hc)) (by simp; omega) ?_ ?_ ?_
  · intro x H2 Q2 hx sm q2
    obtain ⟨c, hcm, rfl⟩ := List.mem_map.mp hx
    obtain ⟨a, hv, hat⟩ := M.rf c hcm
    have hr2 := sm _ _ hr1
    have hat2 := sm _ _ hat
    (try ctx_has vcx true_and hr2 hv hat2)
    intro g hg
    refine comp_mapS wlk_tup (fun v => match v with | .int i => .bl (decide (i ∈ av)) | _ => .non) hg (fun H' s => .of (s _ _ hat2)) (by simp; have := z3 c hcm; omega) ?_ ?_
    · intro y H3 Q3 hy s3 q3
      obtain ⟨i, _, rfl⟩ := List.mem_map.mp hy
      have h1' := s3 _ _ (sm _ _ h1)
      have ha' := s3 _ _ (sm _ _ ha)
      (try ctx_has vcx true_and h1' f1 ha')
      refine ⟨rfl, flat_ints _, ?_⟩
      rw [inV_ints]
      exact q3 H3 (Same.refl _)
    · intro H3 s3 h3
      (try ctx_has vcx true_and)
      refine ⟨(rm c).map (fun i => decide (i ∈ av)), by rw [h3, List.map_map, List.map_map]; rfl, ?_⟩
      have := q2 H3 s3
      rw [List.any_map]
      exact this
  · intro x H2 Q2 hx _ sm q2
    (try ctx_has vcx true_and)
    exact q2 H2 (Same.refl _)
  · intro H2 sm h2
    (try ctx_has vcx true_and h2)
    have := k H2 sm
    rw [List.length_map, List.filter_map, List.length_map]
    exact this
theorem ok_Many_may_keep  (T : Txt K mg) (L : MtdL K (Meth K (clsAt mg "Many") "may_keep") "may_keep" "Many.may_keep" s_Many_may_keep ["self", "rooms"]) (FMany_fewest : FnR P w K mg base (Meth K (clsAt mg "Many") "fewest") 1 ["self", "rooms"] (spFew mg)) (FMany_most : FnR P w K mg base (Meth K (clsAt mg "Many") "most") 1 ["self", "rooms"] (spMost mg)) : FnR P w K mg base (Meth K (clsAt mg "Many") "may_keep") 2 ["self", "rooms"] (spMMayKeep mg) := by
  have nd := sc_Many_may_keep.nd
  refine L.ok sc_Many_may_keep (fun vs H Q E h => ?_) (fun f cdv A outer s H vs Q E hr h => ?_) <;> obtain ⟨p, r, av, cs, lo, hi, kvs, rm, rfl, M, k⟩ := h
  · rfl
  have hu := hu_of hr
  refine ⟨_, (pss_one (ps_ret (pe_cmpR op_le (pe_callB (call_max2 rfl) rfl T.b_max (show bootBuiltins "max" = some (.builtin "max") by decide +kernel) (pa_cons (pe_fldC T.cl_Many T.no_Many_low (pvM 0)) (pa_cons (pe_methF T.cl_Many FMany_fewest (hr.mono (by first | decide | omega)) (pvM 0) (pa_cons (pvM 1) pa_nil)) pa_nil))) (pe_callB (call_min2 rfl) rfl T.b_min (show bootBuiltins "min" = some (.builtin "min") by decide +kernel) (pa_cons (pe_fldC T.cl_Many T.no_Many_high (pvM 0)) (pa_cons (pe_methF T.cl_Many FMany_most (hr.mono (by first | decide | omega)) (pvM 0) (pa_cons (pvM 1) pa_nil)) pa_nil))) (nomark _)))), ?_⟩
  obtain ⟨am, ce, ⟨dx, fs, h1, f1, f2, f3, f4, f5, f6, f7, f8⟩, ha, hc⟩ := M.ob
  (try ctx_has vcx true_and h1 f3 f4 f5 f6)
  refine ⟨p, r, av, cs, lo, hi, kvs, rm, rfl, M, fun H1 s1 => ?_⟩
  have h1' := s1 _ _ h1
  (try ctx_has vcx true_and h1' f4 f6)
  refine ⟨p, r, av, cs, lo, hi, kvs, rm, rfl, M.same s1, fun H2 s2 => ?_⟩
  (try ctx_has vcx true_and)
  have := k H2 (s1.trans s2)
  have e : mayKeepB lo hi (fewN av rm cs) (mostN av rm cs) = decide ((if (fewN av rm cs : Int) > lo then (fewN av rm cs : Int) else lo) ≤ if (mostN av rm cs : Int) < hi then (mostN av rm cs : Int) else hi) := by
    unfold mayKeepB
    rw [Bool.eq_iff_iff]
    simp only [Bool.and_eq_true, decide_eq_true_eq]
    split <;> split <;> omega
  rw [e] at this
  exact this
theorem ok_Many_may_break  (T : Txt K mg) (L : MtdL K (Meth K (clsAt mg "Many") "may_break") "may_break" "Many.may_break" s_Many_may_break ["self", "rooms"]) (FMany_fewest : FnR P w K mg base (Meth K (clsAt mg "Many") "fewest") 1 ["self", "rooms"] (spFew mg)) (FMany_most : FnR P w K mg base (Meth K (clsAt mg "Many") "most") 1 ["self", "rooms"] (spMost mg)) : FnR P w K mg base (Meth K (clsAt mg "Many") "may_break") 2 ["self", "rooms"] (spMMayBreak mg) := by
  have nd := sc_Many_may_break.nd
  refine L.ok sc_Many_may_break (fun vs H Q E h => ?_) (fun f cdv A outer s H vs Q E hr h => ?_) <;> obtain ⟨p, r, av, cs, lo, hi, kvs, rm, rfl, M, k⟩ := h
  · rfl
  have hu := hu_of hr
  refine ⟨_, (pss_one (ps_ret (pe_or (pe_cmpR op_lt (pe_methF T.cl_Many FMany_fewest (hr.mono (by first | decide | omega)) (pvM 0) (pa_cons (pvM 1) pa_nil)) (pe_fldC T.cl_Many T.no_Many_low (pvM 0)) (nomark _)) (pe_one (pe_cmpR op_lt (pe_fldC T.cl_Many T.no_Many_high (pvM 0)) (pe_methF T.cl_Many FMany_most (hr.mono (by first | decide | omega)) (pvM 0) (pa_cons (pvM 1) pa_nil)) (nomark _)))))), ?_⟩
  obtain ⟨am, ce, ⟨dx, fs, h1, f1, f2, f3, f4, f5, f6, f7, f8⟩, ha, hc⟩ := M.ob
  (try ctx_has vcx true_and h1 f3 f4 f5 f6)
  refine ⟨p, r, av, cs, lo, hi, kvs, rm, rfl, M, fun H1 s1 => ?_⟩
  have h1' := s1 _ _ h1
  (try ctx_has vcx true_and h1' f3 f4 f6)
  refine ite2 (fun h => ?_) (fun h => ?_)
  · have := k H1 s1
    unfold mayBreakB at this
    rw [decide_eq_true h, Bool.true_or] at this
    exact this
  · refine ⟨p, r, av, cs, lo, hi, kvs, rm, rfl, M.same s1, fun H2 s2 => ⟨_, rfl, ?_⟩⟩
    have := k H2 (s1.trans s2)
    unfold mayBreakB at this
    rw [decide_eq_false h, Bool.false_or] at this
    exact this
theorem plain_put {kvs : List (Key × V)} {k : Key} {v : V} (h : ∀ x ∈ kvs, plainV x.2 = true) (hv : plainV v = true) : ∀ x ∈ putK kvs k v, plainV x.2 = true := by
  intro x hx
  unfold putK at hx
  split at hx
  · obtain ⟨y, hy, rfl⟩ := List.mem_map.mp hx
    split
    · exact hv
    · exact h y hy
  · rcases List.mem_append.mp hx with q | q
    · exact h x q
    · rw [List.mem_singleton.mp q]; exact hv
theorem RoomsFor.same {H H' : Hp} {kvs : List (Key × V)} {cs : List Str} {rm : Str → List Int} (h : RoomsFor H kvs cs rm) (s : ∀ a vs, H a = some (.tup vs) → H' a = some (.tup vs)) : RoomsFor H' kvs cs rm := fun c hc => by
  obtain ⟨a, e1, e2⟩ := h c hc
  exact ⟨a, e1, s _ _ e2⟩
noncomputable def setF {α : Type} (f : Str → α) (c : Str) (v : α) : Str → α := fun x => if x = c then v else f x
theorem RoomsFor.put {H H' : Hp} {kvs : List (Key × V)} {cs : List Str} {rm : Str → List Int} {c : Str} {t : Addr} {ns : List Int} (h : RoomsFor H kvs cs rm) (hc : c ∉ cs) (s : ∀ a vs, H a = some (.tup vs) → H' a = some (.tup vs)) (ht : H' t = some (.tup (ns.map V.int))) :
    RoomsFor H' (putK kvs (Sum.inr c) (.ref t)) (cs ++ [c]) (setF rm c ns) := fun x hx => by
  rcases List.mem_append.mp hx with q | q
  · have hne : x ≠ c := fun e => hc (e ▸ q)
    obtain ⟨a, e1, e2⟩ := h x q
    refine ⟨a, ?_, ?_⟩
    · rw [valV_put, if_neg (fun e => hne (Sum.inr.inj e))]; exact e1
    · unfold setF; rw [if_neg hne]; exact s _ _ e2
  · rw [List.mem_singleton.mp q]
    refine ⟨t, by rw [valV_put, if_pos rfl], ?_⟩
    unfold setF; rw [if_pos rfl]; exact ht
noncomputable def okF (rm : Str → List Int) (cs : List Str) (g : Str → Int) : Prop := ∀ c ∈ cs, g c ∈ rm c
theorem setF_same {α : Type} (g : Str → α) (c : Str) (v : α) : setF g c v c = v := by unfold setF; rw [if_pos rfl]
theorem setF_ne {α : Type} (g : Str → α) {c x : Str} (v : α) (h : x ≠ c) : setF g c v x = g x := by unfold setF; rw [if_neg h]
noncomputable def bV : Option Int → V | none => .non | some i => .int i
noncomputable def btwB (n : Int) (lo hi : Option Int) : Bool := (match lo with | none => true | some a => decide (a ≤ n)) && (match hi with | none => true | some b => decide (n ≤ b))
noncomputable def TermsAt (H : Hp) (t : Addr) (ts : List (Int × Str)) : Prop := ∃ as : List (Addr × Int × Str), H t = some (.tup (as.map fun x => V.ref x.1)) ∧ as.map (·.2) = ts ∧ ∀ x ∈ as, H x.1 = some (.tup [.int x.2.1, .str x.2.2])
theorem TermsAt.keep {H H' : Hp} {t : Addr} {ts : List (Int × Str)} (h : TermsAt H t ts) (k : ∀ a xs, H a = some (.tup xs) → H' a = some (.tup xs)) : TermsAt H' t ts := by
  obtain ⟨as, h1, h2, h3⟩ := h
  exact ⟨as, k _ _ h1, h2, fun x hx => k _ _ (h3 x hx)⟩
noncomputable abbrev Dat := List (Int × Str) × Option Int × Option Int
noncomputable def WS (H : Hp) (w : Addr) (dat : Dat) (cs : List Str) : Prop := ∃ t, H w = some (.tup [.str "sum", .ref t, bV dat.2.1, bV dat.2.2]) ∧ TermsAt H t dat.1
noncomputable def okD (dat : Dat) (cs : List Str) : Prop := dat.1.map (·.2) = cs ∧ cs ≠ [] ∧ ∀ x ∈ dat.1, -1000000 ≤ x.1 ∧ x.1 ≤ 1000000
noncomputable def OB (mg : Str → Option Value) (H : Hp) (t : Addr) (dat : Dat) (cs : List Str) : Prop := ∃ dx fs te, H t = some (.ins (clsAt mg "Sum") dx fs) ∧ TermsAt H te dat.1 ∧ fs.lookup (Str.ofString "terms") = some (.ref te) ∧ fs.lookup (Str.ofString "low") = some (bV dat.2.1) ∧ fs.lookup (Str.ofString "high") = some (bV dat.2.2) ∧
  fs.lookup (Str.ofString "may_keep") = none ∧ fs.lookup (Str.ofString "may_break") = none ∧ fs.lookup (Str.ofString "may_end_well") = none ∧ fs.lookup (Str.ofString "sums_with") = none ∧ fs.lookup (Str.ofString "sums_kept") = none
theorem OB_ins {mg : Str → Option Value} {H : Hp} {t : Addr} {dat : Dat} {cs : List Str} (h : OB mg H t dat cs) : ∃ dx fs, H t = some (.ins (clsAt mg "Sum") dx fs) ∧ fs.lookup (Str.ofString "may_keep") = none ∧ fs.lookup (Str.ofString "may_break") = none := by
  obtain ⟨dx, fs, te, h1, h2, h3, h4, h5, h6, h7, _⟩ := h
  exact ⟨dx, fs, h1, h6, h7⟩
theorem OB_keep {mg : Str → Option Value} {H H' : Hp} {t : Addr} {dat : Dat} {cs : List Str} (h : OB mg H t dat cs) (k : KeepTI H H') : OB mg H' t dat cs := by
  obtain ⟨dx, fs, te, h1, h2, h3⟩ := h
  exact ⟨dx, fs, te, k.ins _ _ _ _ h1, h2.keep k.tup, h3⟩
noncomputable def sumT (ts : List (Int × Str)) (g : Str → Int) : Int := (ts.map fun x => x.1 * g x.2).sum
noncomputable def keptG (dat : Dat) (cs : List Str) (g : Str → Int) : Bool := btwB (sumT dat.1 g) dat.2.1 dat.2.2
noncomputable def spInit (mg : Str → Option Value) : Sp := fun vs H Q _ => ∃ (p dx w : Addr) (dat : Dat) (cs : List Str), vs = [.ref p, .ref w] ∧ H p = some (.ins (clsAt mg "Sum") dx []) ∧ WS H w dat cs ∧ ∀ H', OB mg H' p dat cs → ButOne p H H' → Q .non H'
structure AskIn (mg : Str → Option Value) (H : Hp) (p r : Addr) (dat : Dat) (cs : List Str) (kvs : List (Key × V)) (rm : Str → List Int) : Prop where
  ob : OB mg H p dat cs
  rd : H r = some (.dK kvs)
  rf : RoomsFor H kvs cs rm
  ok : okD dat cs
  nd : cs.Nodup
  cl : cs.length ≤ 6
  gd : ∀ c ∈ cs, 1 ≤ (rm c).length ∧ (rm c).length ≤ 4 ∧ (rm c).Nodup
noncomputable def spMayKeep (mg : Str → Option Value) : Sp := fun vs H Q _ => ∃ (p r : Addr) (dat : Dat) (cs : List Str) (kvs : List (Key × V)) (rm : Str → List Int), vs = [.ref p, .ref r] ∧ AskIn mg H p r dat cs kvs rm ∧ ∀ (b : Bool) H', (b = true ↔ ∃ g, okF rm cs g ∧ keptG dat cs g = true) → Same H H' → Q (.bl b) H'
noncomputable def spMayBreak (mg : Str → Option Value) : Sp := fun vs H Q _ => ∃ (p r : Addr) (dat : Dat) (cs : List Str) (kvs : List (Key × V)) (rm : Str → List Int), vs = [.ref p, .ref r] ∧ AskIn mg H p r dat cs kvs rm ∧ ∀ (b : Bool) H', (b = true ↔ ∃ g, okF rm cs g ∧ keptG dat cs g = false) → Same H H' → Q (.bl b) H'
noncomputable def spBtw : Sp := fun vs H Q _ => ∃ (n : Int) (lo hi : Option Int), vs = [.int n, bV lo, bV hi] ∧ ∀ H', Same H H' → Q (.bl (btwB n lo hi)) H'
structure SpanOk (rm : Str → List Int) (ts : List (Int × Str)) (lo hi : Int) : Prop where
  bd : ∀ g, okF rm (ts.map (·.2)) g → lo ≤ sumT ts g ∧ sumT ts g ≤ hi
  lo' : ∃ g, okF rm (ts.map (·.2)) g ∧ sumT ts g = lo
  hi' : ∃ g, okF rm (ts.map (·.2)) g ∧ sumT ts g = hi
theorem SpanOk.nil (rm : Str → List Int) : SpanOk rm [] 0 0 := ⟨fun g _ => ⟨Int.le_refl _, Int.le_refl _⟩, ⟨fun _ => 0, fun c hc => by simp at hc, rfl⟩, ⟨fun _ => 0, fun c hc => by simp at hc, rfl⟩⟩
theorem SpanOk.zero {rm : Str → List Int} {lo hi : Int} (h : SpanOk rm [] lo hi) : lo = 0 ∧ hi = 0 := by
  obtain ⟨g, _, e⟩ := h.lo'
  obtain ⟨g', _, e'⟩ := h.hi'
  exact ⟨e.symm, e'.symm⟩
theorem sumT_cons (a : Int) (c : Str) (ts : List (Int × Str)) (g : Str → Int) : sumT ((a, c) :: ts) g = a * g c + sumT ts g := by simp [sumT]
theorem sumT_setF {ts : List (Int × Str)} {g : Str → Int} {c : Str} {v : Int} (h : c ∉ ts.map (·.2)) : sumT ts (setF g c v) = sumT ts g := by
  unfold sumT
  rw [List.map_congr_left (f := fun x : Int × Str => x.1 * setF g c v x.2) (g := fun x : Int × Str => x.1 * g x.2) fun x hx => by rw [setF_ne _ _ (fun e => h (List.mem_map.mpr ⟨x, hx, e⟩))]]
theorem okF_setF {rm : Str → List Int} {cs : List Str} {g : Str → Int} {c : Str} {v : Int} (h : okF rm cs g) (hv : v ∈ rm c) : okF rm (c :: cs) (setF g c v) := fun x hx => by
  by_cases e : x = c
  · subst e; rw [setF_same]; exact hv
  · rw [setF_ne _ _ e]; exact h x ((List.mem_cons.mp hx).resolve_left e)
theorem SpanOk.cons {rm : Str → List Int} {ts : List (Int × Str)} {lo hi a m M : Int} {c : Str} (h : SpanOk rm ts lo hi) (hc : c ∉ ts.map (·.2)) (hm : m ∈ (rm c).map (a * ·)) (hm' : ∀ x ∈ (rm c).map (a * ·), m ≤ x) (hM : M ∈ (rm c).map (a * ·)) (hM' : ∀ x ∈ (rm c).map (a * ·), x ≤ M) : SpanOk rm ((a, c) :: ts) (lo + m) (hi + M) := by
  refine ⟨fun g hg => ?_, ?_, ?_⟩
  · have h1 := h.bd g fun x hx => hg x (List.mem_cons_of_mem _ hx)
    have h2 : a * g c ∈ (rm c).map (a * ·) := List.mem_map.mpr ⟨g c, hg c (by simp), rfl⟩
    have h3 := hm' _ h2
    have h4 := hM' _ h2
    rw [sumT_cons]
    omega
  · obtain ⟨g, g1, g2⟩ := h.lo'
    obtain ⟨v, hv, e⟩ := List.mem_map.mp hm
    exact ⟨setF g c v, okF_setF g1 hv, by rw [sumT_cons, setF_same, sumT_setF hc]; have e : a * v = _ := e; omega⟩
  · obtain ⟨g, g1, g2⟩ := h.hi'
    obtain ⟨v, hv, e⟩ := List.mem_map.mp hM
    exact ⟨setF g c v, okF_setF g1 hv, by rw [sumT_cons, setF_same, sumT_setF hc]; have e : a * v = _ := e; omega⟩
noncomputable def spParts : Sp := fun vs H Q _ => ∃ (t r ad : Addr) (a : Int) (c : Str) (kvs : List (Key × V)) (rs : List Int), vs = [.ref t, .ref r] ∧ H t = some (.tup [.int a, .str c]) ∧ H r = some (.dK kvs) ∧ valV kvs (Sum.inr c) = some (.ref ad) ∧ H ad = some (.tup (rs.map V.int)) ∧ (-1000000 ≤ a ∧ a ≤ 1000000) ∧ rs.length ≤ 10 ∧ ∀ l H', Same H H' → H l = none → H' l = some (.lst ((rs.map (a * ·)).map V.int)) → Q (.ref l) H'
noncomputable def spSpans : Sp := fun vs H Q _ => ∃ (t r : Addr) (ts : List (Int × Str)) (kvs : List (Key × V)) (rm : Str → List Int), vs = [.ref t, .ref r] ∧ TermsAt H t ts ∧ H r = some (.dK kvs) ∧ RoomsFor H kvs (ts.map (·.2)) rm ∧ (ts.map (·.2)).Nodup ∧ ts.length ≤ 12 ∧ (∀ x ∈ ts, -1000000 ≤ x.1 ∧ x.1 ≤ 1000000) ∧ (∀ c ∈ ts.map (·.2), rm c ≠ [] ∧ (rm c).length ≤ 10) ∧
  ∀ (l : Addr) (zs : List (Addr × Int × Int)) H', Same H H' → H' l = some (.lst (zs.map fun x => V.ref x.1)) → zs.length = ts.length + 1 → (∀ x ∈ zs, H' x.1 = some (.tup [.int x.2.1, .int x.2.2])) → (∀ (i : Nat) z, zs[i]? = some z → SpanOk rm (ts.drop i) z.2.1 z.2.2) → Q (.ref l) H'
noncomputable def mewB (s mn mx : Int) (lo hi : Option Int) : Bool := (match lo with | none => true | some a => decide (a ≤ s + mx)) && (match hi with | none => true | some b => decide (s + mn ≤ b))
noncomputable def spMew (mg : Str → Option Value) : Sp := fun vs H Q _ => ∃ (p b : Addr) (s mn mx : Int) (dat : Dat) (cs : List Str), vs = [.ref p, .int s, .ref b] ∧ OB mg H p dat cs ∧ H b = some (.tup [.int mn, .int mx]) ∧ Q (.bl (mewB s mn mx dat.2.1 dat.2.2)) H
noncomputable def IntK (kvs : List (Key × V)) : Prop := ∀ x ∈ kvs, ∃ i : Int, x.1 = Sum.inl i
noncomputable def hasK (kvs : List (Key × V)) (s : Int) : Prop := (valV kvs (Sum.inl s)).isSome = true
noncomputable def spWith (mg : Str → Option Value) : Sp := fun vs H Q _ => ∃ (p r l b : Addr) (kvs : List (Key × V)) (ps : List Int) (mn mx : Int) (dat : Dat) (cs : List Str), vs = [.ref p, .ref r, .ref l, .ref b] ∧ OB mg H p dat cs ∧ H r = some (.dK kvs) ∧ IntK kvs ∧ H l = some (.lst (ps.map V.int)) ∧ H b = some (.tup [.int mn, .int mx]) ∧ kvs.length * ps.length ≤ 100000 ∧
  ∀ (q : Addr) (kv : List (Key × V)) H', Same H H' → H' q = some (.dK kv) → IntK kv → kv.length ≤ kvs.length * ps.length → (∀ s, hasK kv s ↔ ∃ e, hasK kvs e ∧ ∃ x ∈ ps, s = e + x ∧ mewB s mn mx dat.2.1 dat.2.2 = true) → Q (.ref q) H'
theorem hasK_mem {kvs : List (Key × V)} {s : Int} (hs : (∃ v, (Sum.inl s, v) ∈ kvs)) : hasK kvs s := by
  obtain ⟨v, hv⟩ := hs
  unfold hasK
  induction kvs with
  | nil => simp at hv
  | cons x kvs ih =>
    by_cases e : x.1 = Sum.inl s
    · obtain ⟨x1, x2⟩ := x
      simp only at e
      subst e
      rw [valV_pos rfl]; rfl
    · obtain ⟨x1, x2⟩ := x
      rw [valV_neg e]
      exact ih ((List.mem_cons.mp hv).resolve_left fun z => e (congrArg Prod.fst z).symm)
theorem mem_hasK {kvs : List (Key × V)} {s : Int} (h : hasK kvs s) : ∃ v, (Sum.inl s, v) ∈ kvs := by
  unfold hasK at h
  induction kvs with
  | nil => rw [valV_nil] at h; cases h
  | cons x kvs ih =>
    obtain ⟨x1, x2⟩ := x
    by_cases e : x1 = Sum.inl s
    · subst e; exact ⟨x2, by simp⟩
    · rw [valV_neg e] at h
      obtain ⟨v, hv⟩ := ih h
      exact ⟨v, List.mem_cons_of_mem _ hv⟩
theorem hasK_put {kvs : List (Key × V)} {s t : Int} {v : V} : hasK (putK kvs (Sum.inl t) v) s ↔ s = t ∨ hasK kvs s := by
  unfold hasK
  rw [valV_put]
  by_cases e : s = t
  · subst e; simp
  · rw [if_neg (fun z => e (Sum.inl.inj z))]; simp [e]
theorem IntK.put {kvs : List (Key × V)} {t : Int} {v : V} (h : IntK kvs) : IntK (putK kvs (Sum.inl t) v) := by
  intro x hx
  unfold putK at hx
  split at hx
  · obtain ⟨y, hy, rfl⟩ := List.mem_map.mp hx
    split
    · rename_i e; exact ⟨t, e⟩
    · exact h y hy
  · rcases List.mem_append.mp hx with q | q
    · exact h x q
    · rw [List.mem_singleton.mp q]; exact ⟨t, rfl⟩
theorem ok_is_between   (T : Txt K mg) (L : FnL K mg "is_between" s_is_between ["number", "low", "high"])  : Fn P w K mg base "is_between" 1 ["number", "low", "high"] (spBtw) := by
  have nd := sc_is_between.nd
  refine L.ok sc_is_between (fun vs H Q E h => ?_) (fun f cdv A outer s H vs Q E hr h => ?_) <;> obtain ⟨n, lo, hi, rfl, k⟩ := h
  · rfl
  have hu := hu_of hr
  refine ⟨_, (pss_one (ps_ret (pe_and (pe_or (pe_cmp (pc_isN (pvM 1))) (pe_one (pe_cmpR op_le (pvM 1) (pvM 0) (nomark _)))) (pe_one (pe_or (pe_cmp (pc_isN (pvM 2))) (pe_one (pe_cmpR op_le (pvM 0) (pvM 2) (nomark _)))))))), ?_⟩
  have k1 := k H (Same.refl _)
  cases lo with
  | none =>
    cases hi with
    | none => (try ctx_has vcx true_and tIsN bV decide_true decide_false Bool.false_eq_true); exact k1
    | some b => (try ctx_has vcx true_and tIsN bV decide_true decide_false Bool.false_eq_true); simpa [btwB] using k1
  | some a =>
    cases hi with
    | none =>
      (try ctx_has vcx true_and tIsN bV decide_true decide_false Bool.false_eq_true)
      refine ite2 (fun h => ?_) (fun h => ?_)
      · simpa [btwB, h] using k1
      · simpa [btwB, h] using k1
    | some b =>
      (try ctx_has vcx true_and tIsN bV decide_true decide_false Bool.false_eq_true)
      refine ite2 (fun h => ?_) (fun h => ?_)
      · simpa [btwB, h] using k1
      · simpa [btwB, h] using k1
theorem ok_parts_of   (T : Txt K mg) (L : FnL K mg "parts_of" s_parts_of ["term", "rooms"])  : Fn P w K mg base "parts_of" 1 ["term", "rooms"] (spParts) := by
  have nd := sc_parts_of.nd
  refine L.ok sc_parts_of (fun vs H Q E h => ?_) (fun f cdv A outer s H vs Q E hr h => ?_) <;> obtain ⟨t, r, ad, a, c, kvs, rs, rfl, ht, hrd, hv, had, ha, hl, k⟩ := h
  · rfl
  have hu := hu_of hr
  refine ⟨_, (pss_one (ps_ret (pe_comp (N := ["value", "term"]) (nt := 1) (js := [0]) rfl (compOk_of ["term", "rooms"] (defScope s_parts_of).names rfl rfl rfl (by decide +kernel)) (pi_TK (K := K) rfl (pe_dg hu (pvM 1) (pe_ix ix_T (pvM 0) pe_int (fun _ _ => rfl)) (fun _ _ => rfl))) (fun _ _ _ _ _ _ => (pg_name (i := 0) (show List.Nodup [("value" : Str), ("term" : Str)] by decide +kernel) rfl (Or.inl rfl))) (tgOk_name (by decide)) (fun _ _ _ _ _ _ => pts_nil) (fun _ _ _ _ _ _ => (pe_op op_mul (pe_ix ix_T (pvM 1) pe_int (fun _ _ => rfl)) (pvM 0)))))), ?_⟩
  (try ctx_has vcx true_and ht hrd hv had)
  intro q hq
  refine comp_mapS wlk_tup (fun v => match v with | .int v => .int (a * v) | _ => .non) hq (fun H' s => .of (s _ _ had)) (by rw [List.length_map]; omega) ?_ ?_
  · intro x H2 Q2 hx sm q2
    obtain ⟨y, hy, rfl⟩ := List.mem_map.mp hx
    have e1 := sm _ _ ht
    (try ctx_has vcx true_and e1)
    exact ⟨.inl ⟨by omega, by omega⟩, q2 H2 (Same.refl _)⟩
  · intro H2 sm h2
    refine k q H2 sm hq ?_
    rw [h2, List.map_map, List.map_map]
    rfl
theorem ok_spans_of   (T : Txt K mg) (L : FnL K mg "spans_of" s_spans_of ["terms", "rooms"]) (Fparts_of : Fn P w K mg base "parts_of" 1 ["term", "rooms"] (spParts)) : Fn P w K mg base "spans_of" 2 ["terms", "rooms"] (spSpans) := by
  have nd := sc_spans_of.nd
  refine L.ok sc_spans_of (fun vs H Q E h => ?_) (fun f cdv A outer s H vs Q E hr h => ?_) <;> obtain ⟨t, r, ts, kvs, rm, rfl, hT, hrd, hrf, hnd, hl, hco, hgd, k⟩ := h
  · rfl
  have hu := hu_of hr
  refine ⟨_, (pss_cons (ps_set (i := 2) nd rfl (by first | exact Or.inl rfl | exact Or.inr rfl) (pe_lst (pa_cons (pe_tup (pa_cons pe_int (pa_cons pe_int pa_nil))) pa_nil)))
    (pss_cons (ps_for PassesOwn.never rfl (pi_revT (K := K) rfl rfl T.b_reversed (pa_cons (pvM 0) pa_nil)) (pg_name (i := 3) nd rfl (by first | exact Or.inl rfl | exact Or.inr rfl)) (pss_cons (ps_set (i := 4) nd rfl (by first | exact Or.inl rfl | exact Or.inr rfl) (pe_callF Fparts_of (hr.mono (by first | decide | omega)) rfl (pa_cons (pvM 3) (pa_cons (pvM 1) pa_nil))))
    (pss_one (ps_expr (pe_mL PySem.F.slot_list_append PySem.F.type_list_append ml_append (pvM 2) (pa_cons (pe_tup (pa_cons (pe_op op_add (pe_ix ix_T (pe_ix ix_L (pvM 2) (pe_un un_neg pe_int) (fun _ _ => rfl)) pe_int (fun _ _ => rfl)) (pe_callB (call_minL rfl) rfl T.b_min (show bootBuiltins "min" = some (.builtin "min") by decide +kernel) (pa_cons (pvM 4) pa_nil))) (pa_cons (pe_op op_add (pe_ix ix_T (pe_ix ix_L (pvM 2) (pe_un un_neg pe_int) (fun _ _ => rfl)) pe_int (fun _ _ => rfl)) (pe_callB (call_maxL rfl) rfl T.b_max (show bootBuiltins "max" = some (.builtin "max") by decide +kernel) (pa_cons (pvM 4) pa_nil))) pa_nil))) pa_nil))))))
    (pss_one (ps_ret (pe_listrev rfl rfl T.b_list rfl T.b_reversed (pvM 2)))))), ?_⟩
  obtain ⟨as, ht, rfl, has⟩ := hT
  (try ctx_has vcx true_and)
  refine ⟨by decide, fun z0 hz0 => ⟨by decide, fun q hq => ?_⟩⟩
  have s1 : Same H (upd (upd H z0 (.tup [.int 0, .int 0])) q (.lst [.ref z0])) := (Same.upd0 hz0).upd_new hq
  have zq : z0 ≠ q := by rintro rfl; rw [upd_same] at hq; cases hq
  have hq0 : H q = none := (Same.upd0 hz0).free hq
  refine ⟨_, s1 _ _ ht, ?_⟩
  have elen : (as.map fun x => V.ref x.1).length = as.length := by simp
  have hl12 : as.length ≤ 12 := by simpa using hl
  refine for_g wlk_rev (fun i σ H' => ∃ (zs : List (Addr × Int × Int)) (v3 v4 : Option V), σ = [some (.ref t), some (.ref r), some (.ref q), v3, v4] ∧ H' q = some (.lst (zs.map fun x => V.ref x.1)) ∧ zs.length = i + 1 ∧ (∀ x ∈ zs, H' x.1 = some (.tup [.int x.2.1, .int x.2.2])) ∧ (∀ (j : Nat) z, zs[j]? = some z → SpanOk rm ((as.map (·.2)).drop (as.length - j)) z.2.1 z.2.2) ∧ Same H H')
    ⟨[(z0, 0, 0)], _, _, rfl, upd_same, rfl, fun x hx => ?_, fun j z hj => ?_, s1⟩ (fun i σ H' zq31 => by obtain ⟨_, _, _, _, _, _, _, _, sm⟩ := zq31; exact (.of (sm _ _ ht))) ?_ ?_
  · rw [List.mem_singleton.mp hx, upd_ne zq]; exact upd_same
  · have hj0 : j = 0 := by have := (List.getElem?_eq_some_iff.mp hj).1; simp at this; omega
    subst hj0
    simp at hj
    subst hj
    rw [Nat.sub_zero, List.drop_of_length_le (by simp)]
    exact SpanOk.nil rm
  · rintro i x σ H2 hi hx ⟨zs, v3, v4, rfl, h2, hzl, hzt, hzo, sm2⟩
    rw [List.length_reverse, elen] at hi
    have hx' : (as.map fun x => V.ref x.1)[as.length - 1 - i]? = some x := by
      rw [List.getElem?_reverse (by rw [elen]; exact hi), elen] at hx; exact hx
    have hil : as.length - 1 - i < as.length := by omega
    obtain ⟨y, hy, rfl⟩ : ∃ y, as[as.length - 1 - i]? = some y ∧ V.ref y.1 = x := by
      rw [List.getElem?_map] at hx'
      cases e : as[as.length - 1 - i]? with
      | none => rw [e] at hx'; cases hx'
      | some nm => rw [e] at hx'; exact ⟨nm, rfl, Option.some.inj hx'⟩
    have hym : y ∈ as := List.mem_of_getElem? hy
    have hcm : y.2.2 ∈ (as.map (·.2)).map (·.2) := List.mem_map.mpr ⟨y.2, List.mem_map.mpr ⟨y, hym, rfl⟩, rfl⟩
    obtain ⟨ad, hv, had⟩ := hrf _ hcm
    (try ctx_has vcx true_and)
    refine ⟨y.1, r, ad, y.2.1, y.2.2, kvs, rm y.2.2, rfl, sm2 _ _ (has y hym), sm2 _ _ hrd, hv, sm2 _ _ had, hco y.2 (List.mem_map.mpr ⟨y, hym, rfl⟩), (hgd _ hcm).2, fun pl H3 s3 fpl h3 => ?_⟩
    have h3q := s3 _ _ h2
    have plq : pl ≠ q := fun e => by rw [e, h2] at fpl; cases fpl
    rcases List.eq_nil_or_concat zs with rfl | ⟨zs', zl, ezs⟩
    · simp at hzl
    rw [List.concat_eq_append] at ezs
    have hlast : atI (zs.map fun x => V.ref x.1) (-1) = some (V.ref zl.1) := by rw [ezs, List.map_append]; exact atI_last _ _
    have hzlm : zl ∈ zs := by rw [ezs]; simp
    have hzl3 := s3 _ _ (hzt zl hzlm)
    have hne : (rm y.2.2).map (y.2.1 * ·) ≠ [] := fun e => (hgd _ hcm).1 (List.map_eq_nil_iff.mp e)
    (try ctx_has vcx true_and h3q hlast hzl3 h3)
    refine ⟨_, rfl, hne, fun m hm hm' => ⟨_, rfl, hne, fun M hM hM' => ?_⟩⟩
    refine ⟨by decide, fun zn hzn => ?_⟩
    have s4 : Same H3 (upd H3 zn (.tup [.int (zl.2.1 + m), .int (zl.2.2 + M)])) := Same.upd0 hzn
    have h4q := s4 _ _ h3q
    have kt : ∀ a xs, upd H3 zn (.tup [.int (zl.2.1 + m), .int (zl.2.2 + M)]) a = some (.tup xs) → upd (upd H3 zn (.tup [.int (zl.2.1 + m), .int (zl.2.2 + M)])) q (.lst ((zs.map fun x => V.ref x.1) ++ [V.ref zn])) a = some (.tup xs) := fun a xs e => by rw [upd_ne (ne_of e h4q (by intro z; cases z))]; exact e
    refine ⟨_, h4q, by rw [List.length_map]; exact small1000 (by omega), zs ++ [(zn, zl.2.1 + m, zl.2.2 + M)], by rw [upd_same]; simp, by simp [hzl], fun x hx => ?_, fun j z hj => ?_, fun b o e => ?_⟩
    · rcases List.mem_append.mp hx with w | w
      · exact kt _ _ (s4 _ _ (s3 _ _ (hzt x w)))
      · rw [List.mem_singleton.mp w]; exact kt _ _ upd_same
    · by_cases hjl : j < zs.length
      · rw [List.getElem?_append_left hjl] at hj
        exact hzo j z hj
      · have hjn : j = zs.length := by have := (List.getElem?_eq_some_iff.mp hj).1; simp at this; omega
        subst hjn
        rw [List.getElem?_append_right (Nat.le_refl _), Nat.sub_self] at hj
        simp at hj
        subst hj
        have hprev := hzo i zl (by rw [ezs, List.getElem?_append_right (by rw [ezs] at hzl; simp at hzl; omega)]; rw [ezs] at hzl; simp at hzl; simp [hzl])
        have ed : (as.map (·.2)).drop (as.length - zs.length) = (y.2.1, y.2.2) :: (as.map (·.2)).drop (as.length - i) := by
          rw [hzl, show as.length - (i + 1) = as.length - 1 - i by omega, List.drop_eq_getElem_cons (by simp; omega), show as.length - 1 - i + 1 = as.length - i by omega]
          congr 1
          rw [List.getElem_map]
          rw [List.getElem?_eq_getElem hil] at hy
          rw [Option.some.inj hy]
        rw [ed]
        refine hprev.cons ?_ hm hm' hM hM'
        have hnd2 : (((as.map (·.2)).drop (as.length - zs.length)).map (·.2)).Nodup := hnd.sublist ((List.drop_sublist _ _).map _)
        rw [ed, List.map_cons, List.nodup_cons] at hnd2
        exact hnd2.1
    · rw [upd_ne (ne_of_none e hq0)]; exact s4 _ _ (s3 _ _ (sm2 _ _ e))
  · rintro σ H2 ⟨zs, v3, v4, rfl, h2, hzl, hzt, hzo, sm2⟩
    rw [List.length_reverse, elen] at hzl
    (try ctx_has vcx true_and h2)
    intro lr hlr
    have s3 : Same H2 (upd H2 lr (.lst (zs.map fun x => V.ref x.1).reverse)) := Same.upd0 hlr
    refine k lr zs.reverse _ (sm2.trans s3) (by rw [upd_same, List.map_reverse]) (by simp [hzl]) (fun x hx => s3 _ _ (hzt x (List.mem_reverse.mp hx))) fun i z hz => ?_
    have hil : i < zs.length := by have := (List.getElem?_eq_some_iff.mp hz).1; simpa using this
    rw [List.getElem?_reverse hil] at hz
    have := hzo _ z hz
    rw [show as.length - (zs.length - 1 - i) = i by omega] at this
    exact this
theorem ok_Sum_may_end_well  (T : Txt K mg) (L : MtdL K (Meth K (clsAt mg "Sum") "may_end_well") "may_end_well" "Sum.may_end_well" s_Sum_may_end_well ["self", "reached", "behind"])  : FnR P w K mg base (Meth K (clsAt mg "Sum") "may_end_well") 1 ["self", "reached", "behind"] (spMew mg) := by
  have nd := sc_Sum_may_end_well.nd
  refine L.ok sc_Sum_may_end_well (fun vs H Q E h => ?_) (fun f cdv A outer s H vs Q E hr h => ?_) <;> obtain ⟨p, b, s, mn, mx, dat, cs, rfl, hO, hb, k⟩ := h
  · rfl
  have hu := hu_of hr
  refine ⟨_, (pss_cons (ps_set (i := 3) nd rfl (by first | exact Or.inl rfl | exact Or.inr rfl) (pe_or (pe_cmp (pc_isN (pe_fldC T.cl_Sum T.no_Sum_low (pvM 0)))) (pe_one (pe_cmpR op_le (pe_fldC T.cl_Sum T.no_Sum_low (pvM 0)) (pe_op op_add (pvM 1) (pe_ix ix_T (pvM 2) pe_int (fun _ _ => rfl))) (nomark _)))))
    (pss_cons (ps_set (i := 4) nd rfl (by first | exact Or.inl rfl | exact Or.inr rfl) (pe_or (pe_cmp (pc_isN (pe_fldC T.cl_Sum T.no_Sum_high (pvM 0)))) (pe_one (pe_cmpR op_le (pe_op op_add (pvM 1) (pe_ix ix_T (pvM 2) pe_int (fun _ _ => rfl))) (pe_fldC T.cl_Sum T.no_Sum_high (pvM 0)) (nomark _)))))
    (pss_one (ps_ret (pe_and (pvM 3) (pe_one (pvM 4))))))), ?_⟩
  obtain ⟨dx, fs, te, h1, h2, l1, l2, l3, l4⟩ := hO
  obtain ⟨ts, lo, hi⟩ := dat
  simp only at l2 l3 k
  cases lo with
  | none =>
    cases hi with
    | none => (try ctx_has vcx true_and h1 l2 l3 hb bV decide_true decide_false Bool.false_eq_true); simpa [mewB] using k
    | some h => (try ctx_has vcx true_and h1 l2 l3 hb bV decide_true decide_false Bool.false_eq_true); simpa [mewB] using k
  | some a =>
    cases hi with
    | none =>
      (try ctx_has vcx true_and h1 l2 l3 hb bV decide_true decide_false Bool.false_eq_true)
      refine ite2 (fun h => ?_) (fun h => ?_)
      · simpa [mewB, h] using k
      · simpa [mewB, h] using k
    | some c =>
      (try ctx_has vcx true_and h1 l2 l3 hb bV decide_true decide_false Bool.false_eq_true)
      refine ite2 (fun h => ?_) (fun h => ?_)
      · simpa [mewB, h] using k
      · simpa [mewB, h] using k
theorem ok_Sum___init__  (T : Txt K mg) (L : MtdL K (Mk K (clsAt mg "Sum")) "__init__" "Sum.__init__" s_Sum___init__ ["self", "wish"]) (FWish___init__ : FnR P w K mg base (ClsM K (clsAt mg "Wish") "__init__") 1 ["self", "wish"] (spWInit mg "Sum")) : FnR P w K mg base (Mk K (clsAt mg "Sum")) 2 ["self", "wish"] (spInit mg) := by
  have nd := sc_Sum___init__.nd
  refine L.ok sc_Sum___init__ (fun vs H Q E h => ?_) (fun f cdv A outer s H vs Q E hr h => ?_) <;> obtain ⟨p, dx, w, dat, cs, rfl, hp, W, k⟩ := h
  · rfl
  have hu := hu_of hr
  refine ⟨_, (pss_cons (ps_expr (pe_clsF FWish___init__ (hr.mono (by first | decide | omega)) rfl T.at_Wish (pa_cons (pvM 0) (pa_cons (pvM 1) pa_nil))))
    (pss_cons (ps_fldC T.cl_Sum T.no_Sum_terms (pvM 0) (pe_ix ix_T (pvM 1) pe_int (fun _ _ => rfl)) rfl)
    (pss_cons (ps_fldC T.cl_Sum T.no_Sum_low (pvM 0) (pe_ix ix_T (pvM 1) pe_int (fun _ _ => rfl)) rfl)
    (pss_one (ps_fldC T.cl_Sum T.no_Sum_high (pvM 0) (pe_ix ix_T (pvM 1) pe_int (fun _ _ => rfl)) rfl))))), ?_⟩
  obtain ⟨ts, lo, hi⟩ := dat
  obtain ⟨t, hw, h2⟩ := W
  (try ctx_has vcx true_and hw)
  have pw : w ≠ p := ne_of hw hp (by intro z; cases z)
  have pt : ∀ b xs, H b = some (.tup xs) → b ≠ p := fun b xs e => ne_of e hp (by intro z; cases z)
  refine ⟨p, dx, [], .ref w, rfl, hp, by decide, ?_⟩
  (try ctx_has vcx true_and upd_same)
  refine ⟨_, by rw [upd_ne pw]; exact hw, ?_⟩
  (try ctx_has vcx true_and)
  refine ⟨lt1000 (len1 _ "" "" "" _ .non .non .non), _, by rw [upd_ne pw, upd_ne pw]; exact hw, ?_⟩
  (try ctx_has vcx true_and)
  refine ⟨lt1000 (len2 _ _ "" "" _ _ .non .non), _, by rw [upd_ne pw, upd_ne pw, upd_ne pw]; exact hw, ?_⟩
  (try ctx_has vcx true_and)
  refine ⟨lt1000 (len3 _ _ _ "" _ _ _ .non), k _ ⟨dx, _, t, upd_same, h2.keep fun a xs e => by rw [upd_ne (pt a xs e), upd_ne (pt a xs e), upd_ne (pt a xs e), upd_ne (pt a xs e)]; exact e, ?_⟩ ?_⟩
  · simp only [lookup_putF, ofS_inj, String.reduceEq, if_true, if_false, true_and, List.lookup_nil, and_self]
  · intro b o hb e
    rw [upd_ne hb, upd_ne hb, upd_ne hb, upd_ne hb]
    exact e
theorem ok_Sum_sums_with  (T : Txt K mg) (L : MtdL K (Meth K (clsAt mg "Sum") "sums_with") "sums_with" "Sum.sums_with" s_Sum_sums_with ["self", "reached", "parts", "behind"]) (FSum_may_end_well : FnR P w K mg base (Meth K (clsAt mg "Sum") "may_end_well") 1 ["self", "reached", "behind"] (spMew mg)) : FnR P w K mg base (Meth K (clsAt mg "Sum") "sums_with") 2 ["self", "reached", "parts", "behind"] (spWith mg) := by
  have nd := sc_Sum_sums_with.nd
  refine L.ok sc_Sum_sums_with (fun vs H Q E h => ?_) (fun f cdv A outer s H vs Q E hr h => ?_) <;> obtain ⟨p, r, l, b, kvs, ps, mn, mx, dat, cs, rfl, hO, hrd, hik, hl, hb, hsz, k⟩ := h
  · rfl
  have hu := hu_of hr
  refine ⟨_, (pss_cons (ps_set (i := 4) nd rfl (by first | exact Or.inl rfl | exact Or.inr rfl) pe_dnewK)
    (pss_cons (ps_for PassesOwn.never rfl (pi_LK (K := K) rfl (pvM 2)) (pg_name (i := 5) nd rfl (by first | exact Or.inl rfl | exact Or.inr rfl)) (pss_one (ps_thaw (ps_for PassesOwn.never rfl (pi_D (pvM 1)) (pg_name (i := 6) nd rfl (by first | exact Or.inl rfl | exact Or.inr rfl)) (pss_one (ps_if (pt_val (pe_methF T.cl_Sum FSum_may_end_well (hr.mono (by first | decide | omega)) (pvM 0) (pa_cons (pe_op op_add (pvM 6) (pvM 5)) (pa_cons (pvM 3) pa_nil)))) (pss_one (ps_dp hu (pvM 4) (pe_op op_add (pvM 6) (pvM 5)) pe_bl rfl)) pss_nil))))))
    (pss_one (ps_ret (pvM 4))))), ?_⟩
  (try ctx_has vcx true_and)
  intro q hq
  have s0 : Same H (upd H q (.dK [])) := Same.upd0 hq
  have rq : r ≠ q := ne_of_none hrd hq
  refine ⟨_, s0 _ _ hl, ?_⟩
  have hmul : ∀ j, j ≤ ps.length → kvs.length * j ≤ 100000 := fun j hj => Nat.le_trans (Nat.mul_le_mul_left _ hj) hsz
  refine for_g wlk_list (fun i σ H' => ∃ (kv : List (Key × V)) (v5 v6 : Option V), σ = [some (.ref p), some (.ref r), some (.ref l), some (.ref b), some (.ref q), v5, v6] ∧ H' q = some (.dK kv) ∧ IntK kv ∧ kv.length ≤ kvs.length * i ∧ (∀ s, hasK kv s ↔ ∃ e, hasK kvs e ∧ ∃ x ∈ ps.take i, s = e + x ∧ mewB s mn mx dat.2.1 dat.2.2 = true) ∧ (∀ b o, b ≠ q → H b = some o → H' b = some o))
    ⟨[], _, _, rfl, upd_same, fun x hx => by simp at hx, by simp, fun s => ⟨fun h => (by unfold hasK at h; rw [valV_nil] at h; exact absurd h (by simp)), fun zq32 => by obtain ⟨e, _, x, hx, _⟩ := zq32; exact ((by simp at hx))⟩, fun b o hb e => by rw [upd_ne hb]; exact e⟩ (fun i σ H' zq33 => by obtain ⟨_, _, _, _, _, _, _, _, kk⟩ := zq33; exact (.of (kk _ _ (ne_of_none hl hq) hl))) ?_ ?_
  · rintro i x σ H2 hi hx ⟨kv, v5, v6, rfl, h2, hk2, hkl, hiff, k2⟩
    rw [List.length_map] at hi
    obtain ⟨y, hy, rfl⟩ : ∃ y, ps[i]? = some y ∧ V.int y = x := by
      rw [List.getElem?_map] at hx
      cases e : ps[i]? with
      | none => rw [e] at hx; cases hx
      | some nm => rw [e] at hx; exact ⟨nm, rfl, Option.some.inj hx⟩
    have etk : ps.take (i + 1) = ps.take i ++ [y] := by rw [List.take_add_one, hy]; rfl
    have h2r := k2 r _ rq hrd
    have hm1 : kvs.length * i + kvs.length ≤ 100000 := by rw [← Nat.mul_succ]; exact hmul (i + 1) hi
    have hm0 := hmul i (by omega)
    refine ⟨r, kvs, h2r, ?_⟩
    (try ctx_has vcx true_and h2r)
    intro ob
    have hrf0 : upd H2 r (.frz ob (.dK kvs)) r = some (.frz ob (.dK kvs)) := upd_same
    refine for_g wlk_dk (fun j σ H' => ∃ (kv : List (Key × V)) (v6 : Option V), σ = [some (.ref p), some (.ref r), some (.ref l), some (.ref b), some (.ref q), some (.int y), v6] ∧ H' q = some (.dK kv) ∧ IntK kv ∧ kv.length ≤ kvs.length * i + j ∧ (∀ s, hasK kv s ↔ (∃ e, hasK kvs e ∧ ∃ x ∈ ps.take i, s = e + x ∧ mewB s mn mx dat.2.1 dat.2.2 = true) ∨ ∃ e, (∃ v, (Sum.inl e, v) ∈ kvs.take j) ∧ s = e + y ∧ mewB s mn mx dat.2.1 dat.2.2 = true) ∧ H' r = some (.frz ob (.dK kvs)) ∧ (∀ b o, b ≠ q → b ≠ r → H b = some o → H' b = some o))
      ⟨kv, _, rfl, by rw [upd_ne rq.symm]; exact h2, hk2, by omega, fun s => ⟨fun h => .inl ((hiff s).mp h), fun h => (hiff s).mpr (h.resolve_right fun zq34 => by obtain ⟨e, ⟨v, hv⟩, _⟩ := zq34; exact (by simp at hv))⟩, hrf0, fun b o hb hbr e => by rw [upd_ne hbr]; exact k2 b o hb e⟩ (fun j σ H' zq35 => by obtain ⟨_, _, _, _, _, _, _, h, _⟩ := zq35; exact (h)) ?_ ?_
    · rintro j z σ H3 hj hz ⟨kv, v6, rfl, h3, hk3, hkl3, hiff3, h3r, k3⟩
      rw [List.length_map] at hj
      obtain ⟨kx, hkx, rfl⟩ : ∃ kx, kvs[j]? = some kx ∧ kV kx.1 = z := by
        rw [List.getElem?_map] at hz
        cases e : kvs[j]? with
        | none => rw [e] at hz; cases hz
        | some nm => rw [e] at hz; exact ⟨nm, rfl, Option.some.inj hz⟩
      obtain ⟨e0, he0⟩ := hik kx (List.mem_of_getElem? hkx)
      have ekx : kx = (Sum.inl e0, kx.2) := by rw [← he0]
      have etj : kvs.take (j + 1) = kvs.take j ++ [kx] := by rw [List.take_add_one, hkx]; rfl
      have ezv : kV kx.1 = V.int e0 := by rw [he0]; rfl
      rw [ezv]
      obtain ⟨dx, fs, te, g1, g2, g3⟩ := hO
      have pq : p ≠ q := ne_of_none g1 hq
      have pr : p ≠ r := ne_of g1 hrd (by intro z; cases z)
      have h3p := k3 p _ pq pr g1
      have h3b := k3 b _ (ne_of_none hb hq) (ne_of hb hrd (by intro z; cases z)) hb
      have kt3 : KeepTI H H3 := ⟨fun a vs e => k3 a _ (ne_of_none e hq) (ne_of e hrd (by intro z; cases z)) e, fun a C dx fs e => k3 a _ (ne_of_none e hq) (ne_of e hrd (by intro z; cases z)) e⟩
      have hO3 : OB mg H3 p dat cs := OB_keep ⟨dx, fs, te, g1, g2, g3⟩ kt3
      (try ctx_has vcx true_and h3p)
      refine ⟨g3.2.2.2.2.2.1, p, b, e0 + y, mn, mx, dat, cs, rfl, hO3, h3b, ?_⟩
      refine ⟨_, rfl, ite2 (fun hm => ?_) (fun hm => ?_)⟩
      · (try ctx_has vcx true_and h3)
        have qr : q ≠ r := rq.symm
        refine ⟨Nat.lt_of_le_of_lt (show kv.length ≤ 200000 by omega) (by decide), _, upd_same, hk3.put, Nat.le_trans (length_putK _ _ _) (by omega), fun s => ?_, by rw [upd_ne rq]; exact h3r, fun b o hb' hbr e => by rw [upd_ne hb']; exact k3 b o hb' hbr e⟩
        rw [hasK_put, hiff3, etj]
        constructor
        · rintro (rfl | h | ⟨e, ⟨v, hv⟩, r2⟩)
          · exact .inr ⟨e0, ⟨kx.2, by rw [← ekx]; simp⟩, rfl, hm⟩
          · exact .inl h
          · exact .inr ⟨e, ⟨v, List.mem_append_left _ hv⟩, r2⟩
        · rintro (h | ⟨e, ⟨v, hv⟩, r2⟩)
          · exact .inr (.inl h)
          · rcases List.mem_append.mp hv with w | w
            · exact .inr (.inr ⟨e, ⟨v, w⟩, r2⟩)
            · rw [List.mem_singleton, ekx] at w
              have : e = e0 := Sum.inl.inj (congrArg Prod.fst w)
              subst this
              exact .inl r2.1
      · refine ⟨_, h3, hk3, by omega, fun s => ?_, h3r, k3⟩
        rw [hiff3, etj]
        constructor
        · rintro (h | ⟨e, ⟨v, hv⟩, r2⟩)
          · exact .inl h
          · exact .inr ⟨e, ⟨v, List.mem_append_left _ hv⟩, r2⟩
        · rintro (h | ⟨e, ⟨v, hv⟩, r2⟩)
          · exact .inl h
          · rcases List.mem_append.mp hv with w | w
            · exact .inr ⟨e, ⟨v, w⟩, r2⟩
            · rw [List.mem_singleton, ekx] at w
              have : e = e0 := Sum.inl.inj (congrArg Prod.fst w)
              subst this
              exact absurd (r2.1 ▸ r2.2) hm
    · rintro σ H3 ⟨kv, v6, rfl, h3, hk3, hkl3, hiff3, h3r, k3⟩
      rw [List.length_map] at hkl3 hiff3
      rw [List.take_length] at hiff3
      refine ⟨⟨ob, h3r⟩, kv, _, _, rfl, by rw [upd_ne rq.symm]; exact h3, hk3, by rw [Nat.mul_succ]; exact hkl3, fun s => ?_, fun b o hb e => ?_⟩
      · rw [hiff3, etk]
        constructor
        · rintro (⟨e, he, x, hx, r2⟩ | ⟨e, hv, r2⟩)
          · exact ⟨e, he, x, List.mem_append_left _ hx, r2⟩
          · exact ⟨e, hasK_mem hv, y, by simp, r2⟩
        · rintro ⟨e, he, x, hx, r2⟩
          rcases List.mem_append.mp hx with w | w
          · exact .inl ⟨e, he, x, w, r2⟩
          · rw [List.mem_singleton.mp w] at r2
            exact .inr ⟨e, mem_hasK he, r2⟩
      · by_cases hbr : b = r
        · subst hbr; rw [hrd] at e; rw [upd_same]; exact e
        · rw [upd_ne hbr]; exact k3 b o hb hbr e
  · rintro σ H2 ⟨kv, v5, v6, rfl, h2, hk2, hkl, hiff, k2⟩
    rw [List.length_map] at hkl hiff
    rw [List.take_length] at hiff
    (try ctx_has vcx true_and)
    exact k q kv H2 (fun b o e => k2 b o (ne_of_none e hq) e) h2 hk2 hkl hiff
theorem Same.upd_but {d l : Addr} {H H' : Hp} (s : Same H H') : But d l H H' := fun b o _ _ e => s b o e
theorem sumT_append (as bs : List (Int × Str)) (g : Str → Int) : sumT (as ++ bs) g = sumT as g + sumT bs g := by simp [sumT]
theorem sumT_split (ts : List (Int × Str)) (i : Nat) (g : Str → Int) : sumT ts g = sumT (ts.take i) g + sumT (ts.drop i) g := by rw [← sumT_append, List.take_append_drop]
theorem mew_of {rm : Str → List Int} {ts : List (Int × Str)} {i : Nat} {g : Str → Int} {mn mx : Int} {lo hi : Option Int} (h : SpanOk rm (ts.drop i) mn mx) (hg : okF rm (ts.map (·.2)) g) (hk : btwB (sumT ts g) lo hi = true) : mewB (sumT (ts.take i) g) mn mx lo hi = true := by
  have h1 := h.bd g fun c hc => hg c (by rw [List.map_drop] at hc; exact List.mem_of_mem_drop hc)
  have h2 := sumT_split ts i g
  cases lo <;> cases hi <;> simp [btwB, mewB] at hk ⊢
  · omega
  · omega
  · omega
theorem mew_end {s mn mx : Int} {rm : Str → List Int} {ts : List (Int × Str)} {lo hi : Option Int} (h : SpanOk rm [] mn mx) : mewB s mn mx lo hi = btwB s lo hi := by
  obtain ⟨rfl, rfl⟩ := h.zero
  cases lo <;> cases hi <;> simp [btwB, mewB]
theorem span_break {rm : Str → List Int} {ts : List (Int × Str)} {a b : Int} {lo hi : Option Int} (h : SpanOk rm ts a b) : (!btwB a lo hi || !btwB b lo hi) = true ↔ ∃ g, okF rm (ts.map (·.2)) g ∧ btwB (sumT ts g) lo hi = false := by
  constructor
  · intro hb
    rw [Bool.or_eq_true, Bool.not_eq_true', Bool.not_eq_true'] at hb
    rcases hb with hb | hb
    · obtain ⟨g, g1, g2⟩ := h.lo'
      exact ⟨g, g1, by rw [g2]; exact hb⟩
    · obtain ⟨g, g1, g2⟩ := h.hi'
      exact ⟨g, g1, by rw [g2]; exact hb⟩
  · rintro ⟨g, g1, g2⟩
    have := h.bd g g1
    refine Classical.byContradiction fun hno => ?_
    have hno : btwB a lo hi = true ∧ btwB b lo hi = true := by
      cases e1 : btwB a lo hi <;> cases e2 : btwB b lo hi <;> simp [e1, e2] at hno ⊢
    obtain ⟨h1, h2⟩ := hno
    rw [Bool.eq_false_iff] at g2
    refine g2 ?_
    cases lo <;> cases hi <;> simp [btwB] at h1 h2 ⊢
    · omega
    · omega
    · omega
noncomputable def spSKept (mg : Str → Option Value) : Sp := fun vs H Q _ => ∃ (p r : Addr) (dat : Dat) (cs : List Str) (kvs : List (Key × V)) (rm : Str → List Int), vs = [.ref p, .ref r] ∧ AskIn mg H p r dat cs kvs rm ∧ ∀ (q : Addr) (kv : List (Key × V)) H', H' q = some (.dK kv) → (0 < kv.length ↔ ∃ g, okF rm cs g ∧ keptG dat cs g = true) → Same H H' → Q (.ref q) H'
theorem pow4' {i : Nat} (h : i ≤ 6) : 4 ^ i ≤ 4096 := Nat.le_trans (Nat.pow_le_pow_right (by decide) h) (by decide)
theorem some_okF {rm : Str → List Int} {cs : List Str} (h : ∀ c ∈ cs, 1 ≤ (rm c).length) : ∃ g, okF rm cs g := by
  refine ⟨fun c => (rm c).headD 0, fun c hc => ?_⟩
  show (rm c).headD 0 ∈ rm c
  have := h c hc
  cases e : rm c with
  | nil => rw [e] at this; simp at this
  | cons a b => simp
theorem okF_at {rm : Str → List Int} {cs : List Str} {g : Str → Int} {c : Str} {v : Int} (h : okF rm cs g) (hv : v ∈ rm c) : okF rm cs (setF g c v) := fun x hx => by
  by_cases e : x = c
  · subst e; rw [setF_same]; exact hv
  · rw [setF_ne _ _ e]; exact h x hx
theorem ok_Sum_sums_kept  (T : Txt K mg) (L : MtdL K (Meth K (clsAt mg "Sum") "sums_kept") "sums_kept" "Sum.sums_kept" s_Sum_sums_kept ["self", "rooms"]) (Fspans_of : Fn P w K mg base "spans_of" 2 ["terms", "rooms"] (spSpans)) (Fparts_of : Fn P w K mg base "parts_of" 1 ["term", "rooms"] (spParts)) (FSum_sums_with : FnR P w K mg base (Meth K (clsAt mg "Sum") "sums_with") 2 ["self", "reached", "parts", "behind"] (spWith mg)) : FnR P w K mg base (Meth K (clsAt mg "Sum") "sums_kept") 4 ["self", "rooms"] (spSKept mg) := by
  have nd := sc_Sum_sums_kept.nd
  refine L.ok sc_Sum_sums_kept (fun vs H Q E h => ?_) (fun f cdv A outer s H vs Q E hr h => ?_) <;> obtain ⟨p, r, dat, cs, kvs, rm, rfl, M, k⟩ := h
  · rfl
  have hu := hu_of hr
  refine ⟨_, (pss_cons (ps_set (i := 2) nd rfl (by first | exact Or.inl rfl | exact Or.inr rfl) (pe_callF Fspans_of (hr.mono (by first | decide | omega)) rfl (pa_cons (pe_fldC T.cl_Sum T.no_Sum_terms (pvM 0)) (pa_cons (pvM 1) pa_nil))))
    (pss_cons (ps_set (i := 3) nd rfl (by first | exact Or.inl rfl | exact Or.inr rfl) (pe_disp (pps_cons pe_int pe_bl pps_nil) rfl rfl (by nofun) (by decide)))
    (pss_cons (ps_for PassesOwn.never rfl (pi_enumT (K := K) rfl rfl T.b_enumerate (pa_cons (pe_fldC T.cl_Sum T.no_Sum_terms (pvM 0)) pa_nil)) (pg_tupT (n := 2) rfl (pgs_cons (pg_name (i := 4) nd rfl (by first | exact Or.inl rfl | exact Or.inr rfl)) (pgs_cons (pg_name (i := 5) nd rfl (by first | exact Or.inl rfl | exact Or.inr rfl)) pgs_nil))) (pss_one (ps_set (i := 3) nd rfl (by first | exact Or.inl rfl | exact Or.inr rfl) (pe_methF T.cl_Sum FSum_sums_with (hr.mono (by first | decide | omega)) (pvM 0) (pa_cons (pvM 3) (pa_cons (pe_callF Fparts_of (hr.mono (by first | decide | omega)) rfl (pa_cons (pvM 5) (pa_cons (pvM 1) pa_nil))) (pa_cons (pe_ix ix_L (pvM 2) (pe_op op_add (pvM 4) pe_int) (fun _ _ => rfl)) pa_nil)))))))
    (pss_one (ps_ret (pvM 3)))))), ?_⟩
  obtain ⟨dx, fs, te, h1, h2, l1, l2, l3, l4, l5, l6, l7, l8⟩ := M.ob
  obtain ⟨ts, lo, hi⟩ := dat
  have hok := M.ok
  have hnd := M.nd
  have hrd := M.rd
  simp only [okD] at hok h2 l2 l3
  obtain ⟨hcs, hcne, hco⟩ := hok
  subst hcs
  have hcl := M.cl
  rw [List.length_map] at hcl
  obtain ⟨as, hat, rfl, has⟩ := id h2
  (try ctx_has vcx true_and h1 l1)
  refine ⟨te, r, _, kvs, rm, rfl, h2, hrd, M.rf, hnd, by omega, hco, fun c hc => (by have := M.gd c hc; exact ⟨fun e => by rw [e] at this; simp at this, by omega⟩), fun sl zs H1 s1 e1 hzl hzt hzo => ?_⟩
  (try ctx_has vcx true_and)
  intro q hq
  refine ⟨upd_same, [(Sum.inl 0, .bl true)], rfl, by decide, ?_⟩
  have em : mergeK ([] : List (Key × V)) [(Sum.inl 0, .bl true)] = [(Sum.inl 0, .bl true)] := putK_new _ valV_nil
  rw [em]
  have s2 : Same H1 (upd (upd H1 q (.dK [])) q (.dK [(Sum.inl 0, .bl true)])) := fun b o e => by rw [upd_ne (ne_of_none e hq), upd_ne (ne_of_none e hq)]; exact e
  have h2q : upd (upd H1 q (.dK [])) q (.dK [(Sum.inl 0, .bl true)]) q = some (.dK [(Sum.inl 0, .bl true)]) := upd_same
  generalize upd (upd H1 q (.dK [])) q (.dK [(Sum.inl 0, .bl true)]) = H2 at s2 h2q ⊢
  have s02 := s1.trans s2
  have g1 := s02 _ _ h1
  have g2 := s02 _ _ hat
  (try ctx_has vcx true_and g1 l1 g2)
  have h4 := fun i (hi : i ≤ 6) => pow4' hi
  have hkmem : ∀ g, keptG (as.map (·.2), lo, hi) (((as.map (·.2))).map (·.2)) g = btwB (sumT (as.map (·.2)) g) lo hi := fun g => rfl
  simp only [hkmem] at k
  have hlen : as.length ≤ 6 := by simpa using hcl
  refine for_eg (xs := as.map fun x => V.ref x.1) (fun i σ H' => ∃ (q : Addr) (kv : List (Key × V)) (v4 v5 : Option V), σ = [some (.ref p), some (.ref r), some (.ref sl), some (.ref q), v4, v5] ∧ H' q = some (.dK kv) ∧ IntK kv ∧ kv.length ≤ 4 ^ i ∧ (∀ s, hasK kv s → ∃ g, okF rm ((as.map (·.2)).map (·.2)) g ∧ sumT ((as.map (·.2)).take i) g = s ∧ (0 < i → ∃ mn mx, SpanOk rm ((as.map (·.2)).drop i) mn mx ∧ mewB s mn mx lo hi = true)) ∧ (∀ g, okF rm ((as.map (·.2)).map (·.2)) g → btwB (sumT (as.map (·.2)) g) lo hi = true → hasK kv (sumT ((as.map (·.2)).take i) g)) ∧ Same H H' ∧ Same H1 H')
    ⟨q, _, _, _, rfl, h2q, fun x hx => ⟨0, by rw [List.mem_singleton.mp hx]⟩, by simp, fun s hs => ?_, fun g _ _ => ?_, s02, s2⟩ (fun i σ H' zq36 => by obtain ⟨_, _, _, _, _, _, _, _, _, _, sm, _⟩ := zq36; exact (.of (sm _ _ hat))) ?_ ?_
  · obtain ⟨v, hv⟩ := mem_hasK hs
    have e0 : s = 0 := Sum.inl.inj (congrArg Prod.fst (List.mem_singleton.mp hv))
    obtain ⟨g, hg⟩ := some_okF (rm := rm) (cs := (as.map (·.2)).map (·.2)) fun c hc => (M.gd c hc).1
    exact ⟨g, hg, by rw [e0]; rfl, fun h => absurd h (by omega)⟩
  · exact hasK_mem ⟨.bl true, List.mem_singleton.mpr rfl⟩
  · rintro i x σ H3 t hx ⟨q, kv, v4, v5, rfl, h3, hik, hkl, hso, hcm, s3, s13⟩ ht
    obtain ⟨y, hy, rfl⟩ : ∃ y, as[i]? = some y ∧ V.ref y.1 = x := by
      rw [List.getElem?_map] at hx
      cases e : as[i]? with
      | none => rw [e] at hx; cases hx
      | some nm => rw [e] at hx; exact ⟨nm, rfl, Option.some.inj hx⟩
    have hil : i < as.length := (List.getElem?_eq_some_iff.mp hy).1
    have hym : y ∈ as := List.mem_of_getElem? hy
    have hcmem : y.2.2 ∈ (as.map (·.2)).map (·.2) := List.mem_map.mpr ⟨y.2, List.mem_map.mpr ⟨y, hym, rfl⟩, rfl⟩
    obtain ⟨ad, hv, had⟩ := M.rf _ hcmem
    have st : Same H3 (upd H3 t (.tup [.int (i : Nat), .ref y.1])) := Same.upd0 ht
    have s3t := s3.trans st
    have f1 := s3t _ _ h1
    have ett : upd H3 t (.tup [.int (i : Nat), .ref y.1]) t = some (.tup [.int (i : Nat), .ref y.1]) := upd_same
    (try ctx_has vcx true_and ett f1)
    refine ⟨l7, y.1, r, ad, y.2.1, y.2.2, kvs, rm y.2.2, rfl, s3t _ _ (has y hym), s3t _ _ hrd, hv, s3t _ _ had, hco y.2 (List.mem_map.mpr ⟨y, hym, rfl⟩), by have := (M.gd _ hcmem).2.1; omega, fun pl H4 s4 fpl h4' => ?_⟩
    have s1t := s13.trans st
    have hsl := (s1t.trans s4) _ _ e1
    obtain ⟨zn, hzn⟩ : ∃ zn, zs[i + 1]? = some zn := ⟨zs[i + 1]'(by rw [hzl]; simp; omega), by simp⟩
    have hznm : zn ∈ zs := List.mem_of_getElem? hzn
    have hzat : atI (zs.map fun x => V.ref x.1) ((i : Int) + 1) = some (V.ref zn.1) := atI_nat (j := i + 1) (by rw [List.getElem?_map, hzn]; rfl)
    (try ctx_has vcx true_and hsl hzat)
    have hspan := hzo (i + 1) zn hzn
    have hrl := (M.gd _ hcmem).2.1
    have hpw := h4 (i + 1) (by omega)
    have hb : kv.length * ((rm y.2.2).map (y.2.1 * ·)).length ≤ 4 ^ (i + 1) := by
      rw [List.length_map, Nat.pow_succ]; exact Nat.mul_le_mul hkl hrl
    have s34 := s3t.trans s4
    refine ⟨p, q, pl, zn.1, kv, _, zn.2.1, zn.2.2, (as.map (·.2), lo, hi), (as.map (·.2)).map (·.2), rfl, OB_keep M.ob (Same.keepTI s34), (st.trans s4) _ _ h3, hik, h4', (s1t.trans s4) _ _ (hzt zn hznm), by omega, fun q5 kv5 H5 s5 h5 hik5 hkl5 hiff5 => ?_⟩
    have etk : (as.map (·.2)).take (i + 1) = (as.map (·.2)).take i ++ [y.2] := by rw [List.take_add_one, List.getElem?_map, hy]; rfl
    have hcn : y.2.2 ∉ ((as.map (·.2)).take i).map (·.2) := fun hm => by
      have hd2 : (((as.map (·.2)).take (i + 1)).map (·.2)).Nodup := hnd.sublist ((List.take_sublist _ _).map _)
      rw [etk, List.map_append, List.nodup_append] at hd2
      exact hd2.2.2 _ hm _ (by simp) rfl
    refine ⟨q5, rfl, kv5, h5, hik5, by omega, fun s hs => ?_, fun g hg hk => ?_, s34.trans s5, (s1t.trans s4).trans s5⟩
    · obtain ⟨e, he, x, hx, rfl, hmw⟩ := (hiff5 s).mp hs
      obtain ⟨g, g1', g2', _⟩ := hso e he
      obtain ⟨v, hv', rfl⟩ := List.mem_map.mp hx
      refine ⟨setF g y.2.2 v, okF_at g1' hv', ?_, fun _ => ⟨_, _, hspan, hmw⟩⟩
      rw [etk, sumT_append, sumT_setF hcn, g2']
      simp [sumT, setF_same]
    · rw [hiff5]
      refine ⟨_, hcm g hg hk, y.2.1 * g y.2.2, List.mem_map.mpr ⟨g y.2.2, hg _ hcmem, rfl⟩, ?_, mew_of hspan hg hk⟩
      rw [etk, sumT_append]
      simp [sumT]
  · rintro σ H3 ⟨q, kv, v4, v5, rfl, h3, hik, hkl, hso, hcm, s3, s13⟩
    rw [List.length_map] at hso hcm
    have ett : (as.map (·.2)).take as.length = as.map (·.2) := List.take_of_length_le (by simp)
    have edd : (as.map (·.2)).drop as.length = [] := List.drop_of_length_le (by simp)
    rw [ett] at hcm
    simp only [ett, edd] at hso
    (try ctx_has vcx true_and h3)
    refine k _ kv H3 h3 ?_ s3
    have hapos : 0 < as.length := by
      rcases as with _ | ⟨y, as⟩
      · exact absurd rfl hcne
      · simp
    constructor
    · intro hpos
      rcases kv with _ | ⟨y, kv⟩
      · simp at hpos
      obtain ⟨e0, he0⟩ := hik y (by simp)
      obtain ⟨g, g1', g2', g3'⟩ := hso e0 (hasK_mem ⟨y.2, by rw [← he0]; simp⟩)
      obtain ⟨mn, mx, hsp, hmw⟩ := g3' hapos
      rw [mew_end (ts := []) hsp] at hmw
      exact ⟨g, g1', by rw [g2']; exact hmw⟩
    · rintro ⟨g, g1', g2'⟩
      obtain ⟨v, hv⟩ := mem_hasK (hcm g g1' g2')
      have := List.length_pos_of_mem hv
      omega
theorem ok_Sum_may_keep  (T : Txt K mg) (L : MtdL K (Meth K (clsAt mg "Sum") "may_keep") "may_keep" "Sum.may_keep" s_Sum_may_keep ["self", "rooms"]) (FSum_sums_kept : FnR P w K mg base (Meth K (clsAt mg "Sum") "sums_kept") 4 ["self", "rooms"] (spSKept mg)) : FnR P w K mg base (Meth K (clsAt mg "Sum") "may_keep") 5 ["self", "rooms"] (spMayKeep mg) := by
  have nd := sc_Sum_may_keep.nd
  refine L.ok sc_Sum_may_keep (fun vs H Q E h => ?_) (fun f cdv A outer s H vs Q E hr h => ?_) <;> obtain ⟨p, r, dat, cs, kvs, rm, rfl, M, k⟩ := h
  · rfl
  have hu := hu_of hr
  refine ⟨_, (pss_one (ps_ret (pe_cmpR op_gt (pe_callB call_lenD rfl T.b_len PySem.boot_len (pa_cons (pe_methF T.cl_Sum FSum_sums_kept (hr.mono (by first | decide | omega)) (pvM 0) (pa_cons (pvM 1) pa_nil)) pa_nil)) pe_int (nomark _)))), ?_⟩
  obtain ⟨dx, fs, te, h1, h2, l1, l2, l3, l4, l5, l6, l7, l8⟩ := id M.ob
  (try ctx_has vcx true_and h1)
  refine ⟨l8, p, r, dat, cs, kvs, rm, rfl, M, fun q kv H3 h3 hiff s3 => ?_⟩
  (try ctx_has vcx true_and h3)
  refine k _ H3 ?_ s3
  rw [decide_eq_true_eq, ← hiff]
  omega
theorem ok_Sum_may_break  (T : Txt K mg) (L : MtdL K (Meth K (clsAt mg "Sum") "may_break") "may_break" "Sum.may_break" s_Sum_may_break ["self", "rooms"]) (Fspans_of : Fn P w K mg base "spans_of" 2 ["terms", "rooms"] (spSpans)) (Fis_between : Fn P w K mg base "is_between" 1 ["number", "low", "high"] (spBtw)) : FnR P w K mg base (Meth K (clsAt mg "Sum") "may_break") 4 ["self", "rooms"] (spMayBreak mg) := by
  have nd := sc_Sum_may_break.nd
  refine L.ok sc_Sum_may_break (fun vs H Q E h => ?_) (fun f cdv A outer s H vs Q E hr h => ?_) <;> obtain ⟨p, r, dat, cs, kvs, rm, rfl, M, k⟩ := h
  · rfl
  have hu := hu_of hr
  refine ⟨_, (pss_cons (ps_set (i := 2) nd rfl (by first | exact Or.inl rfl | exact Or.inr rfl) (pe_ix ix_L (pe_callF Fspans_of (hr.mono (by first | decide | omega)) rfl (pa_cons (pe_fldC T.cl_Sum T.no_Sum_terms (pvM 0)) (pa_cons (pvM 1) pa_nil))) pe_int (fun _ _ => rfl)))
    (pss_one (ps_ret (pe_or (pe_not (pe_callF Fis_between (hr.mono (by first | decide | omega)) rfl (pa_cons (pe_ix ix_T (pvM 2) pe_int (fun _ _ => rfl)) (pa_cons (pe_fldC T.cl_Sum T.no_Sum_low (pvM 0)) (pa_cons (pe_fldC T.cl_Sum T.no_Sum_high (pvM 0)) pa_nil))))) (pe_one (pe_not (pe_callF Fis_between (hr.mono (by first | decide | omega)) rfl (pa_cons (pe_ix ix_T (pvM 2) pe_int (fun _ _ => rfl)) (pa_cons (pe_fldC T.cl_Sum T.no_Sum_low (pvM 0)) (pa_cons (pe_fldC T.cl_Sum T.no_Sum_high (pvM 0)) pa_nil)))))))))), ?_⟩
  obtain ⟨dx, fs, te, h1, h2, l1, l2, l3, l4, l5, l6, l7, l8⟩ := M.ob
  obtain ⟨ts, lo, hi⟩ := dat
  have hok := M.ok
  have hnd := M.nd
  have hrd := M.rd
  simp only [okD] at hok h2 l2 l3
  obtain ⟨hcs, hcne, hco⟩ := hok
  subst hcs
  have hcl := M.cl
  rw [List.length_map] at hcl
  (try ctx_has vcx true_and h1 l1)
  refine ⟨te, r, ts, kvs, rm, rfl, h2, hrd, M.rf, hnd, by omega, hco, fun c hc => (by have := M.gd c hc; exact ⟨fun e => by rw [e] at this; simp at this, by omega⟩), fun sl zs H1 s1 e1 hzl hzt hzo => ?_⟩
  obtain ⟨z0, hz0⟩ : ∃ z0, zs[0]? = some z0 := ⟨zs[0]'(by omega), by simp⟩
  have hz0m : z0 ∈ zs := List.mem_of_getElem? hz0
  have hat : atI (zs.map fun x => V.ref x.1) 0 = some (V.ref z0.1) := atI_nat (j := 0) (by rw [List.getElem?_map, hz0]; rfl)
  have hsp := hzo 0 z0 hz0
  rw [List.drop_zero] at hsp
  have hzz := hzt z0 hz0m
  have g1 := s1 _ _ h1
  (try ctx_has vcx true_and e1 hat hzz g1 l2 l3)
  refine ⟨z0.2.1, lo, hi, rfl, fun H2 s2 => ?_⟩
  have g2 := (s1.trans s2) _ _ h1
  have hzz2 := s2 _ _ hzz
  have key := span_break (lo := lo) (hi := hi) hsp
  cases eb : btwB z0.2.1 lo hi with
  | false =>
    (try ctx_has vcx true_and Bool.not_false)
    refine k true H2 ?_ (s1.trans s2)
    refine Iff.trans ?_ key
    rw [eb]; simp
  | true =>
    (try ctx_has vcx true_and Bool.not_true Bool.false_eq_true hzz2 g2 l2 l3)
    refine ⟨z0.2.2, lo, hi, rfl, fun H3 s3 => ?_⟩
    refine ⟨_, rfl, k _ H3 ?_ ((s1.trans s2).trans s3)⟩
    refine Iff.trans ?_ key
    rw [eb]; simp
noncomputable def KeysAre (kvs : List (Key × V)) (cs : List Str) : Prop := kvs.map (·.1) = cs.map Sum.inr
noncomputable def fillK (cs : List Str) (g : Str → Int) : List (Key × V) := cs.map fun c => (Sum.inr c, .int (g c))
noncomputable def spFilling : Sp := fun vs H Q _ => ∃ (d l r : Addr) (cs : List Str) (kvs : List (Key × V)) (rm : Str → List Int), vs = [.ref d, .ref r] ∧ DealAt H d l ∧ (r ≠ d ∧ r ≠ l) ∧ H r = some (.dK kvs) ∧ KeysAre kvs cs ∧ cs.Nodup ∧ cs.length ≤ 12 ∧ RoomsFor H kvs cs rm ∧ (∀ c ∈ cs, 1 ≤ (rm c).length ∧ (rm c).length ≤ 10) ∧
  ∀ (q : Addr) (g : Str → Int) (H' : Hp), H q = none → H' q = some (.dK (fillK cs g)) → okF rm cs g → DealAt H' d l → But d l H H' → Q (.ref q) H'
theorem key_none {kvs : List (Key × V)} {c : Key} (h : c ∉ kvs.map (·.1)) : valV kvs c = none := by
  induction kvs with
  | nil => exact valV_nil
  | cons x kvs ih =>
    obtain ⟨x1, x2⟩ := x
    rw [List.map_cons, List.mem_cons, not_or] at h
    rw [valV_neg (fun e => h.1 e.symm)]
    exact ih h.2
theorem fillK_keys (cs : List Str) (g : Str → Int) : (fillK cs g).map (·.1) = cs.map Sum.inr := by unfold fillK; rw [List.map_map]; rfl
theorem keys_not {kvs : List (Key × V)} {cs : List Str} {c : Str} (h : KeysAre kvs cs) (hc : c ∉ cs) : valV kvs (Sum.inr c) = none := key_none (by
  rw [h]
  intro z
  obtain ⟨x, hx, e⟩ := List.mem_map.mp z
  cases e
  exact hc hx)
theorem keys_put {kvs : List (Key × V)} {cs : List Str} {c : Str} {v : V} (h : KeysAre kvs cs) (hc : c ∉ cs) : KeysAre (putK kvs (Sum.inr c) v) (cs ++ [c]) := by
  rw [putK_new _ (keys_not h hc)]
  unfold KeysAre at *
  rw [List.map_append, List.map_append, h]
  rfl
theorem fillK_put {cs : List Str} {g : Str → Int} {c : Str} {v : Int} (hc : c ∉ cs) : putK (fillK cs g) (Sum.inr c) (.int v) = fillK (cs ++ [c]) (setF g c v) := by
  rw [putK_new _ (keys_not (fillK_keys cs g) hc)]
  unfold fillK
  rw [List.map_append]
  congr 1
  · exact List.map_congr_left fun x hx => by rw [setF_ne _ _ (fun e : x = c => hc (by rw [← e]; exact hx))]
  · simp [setF_same]
theorem not_mem_take {cs : List Str} {i : Nat} {c : Str} (hnd : cs.Nodup) (hc : cs[i]? = some c) : c ∉ cs.take i := fun hm => by
  obtain ⟨j, hj, e⟩ := List.getElem_of_mem hm
  have hj' : j < i := by simp at hj; omega
  have e2 : cs[j]? = some c := by rw [← e, List.getElem_take]; simp
  have := nodup_at hnd e2 hc
  omega
theorem ok__law_filling   (T : Txt K mg) (L : FnL K mg "_law_filling" s__law_filling ["_law_deal_here", "_law_rooms"]) (F_law_draw : Fn P w K mg base "_law_draw" 1 ["_law_deal_here", "_law_many"] (spDraw)) : Fn P w K mg base "_law_filling" 2 ["_law_deal_here", "_law_rooms"] (spFilling) := by
  have nd := sc__law_filling.nd
  refine L.ok sc__law_filling (fun vs H Q E h => ?_) (fun f cdv A outer s H vs Q E hr h => ?_) <;> obtain ⟨d, l, r, cs, kvs, rm, rfl, D, nr, hrd, hks, hnd, hcl, hrf, hgd, k⟩ := h
  · rfl
  have hu := hu_of hr
  refine ⟨_, (pss_cons (ps_set (i := 2) nd rfl (by first | exact Or.inl rfl | exact Or.inr rfl) pe_dnewK)
    (pss_cons (ps_thaw (ps_for PassesOwn.never rfl (pi_D (pvM 1)) (pg_name (i := 3) nd rfl (by first | exact Or.inl rfl | exact Or.inr rfl)) (pss_one (ps_dp hu (pvM 2) (pvM 3) (pe_ix ix_T (pe_dgF hu (pvM 1) (pvM 3) (fun _ _ => rfl)) (pe_callF F_law_draw (hr.mono (by first | decide | omega)) rfl (pa_cons (pvM 0) (pa_cons (pe_callB call_lenT rfl T.b_len PySem.boot_len (pa_cons (pe_dgF hu (pvM 1) (pvM 3) (fun _ _ => rfl)) pa_nil)) pa_nil))) (fun _ _ => rfl)) rfl))))
    (pss_one (ps_ret (pvM 2))))), ?_⟩
  (try ctx_has vcx true_and)
  intro q hq
  have nq := D.ne hq
  have rq : r ≠ q := ne_of_none hrd hq
  have hr1 : upd H q (.dK []) r = some (.dK kvs) := by rw [upd_ne rq]; exact hrd
  refine ⟨r, kvs, hr1, ?_⟩
  (try ctx_has vcx true_and hr1)
  intro ob
  have klen : kvs.length = cs.length := by have := congrArg List.length hks; simpa using this
  refine for_g wlk_dk (fun i σ H' => ∃ (g : Str → Int) (v3 : Option V), σ = [some (.ref d), some (.ref r), some (.ref q), v3] ∧ H' q = some (.dK (fillK (cs.take i) g)) ∧ okF rm (cs.take i) g ∧ H' r = some (.frz ob (.dK kvs)) ∧ DealAt H' d l ∧ (∀ b o, b ≠ d → b ≠ l → b ≠ r → H b = some o → H' b = some o))
    ⟨fun _ => 0, _, rfl, by rw [upd_ne rq.symm, upd_same]; rfl, fun c hc => by simp at hc, upd_same, (D.new hq).put nr.1 nr.2, fun b o _ _ hb e => by rw [upd_ne hb, upd_ne (ne_of_none e hq)]; exact e⟩ (fun i σ H' zq37 => by obtain ⟨_, _, _, _, _, h, _⟩ := zq37; exact (h)) ?_ ?_
  · rintro i x σ H2 hi hx ⟨g, v3, rfl, h2, hok, h2r, D2, k2⟩
    rw [List.length_map, klen] at hi
    obtain ⟨c, hcx⟩ : ∃ c, cs[i]? = some c := ⟨cs[i], by simp [hi]⟩
    have ex : x = .str c := by
      rw [List.getElem?_map] at hx
      have e1 := congrArg (fun z => z[i]?) hks
      simp only [List.getElem?_map, hcx, Option.map_some] at e1
      cases e : kvs[i]? with
      | none => rw [e] at e1; cases e1
      | some y =>
        rw [e] at hx e1
        have e2 : y.1 = Sum.inr c := Option.some.inj e1
        rw [← Option.some.inj hx]
        show kV y.1 = _
        rw [e2]
        rfl
    subst ex
    have hcm : c ∈ cs := List.mem_of_getElem? hcx
    obtain ⟨ra, hra, hrt⟩ := hrf c hcm
    have ne2 : ∀ {b : Addr} {vs : List V}, H b = some (.tup vs) → b ≠ d ∧ b ≠ l ∧ b ≠ r := fun {b vs} e => by
      obtain ⟨m', sd, n', xs', hd', hl', _⟩ := D.ex
      exact ⟨ne_of e hd' (by intro z; cases z), ne_of e hl' (by intro z; cases z), ne_of e hrd (by intro z; cases z)⟩
    have n3 := ne2 hrt
    have h2t := k2 _ _ n3.1 n3.2.1 n3.2.2 hrt
    have hgc := hgd c hcm
    have etk : cs.take (i + 1) = cs.take i ++ [c] := by rw [List.take_add_one, hcx]; rfl
    (try ctx_has vcx true_and tDGF h2r)
    refine ⟨_, _, rfl, _, hra, _, _, rfl, _, hra, ra, rfl, _, h2t, draw_rd D2 (by rw [List.length_map]; omega) (by rw [List.length_map]; omega) fun z H3 z0 z1 D3 B3 => ?_⟩
    rw [List.length_map] at z1
    obtain ⟨v, hv, hvm⟩ := atI_mem (xs := (rm c).map V.int) z0 (by rw [List.length_map]; exact z1)
    obtain ⟨zi, hzi, rfl⟩ := List.mem_map.mp hvm
    have h3t := (But.keepTI B3 D2).tup _ _ h2t
    have h3q := B3 q _ nq.1 nq.2 h2
    have h3r := B3 r _ nr.1 nr.2 h2r
    refine ⟨ra, rfl, z, rfl, _, h3t, _, hv, _, h3q, small1000 (by rw [fillK, List.length_map, List.length_take]; omega), setF g c zi, by rw [upd_same, fillK_put (not_mem_take hnd hcx), etk], fun x hx => ?_, by rw [upd_ne rq]; exact h3r, D3.put nq.1 nq.2, fun b o h1 h2 h3 e => by rw [upd_ne (ne_of_none e hq)]; exact B3 b o h1 h2 (k2 b o h1 h2 h3 e)⟩
    rw [etk] at hx
    by_cases e : x = c
    · subst e; rw [setF_same]; exact hzi
    · rw [setF_ne _ _ e]
      rcases List.mem_append.mp hx with z | z
      · exact hok x z
      · exact absurd (List.mem_singleton.mp z) e
  · rintro σ H2 ⟨g, v3, rfl, h2, hok, h2r, D2, k2⟩
    rw [List.length_map, klen, List.take_length] at h2 hok
    refine ⟨⟨ob, h2r⟩, ?_⟩
    (try ctx_has vcx true_and)
    refine k q g _ hq (by rw [upd_ne rq.symm]; exact h2) hok (D2.put nr.1 nr.2) fun b o h1 h2 e => ?_
    by_cases hbr : b = r
    · subst hbr; rw [hrd] at e; rw [upd_same]; exact e
    · rw [upd_ne hbr]; exact k2 b o h1 h2 hbr e
noncomputable def spRoomsG (G : Int → List Int → Prop) (m : Nat) (ex : Int → List V) : Sp := fun vs H Q _ => ∃ (d l a : Addr) (ws : List Str) (by' : Int), vs = [.ref d, .ref a] ++ ex by' ∧ DealAt H d l ∧ (a ≠ d ∧ a ≠ l) ∧ H a = some (.lst (ws.map V.str)) ∧ ws.Nodup ∧ ws.length ≤ 12 ∧ 1 ≤ by' ∧ by' ≤ 100 ∧
  ∀ (r : Addr) (kvs : List (Key × V)) (rm : Str → List Int) (H' : Hp), H r = none → H' r = some (.dK kvs) → KeysAre kvs ws → RoomsFor H' kvs ws rm → (∀ c ∈ ws, 1 ≤ (rm c).length ∧ (rm c).length ≤ m ∧ (rm c).Pairwise (· < ·) ∧ G by' (rm c)) → (∀ x ∈ kvs, plainV x.2 = true) → DealAt H' d l → But d l H H' → Q (.ref r) H'
noncomputable def Even (by' : Int) (vs : List Int) : Prop := ∀ x ∈ vs, ∀ y ∈ vs, by' ∣ x - y
theorem pw_nodup {vs : List Int} (h : vs.Pairwise (· < ·)) : vs.Nodup := h.imp fun h => by omega
theorem ok__law_even_rooms   (T : Txt K mg) (L : FnL K mg "_law_even_rooms" s__law_even_rooms ["_law_deal_here", "_law_names_here", "_law_by"]) (F_law_draw : Fn P w K mg base "_law_draw" 1 ["_law_deal_here", "_law_many"] (spDraw)) : Fn P w K mg base "_law_even_rooms" 2 ["_law_deal_here", "_law_names_here", "_law_by"] (spRoomsG Even 4 (fun x => [.int x])) := by
  have nd := sc__law_even_rooms.nd
  refine L.ok sc__law_even_rooms (fun vs H Q E h => ?_) (fun f cdv A outer s H vs Q E hr h => ?_) <;> obtain ⟨d, l, a, ws, by', rfl, D, na, ha, hnd, hwl, b1, b2, k⟩ := h
  · rfl
  have hu := hu_of hr
  refine ⟨_, (pss_cons (ps_set (i := 3) nd rfl (by first | exact Or.inl rfl | exact Or.inr rfl) pe_dnewK)
    (pss_cons (ps_for PassesOwn.never rfl (pi_LK (K := K) rfl (pvM 1)) (pg_name (i := 4) nd rfl (by first | exact Or.inl rfl | exact Or.inr rfl)) (pss_cons (ps_set (i := 5) nd rfl (by first | exact Or.inl rfl | exact Or.inr rfl) (pe_op op_sub (pe_callF F_law_draw (hr.mono (by first | decide | omega)) rfl (pa_cons (pvM 0) (pa_cons pe_int pa_nil))) pe_int))
    (pss_cons (ps_set (i := 6) nd rfl (by first | exact Or.inl rfl | exact Or.inr rfl) (pe_lst pa_nil))
    (pss_cons (ps_for PassesOwn.never rfl (pi_range1 rfl T.b_range (pa_cons (pe_op op_add pe_int (pe_callF F_law_draw (hr.mono (by first | decide | omega)) rfl (pa_cons (pvM 0) (pa_cons pe_int pa_nil)))) pa_nil)) (pg_name (i := 7) nd rfl (by first | exact Or.inl rfl | exact Or.inr rfl)) (pss_cons (ps_expr (pe_mL PySem.F.slot_list_append PySem.F.type_list_append ml_append (pvM 6) (pa_cons (pvM 5) pa_nil)))
    (pss_one (ps_set (i := 5) nd rfl (by first | exact Or.inl rfl | exact Or.inr rfl) (pe_op op_add (pvM 5) (pe_op op_mul (pvM 2) (pe_op op_add pe_int (pe_op op_mul (pe_callF F_law_draw (hr.mono (by first | decide | omega)) rfl (pa_cons (pvM 0) (pa_cons pe_int pa_nil))) (pe_callF F_law_draw (hr.mono (by first | decide | omega)) rfl (pa_cons (pvM 0) (pa_cons pe_int pa_nil)))))))))))
    (pss_one (ps_dp hu (pvM 3) (pvM 4) (pe_callTy call_tupL rfl T.b_tuple (show bootBuiltins "tuple" = some (.type "tuple") by decide +kernel) (pa_cons (pvM 6) pa_nil)) rfl))))))
    (pss_one (ps_ret (pvM 3))))), ?_⟩
  (try ctx_has vcx true_and)
  intro q hq
  have nq := D.ne hq
  have aq : a ≠ q := ne_of_none ha hq
  refine ⟨_, by rw [upd_ne aq]; exact ha, ?_⟩
  refine for_g wlk_list (fun i σ H' => ∃ (kvs : List (Key × V)) (rm : Str → List Int) (v4 v5 v6 v7 : Option V), σ = [some (.ref d), some (.ref a), some (.int by'), some (.ref q), v4, v5, v6, v7] ∧ H' q = some (.dK kvs) ∧ KeysAre kvs (ws.take i) ∧ RoomsFor H' kvs (ws.take i) rm ∧
      (∀ c ∈ ws.take i, 1 ≤ (rm c).length ∧ (rm c).length ≤ 4 ∧ (rm c).Pairwise (· < ·) ∧ Even by' (rm c)) ∧ (∀ x ∈ kvs, plainV x.2 = true) ∧ DealAt H' d l ∧ But d l H H')
    ⟨[], fun _ => [], _, _, _, _, rfl, upd_same, rfl, fun c hc => by simp at hc, fun c hc => by simp at hc, by simp, D.new hq, (But.refl H).new hq⟩ (fun i σ H' zq38 => by obtain ⟨_, _, _, _, _, _, _, _, _, _, _, _, _, B⟩ := zq38; exact (.of (B a _ na.1 na.2 ha))) ?_ ?_
  · rintro i x σ H2 hi hx ⟨kvs, rm, v4, v5, v6, v7, rfl, h2, hks, hrf, hgd, hpl, D2, B2⟩
    rw [List.length_map] at hi
    obtain ⟨c, hcx, rfl⟩ : ∃ c, ws[i]? = some c ∧ V.str c = x := by
      rw [List.getElem?_map] at hx
      cases e : ws[i]? with
      | none => rw [e] at hx; cases hx
      | some nm => rw [e] at hx; exact ⟨nm, rfl, Option.some.inj hx⟩
    have etk : ws.take (i + 1) = ws.take i ++ [c] := by rw [List.take_add_one, hcx]; rfl
    have hcn := not_mem_take hnd hcx
    have klen : kvs.length ≤ 12 := by have := congrArg List.length hks; simp at this; omega
    (try ctx_has vcx true_and)
    refine draw_rd D2 (by decide) (by decide) fun r3 H3 r30 r31 D3 B3 => ?_
    refine ⟨r3, rfl, by decide, fun so hso => ?_⟩
    have nso := D3.ne hso
    have fso : H2 so = none := B3.free D3 hso
    (try ctx_has vcx true_and)
    refine draw_rd (D3.new hso) (by decide) (by decide) fun r4 H4 r40 r41 D4 B4 => ?_
    have B24 := (B3.new (o := .lst []) hso).trans B4
    have h4so := B4 so _ nso.1 nso.2 upd_same
    refine ⟨r4, rfl, by omega, by omega, ?_⟩
    refine for_g wlk_range (fun j σ H' => ∃ (vs : List Int) (val : Int) (v7 : Option V), σ = [some (.ref d), some (.ref a), some (.int by'), some (.ref q), some (.str c), some (.int val), some (.ref so), v7] ∧ vs.length = j ∧ vs.Pairwise (· < ·) ∧ (∀ x ∈ vs, x < val) ∧ ((∀ x ∈ vs, by' ∣ val - x) ∧ Even by' vs) ∧ H' so = some (.lst (vs.map V.int)) ∧ DealAt H' d l ∧ But d l H2 H')
      ⟨[], _, _, rfl, rfl, .nil, by simp, ⟨by simp, fun x hx => by simp at hx⟩, h4so, D4, B24⟩ (fun _ _ _ _ => True.intro) ?_ ?_
    · rintro j y σ H5 hj hy ⟨vs, val, v7, rfl, hvl, hpw, hlt, hev, h5, D5, B5⟩
      rw [rngV_length] at hj
      (try ctx_has vcx true_and h5)
      refine ⟨by rw [List.length_map]; exact small1000 (by omega), ?_⟩
      have D6 := D5.put (o := .lst (vs.map V.int ++ [V.int val])) nso.1 nso.2
      have B6 := B5.put (o := .lst (vs.map V.int ++ [V.int val])) fso
      have h6 : upd H5 so (.lst (vs.map V.int ++ [V.int val])) so = some (.lst ((vs ++ [val]).map V.int)) := by rw [upd_same]; simp
      have hpw2 : (vs ++ [val]).Pairwise (· < ·) := List.pairwise_append.mpr ⟨hpw, List.pairwise_singleton _ _, fun x hx y hy => by rw [List.mem_singleton.mp hy]; exact hlt x hx⟩
      have hlt2 : ∀ nv : Int, val < nv → ∀ x ∈ vs ++ [val], x < nv := fun nv hnv x hx => by
        rcases List.mem_append.mp hx with z | z
        · have := hlt x z; omega
        · rw [List.mem_singleton.mp z]; exact hnv
      refine draw_rd D6 (by decide) (by decide) fun r7 H7 r70 r71 D7 B7 => ?_
      refine draw_rd D7 (by decide) (by decide) fun r8 H8 r80 r81 D8 B8 => ?_
      have hp0 : 0 ≤ r7 * r8 := Int.mul_nonneg r70 r80
      have hp1 : 1 ≤ by' * (1 + r7 * r8) := by
        have := Int.mul_le_mul b1 (show (1 : Int) ≤ 1 + r7 * r8 by omega) (by decide) (by omega)
        simpa using this
      have hdv : by' ∣ by' * (1 + r7 * r8) := Int.dvd_mul_right _ _
      refine ⟨r7, rfl, r8, rfl, .inl ⟨by omega, by omega⟩, .inl ⟨by omega, by omega⟩, vs ++ [val], by simp; omega, hpw2, hlt2 _ (by omega), ?_, ?_, B8 so _ nso.1 nso.2 (B7 so _ nso.1 nso.2 h6), D8, (B6.trans B7).trans B8⟩
      · intro x hx
        have e : val + by' * (1 + r7 * r8) - x = (val - x) + by' * (1 + r7 * r8) := by omega
        rw [e]
        refine Int.dvd_add ?_ hdv
        rcases List.mem_append.mp hx with z | z
        · exact hev.1 x z
        · rw [List.mem_singleton.mp z, Int.sub_self]; exact Int.dvd_zero _
      · intro x hx y hy
        rcases List.mem_append.mp hx with z | z <;> rcases List.mem_append.mp hy with z' | z'
        · exact hev.2 x z y z'
        · rw [List.mem_singleton.mp z', ← Int.dvd_neg, Int.neg_sub]; exact hev.1 x z
        · rw [List.mem_singleton.mp z]; exact hev.1 y z'
        · rw [List.mem_singleton.mp z, List.mem_singleton.mp z', Int.sub_self]; exact Int.dvd_zero _
    · rintro σ H5 ⟨vs, val, v7, rfl, hvl, hpw, hlt, hev, h5, D5, B5⟩
      rw [rngV_length] at hvl
      (try ctx_has vcx true_and h5)
      intro t ht
      have s6 : Same H5 (upd H5 t (.tup (vs.map V.int))) := Same.upd0 ht
      have h6q := s6 _ _ (B5 q _ nq.1 nq.2 h2)
      have tq : t ≠ q := fun e => by rw [← e, upd_same] at h6q; cases h6q
      refine ⟨kvs, h6q, small1000 (by omega), ?_⟩
      have ktup : ∀ b zs, H2 b = some (.tup zs) → upd (upd H5 t (.tup (vs.map V.int))) q (.dK (putK kvs (Sum.inr c) (.ref t))) b = some (.tup zs) := fun b zs e => by
        rw [upd_ne (ne_of e h2 (by intro z; cases z))]
        exact s6 _ _ ((But.keepTI B5 D2).tup _ _ e)
      refine ⟨putK kvs (Sum.inr c) (.ref t), upd_same, by rw [etk]; exact keys_put hks hcn, setF rm c vs, by rw [etk]; exact hrf.put hcn ktup (by rw [upd_ne tq]; exact upd_same), fun x hx => ?_, plain_put hpl rfl, (D5.same s6).put nq.1 nq.2, ((B2.trans B5).same s6).put hq⟩
      rw [etk] at hx
      by_cases e : x = c
      · subst e
        rw [setF_same]
        exact ⟨by omega, by omega, hpw, hev.2⟩
      · rw [setF_ne _ _ e]
        rcases List.mem_append.mp hx with z | z
        · exact hgd x z
        · exact absurd (List.mem_singleton.mp z) e
  · rintro σ H2 ⟨kvs, rm, v4, v5, v6, v7, rfl, h2, hks, hrf, hgd, hpl, D2, B2⟩
    rw [List.length_map, List.take_length] at hks hrf hgd
    (try ctx_has vcx true_and)
    exact k q kvs rm H2 hq h2 hks hrf hgd hpl D2 B2
theorem ok__law_wide_rooms   (T : Txt K mg) (L : FnL K mg "_law_wide_rooms" s__law_wide_rooms ["_law_deal_here", "_law_names_here"]) (F_law_draw : Fn P w K mg base "_law_draw" 1 ["_law_deal_here", "_law_many"] (spDraw)) : Fn P w K mg base "_law_wide_rooms" 2 ["_law_deal_here", "_law_names_here"] (spRoomsG (fun _ _ => True) 10 (fun _ => [])) := by
  have nd := sc__law_wide_rooms.nd
  refine L.ok sc__law_wide_rooms (fun vs H Q E h => ?_) (fun f cdv A outer s H vs Q E hr h => ?_) <;> obtain ⟨d, l, a, ws, by', rfl, D, na, ha, hnd, hwl, b1, b2, k⟩ := h
  · rfl
  have hu := hu_of hr
  refine ⟨_, (pss_cons (ps_set (i := 2) nd rfl (by first | exact Or.inl rfl | exact Or.inr rfl) pe_dnewK)
    (pss_cons (ps_for PassesOwn.never rfl (pi_LK (K := K) rfl (pvM 1)) (pg_name (i := 3) nd rfl (by first | exact Or.inl rfl | exact Or.inr rfl)) (pss_cons (ps_set (i := 4) nd rfl (by first | exact Or.inl rfl | exact Or.inr rfl) (pe_op op_sub (pe_callF F_law_draw (hr.mono (by first | decide | omega)) rfl (pa_cons (pvM 0) (pa_cons pe_int pa_nil))) pe_int))
    (pss_cons (ps_set (i := 5) nd rfl (by first | exact Or.inl rfl | exact Or.inr rfl) (pe_lst pa_nil))
    (pss_cons (ps_for PassesOwn.never rfl (pi_range1 rfl T.b_range (pa_cons (pe_op op_add pe_int (pe_callF F_law_draw (hr.mono (by first | decide | omega)) rfl (pa_cons (pvM 0) (pa_cons pe_int pa_nil)))) pa_nil)) (pg_name (i := 6) nd rfl (by first | exact Or.inl rfl | exact Or.inr rfl)) (pss_cons (ps_expr (pe_mL PySem.F.slot_list_append PySem.F.type_list_append ml_append (pvM 5) (pa_cons (pvM 4) pa_nil)))
    (pss_one (ps_set (i := 4) nd rfl (by first | exact Or.inl rfl | exact Or.inr rfl) (pe_op op_add (pe_op op_add (pvM 4) pe_int) (pe_callF F_law_draw (hr.mono (by first | decide | omega)) rfl (pa_cons (pvM 0) (pa_cons pe_int pa_nil))))))))
    (pss_one (ps_dp hu (pvM 2) (pvM 3) (pe_callTy call_tupL rfl T.b_tuple (show bootBuiltins "tuple" = some (.type "tuple") by decide +kernel) (pa_cons (pvM 5) pa_nil)) rfl))))))
    (pss_one (ps_ret (pvM 2))))), ?_⟩
  (try ctx_has vcx true_and)
  intro q hq
  have nq := D.ne hq
  have aq : a ≠ q := ne_of_none ha hq
  refine ⟨_, by rw [upd_ne aq]; exact ha, ?_⟩
  refine for_g wlk_list (fun i σ H' => ∃ (kvs : List (Key × V)) (rm : Str → List Int) (v4 v5 v6 v7 : Option V), σ = [some (.ref d), some (.ref a), some (.ref q), v4, v5, v6, v7] ∧ H' q = some (.dK kvs) ∧ KeysAre kvs (ws.take i) ∧ RoomsFor H' kvs (ws.take i) rm ∧
      (∀ c ∈ ws.take i, 1 ≤ (rm c).length ∧ (rm c).length ≤ 10 ∧ (rm c).Pairwise (· < ·) ∧ (fun _ => True) (rm c)) ∧ (∀ x ∈ kvs, plainV x.2 = true) ∧ DealAt H' d l ∧ But d l H H')
    ⟨[], fun _ => [], _, _, _, _, rfl, upd_same, rfl, fun c hc => by simp at hc, fun c hc => by simp at hc, by simp, D.new hq, (But.refl H).new hq⟩ (fun i σ H' zq39 => by obtain ⟨_, _, _, _, _, _, _, _, _, _, _, _, _, B⟩ := zq39; exact (.of (B a _ na.1 na.2 ha))) ?_ ?_
  · rintro i x σ H2 hi hx ⟨kvs, rm, v4, v5, v6, v7, rfl, h2, hks, hrf, hgd, hpl, D2, B2⟩
    rw [List.length_map] at hi
    obtain ⟨c, hcx, rfl⟩ : ∃ c, ws[i]? = some c ∧ V.str c = x := by
      rw [List.getElem?_map] at hx
      cases e : ws[i]? with
      | none => rw [e] at hx; cases hx
      | some nm => rw [e] at hx; exact ⟨nm, rfl, Option.some.inj hx⟩
    have etk : ws.take (i + 1) = ws.take i ++ [c] := by rw [List.take_add_one, hcx]; rfl
    have hcn := not_mem_take hnd hcx
    have klen : kvs.length ≤ 12 := by have := congrArg List.length hks; simp at this; omega
    (try ctx_has vcx true_and)
    refine draw_rd D2 (by decide) (by decide) fun r3 H3 r30 r31 D3 B3 => ?_
    refine ⟨r3, rfl, by decide, fun so hso => ?_⟩
    have nso := D3.ne hso
    have fso : H2 so = none := B3.free D3 hso
    (try ctx_has vcx true_and)
    refine draw_rd (D3.new hso) (by decide) (by decide) fun r4 H4 r40 r41 D4 B4 => ?_
    have B24 := (B3.new (o := .lst []) hso).trans B4
    have h4so := B4 so _ nso.1 nso.2 upd_same
    refine ⟨r4, rfl, by omega, by omega, ?_⟩
    refine for_g wlk_range (fun j σ H' => ∃ (vs : List Int) (val : Int) (v7 : Option V), σ = [some (.ref d), some (.ref a), some (.ref q), some (.str c), some (.int val), some (.ref so), v7] ∧ vs.length = j ∧ vs.Pairwise (· < ·) ∧ (∀ x ∈ vs, x < val) ∧ True ∧ H' so = some (.lst (vs.map V.int)) ∧ DealAt H' d l ∧ But d l H2 H')
      ⟨[], _, _, rfl, rfl, .nil, by simp, True.intro, h4so, D4, B24⟩ (fun _ _ _ _ => True.intro) ?_ ?_
    · rintro j y σ H5 hj hy ⟨vs, val, v7, rfl, hvl, hpw, hlt, hev, h5, D5, B5⟩
      rw [rngV_length] at hj
      (try ctx_has vcx true_and h5)
      refine ⟨by rw [List.length_map]; exact small1000 (by omega), ?_⟩
      have D6 := D5.put (o := .lst (vs.map V.int ++ [V.int val])) nso.1 nso.2
      have B6 := B5.put (o := .lst (vs.map V.int ++ [V.int val])) fso
      have h6 : upd H5 so (.lst (vs.map V.int ++ [V.int val])) so = some (.lst ((vs ++ [val]).map V.int)) := by rw [upd_same]; simp
      have hpw2 : (vs ++ [val]).Pairwise (· < ·) := List.pairwise_append.mpr ⟨hpw, List.pairwise_singleton _ _, fun x hx y hy => by rw [List.mem_singleton.mp hy]; exact hlt x hx⟩
      have hlt2 : ∀ nv : Int, val < nv → ∀ x ∈ vs ++ [val], x < nv := fun nv hnv x hx => by
        rcases List.mem_append.mp hx with z | z
        · have := hlt x z; omega
        · rw [List.mem_singleton.mp z]; exact hnv
      refine draw_rd D6 (by decide) (by decide) fun r7 H7 r70 r71 D7 B7 => ?_
      refine ⟨r7, rfl, vs ++ [val], by simp; omega, hpw2, hlt2 _ (by omega), B7 so _ nso.1 nso.2 h6, D7, B6.trans B7⟩
    · rintro σ H5 ⟨vs, val, v7, rfl, hvl, hpw, hlt, hev, h5, D5, B5⟩
      rw [rngV_length] at hvl
      (try ctx_has vcx true_and h5)
      intro t ht
      have s6 : Same H5 (upd H5 t (.tup (vs.map V.int))) := Same.upd0 ht
      have h6q := s6 _ _ (B5 q _ nq.1 nq.2 h2)
      have tq : t ≠ q := fun e => by rw [← e, upd_same] at h6q; cases h6q
      refine ⟨kvs, h6q, small1000 (by omega), ?_⟩
      have ktup : ∀ b zs, H2 b = some (.tup zs) → upd (upd H5 t (.tup (vs.map V.int))) q (.dK (putK kvs (Sum.inr c) (.ref t))) b = some (.tup zs) := fun b zs e => by
        rw [upd_ne (ne_of e h2 (by intro z; cases z))]
        exact s6 _ _ ((But.keepTI B5 D2).tup _ _ e)
      refine ⟨putK kvs (Sum.inr c) (.ref t), upd_same, by rw [etk]; exact keys_put hks hcn, setF rm c vs, by rw [etk]; exact hrf.put hcn ktup (by rw [upd_ne tq]; exact upd_same), fun x hx => ?_, plain_put hpl rfl, (D5.same s6).put nq.1 nq.2, ((B2.trans B5).same s6).put hq⟩
      rw [etk] at hx
      by_cases e : x = c
      · subst e
        rw [setF_same]
        exact ⟨by omega, by omega, hpw⟩
      · rw [setF_ne _ _ e]
        rcases List.mem_append.mp hx with z | z
        · exact ⟨(hgd x z).1, (hgd x z).2.1, (hgd x z).2.2.1⟩
        · exact absurd (List.mem_singleton.mp z) e
  · rintro σ H2 ⟨kvs, rm, v4, v5, v6, v7, rfl, h2, hks, hrf, hgd, hpl, D2, B2⟩
    rw [List.length_map, List.take_length] at hks hrf hgd
    (try ctx_has vcx true_and)
    exact k q kvs rm H2 hq h2 hks hrf hgd hpl D2 B2
noncomputable def spTerms : Sp := fun vs H Q _ => ∃ (d l a : Addr) (ws : List Str), vs = [.ref d, .ref a] ∧ DealAt H d l ∧ (a ≠ d ∧ a ≠ l) ∧ H a = some (.lst (ws.map V.str)) ∧ ws.length ≤ 12 ∧
  ∀ (t : Addr) (ts : List (Int × Str)) (H' : Hp), TermsAt H' t ts → ts.map (·.2) = ws → (∀ x ∈ ts, -1000000 ≤ x.1 ∧ x.1 ≤ 1000000) → DealAt H' d l → But d l H H' → Q (.ref t) H'
theorem cp106 : CPow 10 6 := ⟨by decide, by decide, by decide⟩
theorem pw106 : (10 : Int) ^ Int.toNat 6 = 1000000 := by decide
noncomputable def spIs : Sp := fun vs H Q _ => ∃ b c : Bool, vs = [.bl b, .bl c] ∧ Q (.bl (b == c)) H
theorem ok__law_terms   (T : Txt K mg) (L : FnL K mg "_law_terms" s__law_terms ["_law_deal_here", "_law_names_here"]) (F_law_draw : Fn P w K mg base "_law_draw" 1 ["_law_deal_here", "_law_many"] (spDraw)) : Fn P w K mg base "_law_terms" 2 ["_law_deal_here", "_law_names_here"] (spTerms) := by
  have nd := sc__law_terms.nd
  refine L.ok sc__law_terms (fun vs H Q E h => ?_) (fun f cdv A outer s H vs Q E hr h => ?_) <;> obtain ⟨d, l, a, ws, rfl, D, na, ha, hwl, k⟩ := h
  · rfl
  have hu := hu_of hr
  refine ⟨_, (pss_cons (ps_set (i := 2) nd rfl (by first | exact Or.inl rfl | exact Or.inr rfl) (pe_lst pa_nil))
    (pss_cons (ps_for PassesOwn.never rfl (pi_LK (K := K) rfl (pvM 1)) (pg_name (i := 3) nd rfl (by first | exact Or.inl rfl | exact Or.inr rfl)) (pss_cons (ps_set (i := 4) nd rfl (by first | exact Or.inl rfl | exact Or.inr rfl) (pe_op op_mul (pe_ix ix_L (pe_lst (pa_cons pe_int (pa_cons (pe_op op_add pe_int (pe_callF F_law_draw (hr.mono (by first | decide | omega)) rfl (pa_cons (pvM 0) (pa_cons pe_int pa_nil)))) (pa_cons (pe_op op_add pe_int (pe_callF F_law_draw (hr.mono (by first | decide | omega)) rfl (pa_cons (pvM 0) (pa_cons (pe_op op_pow pe_int pe_int) pa_nil)))) pa_nil)))) (pe_callF F_law_draw (hr.mono (by first | decide | omega)) rfl (pa_cons (pvM 0) (pa_cons pe_int pa_nil))) (fun _ _ => rfl)) (pe_ix ix_L (pe_lst (pa_cons pe_int (pa_cons (pe_un un_neg pe_int) pa_nil))) (pe_callF F_law_draw (hr.mono (by first | decide | omega)) rfl (pa_cons (pvM 0) (pa_cons pe_int pa_nil))) (fun _ _ => rfl))))
    (pss_one (ps_expr (pe_mL PySem.F.slot_list_append PySem.F.type_list_append ml_append (pvM 2) (pa_cons (pe_tup (pa_cons (pvM 4) (pa_cons (pvM 3) pa_nil))) pa_nil))))))
    (pss_one (ps_ret (pe_callTy call_tupL rfl T.b_tuple (show bootBuiltins "tuple" = some (.type "tuple") by decide +kernel) (pa_cons (pvM 2) pa_nil)))))), ?_⟩
  (try ctx_has vcx true_and)
  refine ⟨by decide, fun q hq => ?_⟩
  have nq := D.ne hq
  refine ⟨_, by rw [upd_ne (ne_of_none ha hq)]; exact ha, ?_⟩
  refine for_g wlk_list (fun i σ H' => ∃ (as : List (Addr × Int × Str)) (v3 v4 : Option V), σ = [some (.ref d), some (.ref a), some (.ref q), v3, v4] ∧ H' q = some (.lst (as.map fun x => V.ref x.1)) ∧ (as.map (·.2)).map (·.2) = ws.take i ∧ (∀ x ∈ as, H' x.1 = some (.tup [.int x.2.1, .str x.2.2]) ∧ -1000000 ≤ x.2.1 ∧ x.2.1 ≤ 1000000) ∧ DealAt H' d l ∧ But d l H H')
    ⟨[], _, _, rfl, upd_same, by simp, by simp, D.new hq, (But.refl H).new hq⟩ (fun i σ H' zq40 => by obtain ⟨_, _, _, _, _, _, _, _, B⟩ := zq40; exact (.of (B a _ na.1 na.2 ha))) ?_ ?_
  · rintro i x σ H2 hi hx ⟨as, v3, v4, rfl, h2, hcs, has, D2, B2⟩
    rw [List.length_map] at hi
    obtain ⟨c, hcx, rfl⟩ : ∃ c, ws[i]? = some c ∧ V.str c = x := by
      rw [List.getElem?_map] at hx
      cases e : ws[i]? with
      | none => rw [e] at hx; cases hx
      | some nm => rw [e] at hx; exact ⟨nm, rfl, Option.some.inj hx⟩
    have etk : ws.take (i + 1) = ws.take i ++ [c] := by rw [List.take_add_one, hcx]; rfl
    have hal : as.length ≤ 12 := by have := congrArg List.length hcs; simp at this; omega
    (try ctx_has vcx true_and)
    refine draw_rd D2 (by decide) (by decide) fun r3 H3 r30 r31 D3 B3 => ?_
    refine ⟨r3, rfl, cp106, ?_⟩
    rw [pw106]
    refine draw_rd D3 (by decide) (by decide) fun r4 H4 r40 r41 D4 B4 => ?_
    refine ⟨r4, rfl, by decide, fun g1 hg1 => ?_⟩
    refine draw_of D4 hg1 (by decide) (by decide) rfl fun r5 v H5 hv5 e5 D5 B5 h5 => ?_
    obtain ⟨a1, rfl, a10, a11⟩ : ∃ a1 : Int, v = .int a1 ∧ 1 ≤ a1 ∧ a1 ≤ 1000000 := by
      simp only [List.mem_cons, List.not_mem_nil, or_false] at hv5
      rcases hv5 with rfl | rfl | rfl
      · exact ⟨1, rfl, by decide, by decide⟩
      · exact ⟨_, rfl, by omega, by omega⟩
      · exact ⟨_, rfl, by omega, by omega⟩
    refine ⟨r5, rfl, _, h5, _, e5, by decide, fun g2 hg2 => ?_⟩
    refine draw_of D5 hg2 (by decide) (by decide) rfl fun r6 w H6 hw6 e6 D6 B6 h6 => ?_
    obtain ⟨a2, rfl, ha2⟩ : ∃ a2 : Int, w = .int a2 ∧ (a2 = 1 ∨ a2 = -1) := by
      simp only [List.mem_cons, List.not_mem_nil, or_false] at hw6
      rcases hw6 with rfl | rfl
      · exact ⟨1, rfl, .inl rfl⟩
      · exact ⟨-1, rfl, .inr rfl⟩
    have B26 := ((B3.trans B4).trans B5).trans B6
    refine ⟨r6, rfl, _, h6, _, e6, a1, rfl, a2, rfl, .inl ⟨by omega, by omega⟩, ⟨_, B26 q _ nq.1 nq.2 h2⟩, by decide, fun tt htt => ?_⟩
    have ab : -1000000 ≤ a1 * a2 ∧ a1 * a2 ≤ 1000000 := by rcases ha2 with rfl | rfl <;> omega
    generalize a1 * a2 = ax at ab ⊢
    have s7 : Same H6 (upd H6 tt (.tup [.int ax, .str c])) := Same.upd0 htt
    have D7 := D6.same s7
    have B27 := B26.same s7
    have h7q := B27 q _ nq.1 nq.2 h2
    have kt : ∀ b xs, upd H6 tt (.tup [.int ax, .str c]) b = some (.tup xs) → upd (upd H6 tt (.tup [.int ax, .str c])) q (.lst ((as.map fun x => V.ref x.1) ++ [V.ref tt])) b = some (.tup xs) := fun b xs e => by rw [upd_ne (ne_of e h7q (by intro z; cases z))]; exact e
    refine ⟨_, h7q, by rw [List.length_map]; exact small1000 (by omega), as ++ [(tt, ax, c)], by rw [upd_same]; simp, by rw [List.map_append, List.map_append, hcs, etk]; rfl, fun x hx => ?_, D7.put nq.1 nq.2, (B2.trans B27).put hq⟩
    rcases List.mem_append.mp hx with z | z
    · exact ⟨kt _ _ ((But.keepTI B27 D2).tup _ _ (has x z).1), (has x z).2⟩
    · rw [List.mem_singleton.mp z]; exact ⟨kt _ _ upd_same, ab⟩
  · rintro σ H2 ⟨as, v3, v4, rfl, h2, hcs, has, D2, B2⟩
    rw [List.length_map, List.take_length] at hcs
    (try ctx_has vcx true_and h2)
    intro t ht
    have s3 : Same H2 (upd H2 t (.tup (as.map fun x => V.ref x.1))) := Same.upd0 ht
    refine k t (as.map (·.2)) _ ⟨as, upd_same, rfl, fun x hx => s3 _ _ (has x hx).1⟩ hcs (fun x hx => ?_) (D2.same s3) (B2.same s3)
    obtain ⟨y, hy, rfl⟩ := List.mem_map.mp hx
    exact (has y hy).2
theorem ok__law_is   (T : Txt K mg) (L : FnL K mg "_law_is" s__law_is ["_law_found", "_law_due"])  : Fn P w K mg base "_law_is" 1 ["_law_found", "_law_due"] (spIs) := by
  have nd := sc__law_is.nd
  refine L.ok sc__law_is (fun vs H Q E h => ?_) (fun f cdv A outer s H vs Q E hr h => ?_) <;> obtain ⟨b, c, rfl, k⟩ := h
  · rfl
  have hu := hu_of hr
  refine ⟨_, (pss_one (ps_ret (pe_and (pe_callB call_isB rfl T.b_isinstance (show bootBuiltins "isinstance" = some (.builtin "isinstance") by decide +kernel) (pa_cons (pvM 0) (pa_cons (pe_ty (T := "bool") rfl T.b_bool (by decide +kernel)) pa_nil))) (pe_one (pe_cmpR op_eq (pvM 0) (pvM 1) (nomark _)))))), ?_⟩
  (try ctx_has vcx true_and)
  rwa [show (b == c) = decide (b = c) from by cases b <;> cases c <;> rfl] at k
noncomputable def NdK (kv : List (Key × V)) : Prop := (kv.map (·.1)).Nodup
theorem NdK.put {kv : List (Key × V)} {k : Key} {v : V} (h : NdK kv) : NdK (putK kv k v) := by
  cases e : valV kv k with
  | none => exact nd_putK v h e
  | some x =>
    unfold NdK putK
    rw [valV_any, e]
    simp only [Option.isSome_some, if_true]
    rw [List.map_map]
    have : ((fun x : Key × V => x.1) ∘ fun kv : Key × V => if kv.1 = k then (kv.1, v) else kv) = fun x => x.1 := by
      funext y
      show (if y.1 = k then (y.1, v) else y).1 = y.1
      split <;> rfl
    rw [this]
    exact h
theorem intK_list : ∀ {kv : List (Key × V)}, IntK kv → ∃ ns : List Int, kv.map (·.1) = ns.map Sum.inl
  | [], _ => ⟨[], rfl⟩
  | x :: kv, h => by
    obtain ⟨ns, e⟩ := intK_list (kv := kv) fun y hy => h y (List.mem_cons_of_mem _ hy)
    obtain ⟨i, hi⟩ := h x (by simp)
    exact ⟨i :: ns, by rw [List.map_cons, List.map_cons, e, hi]⟩
noncomputable def spAllSums : Sp := fun vs H Q _ => ∃ (t r : Addr) (ts : List (Int × Str)) (kvs : List (Key × V)) (rm : Str → List Int), vs = [.ref t, .ref r] ∧ TermsAt H t ts ∧ H r = some (.dK kvs) ∧ RoomsFor H kvs (ts.map (·.2)) rm ∧ (ts.map (·.2)).Nodup ∧ ts.length ≤ 6 ∧ (∀ x ∈ ts, -1000000 ≤ x.1 ∧ x.1 ≤ 1000000) ∧ (∀ c ∈ ts.map (·.2), 1 ≤ (rm c).length ∧ (rm c).length ≤ 4) ∧
  ∀ (q : Addr) (ms : List Int) H', H q = none → H' q = some (.lst (ms.map V.int)) → ms.Pairwise (· ≤ ·) → ms.Nodup → ms.length ≤ 4096 → (∀ s, s ∈ ms ↔ ∃ g, okF rm (ts.map (·.2)) g ∧ sumT ts g = s) → Same H H' → Q (.ref q) H'
theorem ok__law_all_sums   (T : Txt K mg) (L : FnL K mg "_law_all_sums" s__law_all_sums ["_law_terms_here", "_law_rooms"])  : Fn P w K mg base "_law_all_sums" 1 ["_law_terms_here", "_law_rooms"] (spAllSums) := by
  have nd := sc__law_all_sums.nd
  refine L.ok sc__law_all_sums (fun vs H Q E h => ?_) (fun f cdv A outer s H vs Q E hr h => ?_) <;> obtain ⟨t, r, ts, kvs, rm, rfl, hT, hrd, hrf, hnd, hl, hco, hgd, k⟩ := h
  · rfl
  have hu := hu_of hr
  refine ⟨_, (pss_cons (ps_set (i := 2) nd rfl (by first | exact Or.inl rfl | exact Or.inr rfl) (pe_disp (pps_cons pe_int pe_bl pps_nil) rfl rfl (by nofun) (by decide)))
    (pss_cons (ps_for PassesOwn.never rfl (pi_TK (K := K) rfl (pvM 0)) (pg_tupT (n := 2) rfl (pgs_cons (pg_name (i := 3) nd rfl (by first | exact Or.inl rfl | exact Or.inr rfl)) (pgs_cons (pg_name (i := 4) nd rfl (by first | exact Or.inl rfl | exact Or.inr rfl)) pgs_nil))) (pss_cons (ps_set (i := 5) nd rfl (by first | exact Or.inl rfl | exact Or.inr rfl) pe_dnewK)
    (pss_cons (ps_thaw (ps_for PassesOwn.never rfl (pi_D (pvM 2)) (pg_name (i := 6) nd rfl (by first | exact Or.inl rfl | exact Or.inr rfl)) (pss_one (ps_for PassesOwn.never rfl (pi_TK (K := K) rfl (pe_dg hu (pvM 1) (pvM 4) (fun _ _ => rfl))) (pg_name (i := 7) nd rfl (by first | exact Or.inl rfl | exact Or.inr rfl)) (pss_one (ps_dp hu (pvM 5) (pe_op op_add (pvM 6) (pe_op op_mul (pvM 3) (pvM 7))) pe_bl rfl))))))
    (pss_one (ps_set (i := 2) nd rfl (by first | exact Or.inl rfl | exact Or.inr rfl) (pvM 5))))))
    (pss_one (ps_ret (pe_callB (call_sortedDI rfl) rfl T.b_sorted (show bootBuiltins "sorted" = some (.builtin "sorted") by decide +kernel) (pa_cons (pvM 2) pa_nil)))))), ?_⟩
  obtain ⟨as, hat, rfl, has⟩ := hT
  have hlen : as.length ≤ 6 := by simpa using hl
  have h4 := fun i (hi : i ≤ 6) => pow4' hi
  (try ctx_has vcx true_and)
  intro q hq
  refine ⟨upd_same, [(Sum.inl 0, .bl true)], rfl, by decide, ?_⟩
  have em : mergeK ([] : List (Key × V)) [(Sum.inl 0, .bl true)] = [(Sum.inl 0, .bl true)] := putK_new _ valV_nil
  rw [em]
  have s2 : Same H (upd (upd H q (.dK [])) q (.dK [(Sum.inl 0, .bl true)])) := fun b o e => by rw [upd_ne (ne_of_none e hq), upd_ne (ne_of_none e hq)]; exact e
  have h2q : upd (upd H q (.dK [])) q (.dK [(Sum.inl 0, .bl true)]) q = some (.dK [(Sum.inl 0, .bl true)]) := upd_same
  generalize upd (upd H q (.dK [])) q (.dK [(Sum.inl 0, .bl true)]) = H2 at s2 h2q ⊢
  have g2 := s2 _ _ hat
  (try ctx_has vcx true_and g2)
  refine for_g wlk_tup (fun i σ H' => ∃ (q : Addr) (kv : List (Key × V)) (v3 v4 v5 v6 v7 : Option V), σ = [some (.ref t), some (.ref r), some (.ref q), v3, v4, v5, v6, v7] ∧ H q = none ∧ H' q = some (.dK kv) ∧ IntK kv ∧ NdK kv ∧ kv.length ≤ 4 ^ i ∧ (∀ s, hasK kv s ↔ ∃ g, okF rm ((as.map (·.2)).map (·.2)) g ∧ sumT ((as.map (·.2)).take i) g = s) ∧ Same H H')
    ⟨q, _, _, _, _, _, _, rfl, hq, h2q, fun x hx => ⟨0, by rw [List.mem_singleton.mp hx]⟩, by simp [NdK], by simp, fun s => ⟨fun hs => ?_, fun ⟨g, _, e⟩ => ?_⟩, s2⟩ (fun i σ H' zq41 => by obtain ⟨_, _, _, _, _, _, _, _, _, _, _, _, _, _, sm⟩ := zq41; exact (.of (sm _ _ hat))) ?_ ?_
  · obtain ⟨v, hv⟩ := mem_hasK hs
    have e0 : s = 0 := Sum.inl.inj (congrArg Prod.fst (List.mem_singleton.mp hv))
    obtain ⟨g, hg⟩ := some_okF (rm := rm) (cs := (as.map (·.2)).map (·.2)) fun c hc => (hgd c hc).1
    exact ⟨g, hg, by rw [e0]; rfl⟩
  · exact hasK_mem ⟨.bl true, by rw [← e]; exact List.mem_singleton.mpr rfl⟩
  · rintro i x σ H3 hi hx ⟨q, kv, v3, v4, v5, v6, v7, rfl, fq, h3, hik, hnk, hkl, hiff, s3⟩
    rw [List.length_map] at hi
    obtain ⟨y, hy, rfl⟩ : ∃ y, as[i]? = some y ∧ V.ref y.1 = x := by
      rw [List.getElem?_map] at hx
      cases e : as[i]? with
      | none => rw [e] at hx; cases hx
      | some nm => rw [e] at hx; exact ⟨nm, rfl, Option.some.inj hx⟩
    have hym : y ∈ as := List.mem_of_getElem? hy
    have hcmem : y.2.2 ∈ (as.map (·.2)).map (·.2) := List.mem_map.mpr ⟨y.2, List.mem_map.mpr ⟨y, hym, rfl⟩, rfl⟩
    obtain ⟨ad, hv, had⟩ := hrf _ hcmem
    have f1 := s3 _ _ (has y hym)
    (try ctx_has vcx true_and f1)
    intro f hf
    have fq2 : q ≠ f := ne_of_none h3 hf
    have h3q : upd H3 f (.dK []) q = some (.dK kv) := by rw [upd_ne fq2]; exact h3
    have rq : r ≠ q := ne_of_none hrd fq
    have h3r := s3 _ _ hrd
    have rf : r ≠ f := ne_of_none h3r hf
    have h3d := s3 _ _ had
    have dq : ad ≠ q := ne_of_none had fq
    have df : ad ≠ f := ne_of_none h3d hf
    have hg1 := hgd _ hcmem
    have hpw := h4 i (by omega)
    have hco1 := hco y.2 (List.mem_map.mpr ⟨y, hym, rfl⟩)
    refine ⟨q, kv, h3q, ?_⟩
    (try ctx_has vcx true_and h3q)
    intro ob
    refine for_g wlk_dk (fun j σ H' => ∃ (kf : List (Key × V)) (v6 v7 : Option V), σ = [some (.ref t), some (.ref r), some (.ref q), some (.int y.2.1), some (.str y.2.2), some (.ref f), v6, v7] ∧ H' f = some (.dK kf) ∧ IntK kf ∧ NdK kf ∧ kf.length ≤ 4 * j ∧ (∀ s, hasK kf s ↔ ∃ e, (∃ v, (Sum.inl e, v) ∈ kv.take j) ∧ ∃ x ∈ rm y.2.2, s = e + y.2.1 * x) ∧ H' q = some (.frz ob (.dK kv)) ∧ (∀ b o, b ≠ f → b ≠ q → H3 b = some o → H' b = some o))
      ⟨[], _, _, rfl, by rw [upd_ne fq2.symm]; exact upd_same, fun x hx => by simp at hx, by simp [NdK], by simp, fun s => ⟨fun h => (by unfold hasK at h; rw [valV_nil] at h; exact absurd h (by simp)), fun zq42 => by obtain ⟨e, ⟨v, hv⟩, _⟩ := zq42; exact ((by simp at hv))⟩, upd_same, fun b o h1 h2 e => by rw [upd_ne h2, upd_ne h1]; exact e⟩ (fun j σ H' zq43 => by obtain ⟨_, _, _, _, _, _, _, _, _, h, _⟩ := zq43; exact (h)) ?_ ?_
    · rintro j z σ H4 hj hz ⟨kf, v6, v7, rfl, h4f, hif, hnf, hlf, hif4, h4q, k4⟩
      rw [List.length_map] at hj
      obtain ⟨kx, hkx, rfl⟩ : ∃ kx, kv[j]? = some kx ∧ kV kx.1 = z := by
        rw [List.getElem?_map] at hz
        cases e : kv[j]? with
        | none => rw [e] at hz; cases hz
        | some nm => rw [e] at hz; exact ⟨nm, rfl, Option.some.inj hz⟩
      obtain ⟨e0, he0⟩ := hik kx (List.mem_of_getElem? hkx)
      have ekx : kx = (Sum.inl e0, kx.2) := by rw [← he0]
      have etj : kv.take (j + 1) = kv.take j ++ [kx] := by rw [List.take_add_one, hkx]; rfl
      have ezv : kV kx.1 = V.int e0 := by rw [he0]; rfl
      rw [ezv]
      have h4r := k4 r _ rf rq h3r
      have h4d := k4 ad _ df dq h3d
      (try ctx_has vcx true_and h4r hv h4d)
      refine for_g wlk_tup (fun m σ H' => ∃ (kf : List (Key × V)) (v7 : Option V), σ = [some (.ref t), some (.ref r), some (.ref q), some (.int y.2.1), some (.str y.2.2), some (.ref f), some (.int e0), v7] ∧ H' f = some (.dK kf) ∧ IntK kf ∧ NdK kf ∧ kf.length ≤ 4 * j + m ∧ (∀ s, hasK kf s ↔ (∃ e, (∃ v, (Sum.inl e, v) ∈ kv.take j) ∧ ∃ x ∈ rm y.2.2, s = e + y.2.1 * x) ∨ ∃ x ∈ (rm y.2.2).take m, s = e0 + y.2.1 * x) ∧ H' q = some (.frz ob (.dK kv)) ∧ (∀ b o, b ≠ f → b ≠ q → H3 b = some o → H' b = some o))
        ⟨kf, _, rfl, h4f, hif, hnf, by omega, fun s => ⟨fun h => .inl ((hif4 s).mp h), fun h => (hif4 s).mpr (h.resolve_right fun zq44 => by obtain ⟨x, hx, _⟩ := zq44; exact (by simp at hx))⟩, h4q, k4⟩ (fun m σ H' zq45 => by obtain ⟨_, _, _, _, _, _, _, _, _, k⟩ := zq45; exact (.of (k ad _ df dq h3d))) ?_ ?_
      · rintro m u σ H5 hm hu ⟨kf, v7, rfl, h5f, hif, hnf, hlf, hif5, h5q, k5⟩
        rw [List.length_map] at hm
        obtain ⟨x, hxm, rfl⟩ : ∃ x, (rm y.2.2)[m]? = some x ∧ V.int x = u := by
          rw [List.getElem?_map] at hu
          cases e : (rm y.2.2)[m]? with
          | none => rw [e] at hu; cases hu
          | some nm => rw [e] at hu; exact ⟨nm, rfl, Option.some.inj hu⟩
        have etm : (rm y.2.2).take (m + 1) = (rm y.2.2).take m ++ [x] := by rw [List.take_add_one, hxm]; rfl
        (try ctx_has vcx true_and h5f)
        refine ⟨.inl ⟨by omega, by omega⟩, Nat.lt_of_le_of_lt (show kf.length ≤ 200000 by omega) (by decide), _, upd_same, hif.put, hnf.put, Nat.le_trans (length_putK _ _ _) (by omega), fun s => ?_, by rw [upd_ne fq2]; exact h5q, fun b o h1 h2 e => by rw [upd_ne h1]; exact k5 b o h1 h2 e⟩
        rw [hasK_put, hif5, etm]
        constructor
        · rintro (rfl | h | ⟨x', hx', e⟩)
          · exact .inr ⟨x, by simp, rfl⟩
          · exact .inl h
          · exact .inr ⟨x', List.mem_append_left _ hx', e⟩
        · rintro (h | ⟨x', hx', e⟩)
          · exact .inr (.inl h)
          · rcases List.mem_append.mp hx' with w | w
            · exact .inr (.inr ⟨x', w, e⟩)
            · rw [List.mem_singleton.mp w] at e; exact .inl e
      · rintro σ H5 ⟨kf, v7, rfl, h5f, hif, hnf, hlf, hif5, h5q, k5⟩
        rw [List.length_map] at hlf hif5
        rw [List.take_length] at hif5
        refine ⟨kf, _, _, rfl, h5f, hif, hnf, by omega, fun s => ?_, h5q, k5⟩
        rw [hif5, etj]
        constructor
        · rintro (⟨e, ⟨v, hv⟩, r2⟩ | ⟨x, hx, e⟩)
          · exact ⟨e, ⟨v, List.mem_append_left _ hv⟩, r2⟩
          · exact ⟨e0, ⟨kx.2, by rw [← ekx]; simp⟩, x, hx, e⟩
        · rintro ⟨e, ⟨v, hv⟩, x, hx, r2⟩
          rcases List.mem_append.mp hv with w | w
          · exact .inl ⟨e, ⟨v, w⟩, x, hx, r2⟩
          · rw [List.mem_singleton, ekx] at w
            have : e = e0 := Sum.inl.inj (congrArg Prod.fst w)
            subst this
            exact .inr ⟨x, hx, r2⟩
    · rintro σ H4 ⟨kf, v6, v7, rfl, h4f, hif, hnf, hlf, hif4, h4q, k4⟩
      rw [List.length_map] at hlf hif4
      rw [List.take_length] at hif4
      refine ⟨⟨ob, h4q⟩, ?_⟩
      (try ctx_has vcx true_and)
      have etk : (as.map (·.2)).take (i + 1) = (as.map (·.2)).take i ++ [y.2] := by rw [List.take_add_one, List.getElem?_map, hy]; rfl
      have hcn : y.2.2 ∉ ((as.map (·.2)).take i).map (·.2) := fun hm => by
        have hd2 : (((as.map (·.2)).take (i + 1)).map (·.2)).Nodup := hnd.sublist ((List.take_sublist _ _).map _)
        rw [etk, List.map_append, List.nodup_append] at hd2
        exact hd2.2.2 _ hm _ (by simp) rfl
      refine ⟨s3.free hf, kf, by rw [upd_ne fq2.symm]; exact h4f, hif, hnf, by rw [Nat.pow_succ]; omega, fun s => ?_, fun b o e => ?_⟩
      · rw [hif4]
        constructor
        · rintro ⟨e, hv, x, hx, rfl⟩
          obtain ⟨g, g1, g2⟩ := (hiff e).mp (hasK_mem hv)
          refine ⟨setF g y.2.2 x, okF_at g1 hx, ?_⟩
          rw [etk, sumT_append, sumT_setF hcn, g2]
          simp [sumT, setF_same]
        · rintro ⟨g, g1, rfl⟩
          refine ⟨_, mem_hasK ((hiff _).mpr ⟨g, g1, rfl⟩), g y.2.2, g1 _ hcmem, ?_⟩
          rw [etk, sumT_append]
          simp [sumT]
      · have e3 := s3 _ _ e
        by_cases hbq : b = q
        · subst hbq; rw [fq] at e; cases e
        · rw [upd_ne hbq]; exact k4 b o (ne_of_none e3 hf) hbq e3
  · rintro σ H3 ⟨q, kv, v3, v4, v5, v6, v7, rfl, fq, h3, hik, hnk, hkl, hiff, s3⟩
    rw [List.length_map] at hkl hiff
    rw [List.take_of_length_le (by simp)] at hiff
    (try ctx_has vcx true_and h3)
    obtain ⟨ns, hns⟩ := intK_list hik
    have hl2 : ns.length = kv.length := by have := congrArg List.length hns; simpa using this.symm
    have hnn : ns.Nodup := by
      have := hnk
      unfold NdK at this
      rw [hns] at this
      exact (List.pairwise_map.mp this).imp fun h e => h (by rw [e])
    have h46 := h4 as.length hlen
    refine ⟨q, rfl, kv, h3, ns, hns, hnn, fun p ms hp hpm hpw => ?_⟩
    refine k p ms _ (s3.free hp) upd_same hpw (hpm.nodup_iff.mpr hnn) (by rw [hpm.length_eq]; omega) (fun s => ?_) (s3.upd_new hp)
    rw [hpm.mem_iff, ← hiff]
    constructor
    · intro hs
      have : (Sum.inl s : Key) ∈ kv.map (·.1) := by rw [hns]; exact List.mem_map.mpr ⟨s, hs, rfl⟩
      obtain ⟨x, hx, e⟩ := List.mem_map.mp this
      exact hasK_mem ⟨x.2, by rw [← e]; exact hx⟩
    · intro hs
      obtain ⟨v, hv⟩ := mem_hasK hs
      have : (Sum.inl s : Key) ∈ kv.map (·.1) := List.mem_map.mpr ⟨_, hv, rfl⟩
      rw [hns] at this
      obtain ⟨x, hx, e⟩ := List.mem_map.mp this
      cases e
      exact hx
noncomputable def tCut (t u : TS) : TS := fun D σ H => ∃ R : St → Hp → Prop, t { D with nx := R } σ H ∧ ∀ σ H, R σ H → u D σ H
theorem pss_cut {X : Cx} {st : Stmt} {rest : List Stmt} {t u : TS} (h1 : PS X st t) (h2 : PSs X rest u) : PSs X (st :: rest) (tCut t u) := by
  intro pins s σ H D I h
  obtain ⟨R, h, hR⟩ := h
  refine wpAny_execs_cons (thn (h1 pins s σ H { D with nx := R } I h) fun f s1 q => ?_)
  cases f with
  | next =>
    obtain ⟨σ', H', I', q⟩ := q
    exact h2 pins s1 σ' H' D I' (hR _ _ q)
  | ret v => exact q
  | brk => exact q
  | cont => exact q
structure In15 (H : Hp) (t r : Addr) (ts : List (Int × Str)) (kvs : List (Key × V)) (rm : Str → List Int) (by' : Int) : Prop where
  te : TermsAt H t ts
  rd : H r = some (.dK kvs)
  ks : KeysAre kvs (ts.map (·.2))
  nd : (ts.map (·.2)).Nodup
  l6 : ts.length ≤ 6
  ne : ts ≠ []
  co : ∀ x ∈ ts, -1000000 ≤ x.1 ∧ x.1 ≤ 1000000
  rf : RoomsFor H kvs (ts.map (·.2)) rm
  gd : ∀ c ∈ ts.map (·.2), 1 ≤ (rm c).length ∧ (rm c).length ≤ 4 ∧ (rm c).Pairwise (· < ·) ∧ Even by' (rm c)
  pl : ∀ x ∈ kvs, plainV x.2 = true
theorem In15.but {d l t r : Addr} {H H' : Hp} {ts : List (Int × Str)} {kvs : List (Key × V)} {rm : Str → List Int} {by' : Int} (h : In15 H t r ts kvs rm by') (D : DealAt H d l) (nr : r ≠ d ∧ r ≠ l) (B : But d l H H') : In15 H' t r ts kvs rm by' :=
  ⟨h.te.keep (But.keepTI B D).tup, B _ _ nr.1 nr.2 h.rd, h.ks, h.nd, h.l6, h.ne, h.co, h.rf.same (But.keepTI B D).tup, h.gd, h.pl⟩
theorem In15.same {t r : Addr} {H H' : Hp} {ts : List (Int × Str)} {kvs : List (Key × V)} {rm : Str → List Int} {by' : Int} (h : In15 H t r ts kvs rm by') (B : Same H H') : In15 H' t r ts kvs rm by' :=
  ⟨h.te.keep fun a xs e => B _ _ e, B _ _ h.rd, h.ks, h.nd, h.l6, h.ne, h.co, h.rf.same fun a xs e => B _ _ e, h.gd, h.pl⟩
noncomputable def spSumR : Sp := fun vs H Q _ => ∃ (d l t r : Addr) (ts : List (Int × Str)) (kvs : List (Key × V)) (rm : Str → List Int) (by' : Int), vs = [.ref d, .ref t, .ref r, .int by'] ∧ DealAt H d l ∧ (r ≠ d ∧ r ≠ l) ∧ In15 H t r ts kvs rm by' ∧ 2 ≤ by' ∧ ∀ H', DealAt H' d l → But d l H H' → Q (.bl true) H'
theorem sum_rd {K : PySem.W.Frag} {d l t r : Addr} {ts : List (Int × Str)} {kvs : List (Key × V)} {rm : Str → List Int} {by' : Int} {H : Hp} {Q : VK} (D : DealAt H d l) (nr : r ≠ d ∧ r ≠ l) (I : In15 H t r ts kvs rm by')
    (k : ∀ (g : Str → Int) (p : Addr) (H' : Hp), okF rm (ts.map (·.2)) g → H' p = some (.lst ((ts.map fun x => x.1 * g x.2).map V.int)) → DealAt H' d l → But d l H H' → Q (.ref p) H') :
    spFilling [.ref d, .ref r] H (fun y H2 => ∃ d1, y = .ref d1 ∧ ∃ kv, H2 d1 = some (.dK kv) ∧ ∃ xs, H2 t = some (.tup xs) ∧ ∀ (o : Obj) (D : Addr), upd H2 d1 (.frz o (.dK kv)) D = none →
      CompG (Itzv K t d1 o kv) [none, none, none] (gTupT 2 (gCons (gTupT 2 (gCons (gName 0) (gCons (gName 1) gNil))) (gCons (gName 2) gNil))) tYes (tOp (rI CMul fun i j => V.int (i * j)) (tVarM 0) (tVarM 2)) Q (upd H2 d1 (.frz o (.dK kv))) D) E0 := by
  obtain ⟨as, hat, rfl, has⟩ := id I.te
  have hal : as.length ≤ 6 := by have := I.l6; simpa using this
  refine ⟨d, l, r, _, kvs, rm, rfl, D, nr, I.rd, I.ks, I.nd, by simp; omega, I.rf, fun c hc => ⟨(I.gd c hc).1, by have := (I.gd c hc).2.1; omega⟩, fun q g H2 fq h2 hok D2 B2 => ?_⟩
  have nq := D.ne fq
  have kt := (But.keepTI B2 D).tup
  refine ⟨q, rfl, _, h2, _, kt _ _ hat, fun o p hp => ?_⟩
  have pq : p ≠ q := fun e => by rw [e, upd_same] at hp; cases hp
  have hp2 : H2 p = none := by rwa [upd_ne pq] at hp
  have np := D2.ne hp2
  have tq : ∀ {b : Addr} {vs : List V}, H2 b = some (.tup vs) → upd H2 q (.frz o (.dK (fillK ((as.map (·.2)).map (·.2)) g))) b = some (.tup vs) := fun e => by rw [upd_ne (ne_of e h2 (by intro z; cases z))]; exact e
  have elen : (as.map fun x => V.ref x.1).length = as.length := by simp
  have flen : (fillK ((as.map (·.2)).map (·.2)) g).length = as.length := by simp [fillK]
  refine comp_zvg (xs := as.map fun x => V.ref x.1) (fun i ys H' => ys = ((as.take i).map fun x => x.2.1 * g x.2.2).map V.int ∧ H' p = some (.lst ys) ∧ (∀ b o', b ≠ p → upd H2 q (.frz o (.dK (fillK ((as.map (·.2)).map (·.2)) g))) b = some o' → H' b = some o'))
    ⟨by simp, upd_same, fun b o' hb e => by rw [upd_ne hb]; exact e⟩ (by rw [elen, flen]; exact Nat.le_refl _) (fun i ys H' zq46 => by obtain ⟨_, _, kk⟩ := zq46; exact (⟨.of (kk _ _ (ne_of_none (kt _ _ hat) hp2) (tq (kt _ _ hat))), kk q _ pq.symm upd_same⟩)) ?_ ?_
  · rintro i x y kx ys H' t' hx hy ⟨rfl, h', kk⟩ ht'
    obtain ⟨z, hz, rfl⟩ : ∃ z, as[i]? = some z ∧ V.ref z.1 = x := by
      rw [List.getElem?_map] at hx
      cases e : as[i]? with
      | none => rw [e] at hx; cases hx
      | some nm => rw [e] at hx; exact ⟨nm, rfl, Option.some.inj hx⟩
    have ey : y = .int (g z.2.2) := by
      unfold fillK at hy
      rw [List.getElem?_map, List.getElem?_map, List.getElem?_map, hz] at hy
      exact (congrArg Prod.snd (Option.some.inj hy)).symm
    subst ey
    have hzm : z ∈ as := List.mem_of_getElem? hz
    have h1 := has z hzm
    have h1' := kk _ _ (ne_of_none (kt _ _ h1) hp2) (tq (kt _ _ h1))
    have s1 : Same H' (upd H' t' (.tup [.ref z.1, .int (g z.2.2)])) := Same.upd0 ht'
    have h1s := s1 _ _ h1'
    have hps := s1 _ _ h'
    have hco := I.co z.2 (List.mem_map.mpr ⟨z, hzm, rfl⟩)
    have ett : upd H' t' (.tup [.ref z.1, .int (g z.2.2)]) t' = some (.tup [.ref z.1, .int (g z.2.2)]) := upd_same
    (try ctx_has vcx true_and ett h1s hps)
    refine ⟨.inl ⟨by omega, by omega⟩, by simp; exact small1000 (by omega), by rw [List.take_add_one, hz]; simp, upd_same, fun b o' hb e => ?_⟩
    rw [upd_ne hb]
    exact s1 _ _ (kk b o' hb e)
  · rintro ys H' ⟨rfl, h', kk⟩
    rw [elen, List.take_length] at h'
    have kk2 : ∀ b o', b ≠ q → H2 b = some o' → H' b = some o' := fun b o' hb e => kk b o' (ne_of_none e hp2) (by rw [upd_ne hb]; exact e)
    refine k g p H' hok (by rw [h', List.map_map, List.map_map, List.map_map]; rfl) ?_ fun b o' h1 h3 e => kk2 b o' (ne_of_none e fq) (B2 b o' h1 h3 e)
    obtain ⟨m, sd, n, xs, hd, hl, rr⟩ := D2.ex
    exact ⟨m, sd, n, xs, kk2 _ _ nq.1.symm hd, kk2 _ _ nq.2.symm hl, rr⟩
theorem make_rd {mg : Str → Option Value} {t : Addr} {lo hi : Option Int} {ts : List (Int × Str)} {H : Hp} {R : Addr → Hp → Prop} (hT : TermsAt H t ts) (k : ∀ x H', OB mg H' x (ts, lo, hi) (ts.map (·.2)) → Same H H' → R x H') :
    ∀ p, H p = none → ∀ x dx, upd H p (.tup [.str "sum", .ref t, bV lo, bV hi]) x = none → upd H p (.tup [.str "sum", .ref t, bV lo, bV hi]) dx = none → dx ≠ x →
      spInit mg [.ref x, .ref p] (upd (upd (upd H p (.tup [.str "sum", .ref t, bV lo, bV hi])) dx (.own x)) x (.ins (clsAt mg "Sum") dx [])) (fun v H2 => v = .non ∧ R x H2) E0 := by
  intro p hp x dx hx hdx hne
  have s1 : Same H (upd H p (.tup [.str "sum", .ref t, bV lo, bV hi])) := Same.upd0 hp
  have s2 : Same (upd H p (.tup [.str "sum", .ref t, bV lo, bV hi])) (upd (upd (upd H p (.tup [.str "sum", .ref t, bV lo, bV hi])) dx (.own x)) x (.ins (clsAt mg "Sum") dx [])) := (Same.upd0 hdx).upd_new (by rw [upd_ne hne.symm]; exact hx)
  refine ⟨x, dx, p, (ts, lo, hi), ts.map (·.2), rfl, upd_same, ⟨t, s2 _ _ upd_same, hT.keep fun a xs e => s2 _ _ (s1 _ _ e)⟩, fun H2 O2 b2 => ⟨rfl, k x H2 O2 fun b o e => b2 b o (ne_of_none (s1 _ _ e) hx) (s2 _ _ (s1 _ _ e))⟩⟩
theorem ask_in {mg : Str → Option Value} {t r x q : Addr} {lo hi : Option Int} {ts : List (Int × Str)} {kvs : List (Key × V)} {rm : Str → List Int} {by' : Int} {H : Hp} (I : In15 H t r ts kvs rm by') (O : OB mg H x (ts, lo, hi) (ts.map (·.2))) (hq : H q = none) : AskIn mg (upd H q (.dK kvs)) x q (ts, lo, hi) (ts.map (·.2)) kvs rm := by
  have s : Same H (upd H q (.dK kvs)) := Same.upd0 hq
  exact ⟨OB_keep O (Same.keepTI s), upd_same, I.rf.same fun a xs e => s _ _ e, ⟨rfl, fun e => I.ne (List.map_eq_nil_iff.mp e), I.co⟩, I.nd, by simpa using I.l6, fun c hc => ⟨(I.gd c hc).1, (I.gd c hc).2.1, pw_nodup (I.gd c hc).2.2.1⟩⟩
theorem keep_rd {mg : Str → Option Value} {t r x : Addr} {lo hi : Option Int} {ts : List (Int × Str)} {kvs : List (Key × V)} {rm : Str → List Int} {by' : Int} {H : Hp} {Q : VK} (I : In15 H t r ts kvs rm by') (O : OB mg H x (ts, lo, hi) (ts.map (·.2)))
    (k : ∀ (b : Bool) H', (b = true ↔ ∃ g, okF rm (ts.map (·.2)) g ∧ btwB (sumT ts g) lo hi = true) → Same H H' → Q (.bl b) H') (q : Addr) (hq : H q = none) : spMayKeep mg [.ref x, .ref q] (upd H q (.dK kvs)) Q E0 :=
  ⟨x, q, _, _, kvs, rm, rfl, ask_in I O hq, fun b H' hb s => k b H' hb ((Same.upd0 hq).trans s)⟩
theorem break_rd {mg : Str → Option Value} {t r x : Addr} {lo hi : Option Int} {ts : List (Int × Str)} {kvs : List (Key × V)} {rm : Str → List Int} {by' : Int} {H : Hp} {Q : VK} (I : In15 H t r ts kvs rm by') (O : OB mg H x (ts, lo, hi) (ts.map (·.2)))
    (k : ∀ (b : Bool) H', (b = true ↔ ∃ g, okF rm (ts.map (·.2)) g ∧ btwB (sumT ts g) lo hi = false) → Same H H' → Q (.bl b) H') (q : Addr) (hq : H q = none) : spMayBreak mg [.ref x, .ref q] (upd H q (.dK kvs)) Q E0 :=
  ⟨x, q, _, _, kvs, rm, rfl, ask_in I O hq, fun b H' hb s => k b H' hb ((Same.upd0 hq).trans s)⟩
theorem askK {mg : Str → Option Value} {t r x : Addr} {lo hi : Option Int} {ts : List (Int × Str)} {kvs : List (Key × V)} {rm : Str → List Int} {by' : Int} {H : Hp} {R : VK} (due : Bool) (I : In15 H t r ts kvs rm by') (O : OB mg H x (ts, lo, hi) (ts.map (·.2)))
    (hd : due = true ↔ ∃ g, okF rm (ts.map (·.2)) g ∧ btwB (sumT ts g) lo hi = true) (k : ∀ H', Same H H' → R (.bl true) H') :
    ∃ dx fs, H x = some (.ins (clsAt mg (Str.ofString "Sum")) dx fs) ∧ fs.lookup (Str.ofString "may_keep") = none ∧ ∃ kv, H r = some (.dK kv) ∧ ∀ q, H q = none → spMayKeep mg [.ref x, .ref q] (upd H q (.dK kv)) (fun z H1 => spIs [z, .bl due] H1 R E0) E0 := by
  obtain ⟨dx, fs, h1, h2, h3⟩ := OB_ins O
  refine ⟨dx, fs, h1, h2, kvs, I.rd, keep_rd I O fun b H' hb s => ⟨b, due, rfl, ?_⟩⟩
  rw [show b = due from Bool.eq_iff_iff.mpr (hb.trans hd.symm), beq_self_eq_true]
  exact k H' s
theorem askB {mg : Str → Option Value} {t r x : Addr} {lo hi : Option Int} {ts : List (Int × Str)} {kvs : List (Key × V)} {rm : Str → List Int} {by' : Int} {H : Hp} {R : VK} (due : Bool) (I : In15 H t r ts kvs rm by') (O : OB mg H x (ts, lo, hi) (ts.map (·.2)))
    (hd : due = true ↔ ∃ g, okF rm (ts.map (·.2)) g ∧ btwB (sumT ts g) lo hi = false) (k : ∀ H', Same H H' → R (.bl true) H') :
    ∃ dx fs, H x = some (.ins (clsAt mg (Str.ofString "Sum")) dx fs) ∧ fs.lookup (Str.ofString "may_break") = none ∧ ∃ kv, H r = some (.dK kv) ∧ ∀ q, H q = none → spMayBreak mg [.ref x, .ref q] (upd H q (.dK kv)) (fun z H1 => spIs [z, .bl due] H1 R E0) E0 := by
  obtain ⟨dx, fs, h1, h2, h3⟩ := OB_ins O
  refine ⟨dx, fs, h1, h3, kvs, I.rd, break_rd I O fun b H' hb s => ⟨b, due, rfl, ?_⟩⟩
  rw [show b = due from Bool.eq_iff_iff.mpr (hb.trans hd.symm), beq_self_eq_true]
  exact k H' s
theorem even_sum {by' : Int} {rm : Str → List Int} {g g' : Str → Int} : ∀ {ts : List (Int × Str)}, (∀ c ∈ ts.map (·.2), Even by' (rm c)) → okF rm (ts.map (·.2)) g → okF rm (ts.map (·.2)) g' → by' ∣ sumT ts g - sumT ts g'
  | [], _, _, _ => by simp [sumT]
  | (a, c) :: ts, he, h, h' => by
    have ih := even_sum (ts := ts) (fun x hx => he x (List.mem_cons_of_mem _ hx)) (fun x hx => h x (List.mem_cons_of_mem _ hx)) fun x hx => h' x (List.mem_cons_of_mem _ hx)
    have h1 := he c (by simp) _ (h c (by simp)) _ (h' c (by simp))
    rw [sumT_cons, sumT_cons, show a * g c + sumT ts g - (a * g' c + sumT ts g') = a * (g c - g' c) + (sumT ts g - sumT ts g') by rw [Int.mul_sub]; omega]
    exact Int.dvd_add (Int.dvd_mul_of_dvd_right h1) ih
noncomputable def spGapR : Sp := fun vs H Q _ => ∃ (d l t r : Addr) (ts : List (Int × Str)) (kvs : List (Key × V)) (rm : Str → List Int) (by' : Int), vs = [.ref d, .ref t, .ref r] ∧ DealAt H d l ∧ (r ≠ d ∧ r ≠ l) ∧ In15 H t r ts kvs rm by' ∧ 2 ≤ by' ∧ ∀ H', DealAt H' d l → But d l H H' → Q (.bl true) H'
theorem ok__law_sum_right   (T : Txt K mg) (L : FnL K mg "_law_sum_right" s__law_sum_right ["_law_deal_here", "_law_terms_here", "_law_rooms", "_law_by"]) (F_law_draw : Fn P w K mg base "_law_draw" 1 ["_law_deal_here", "_law_many"] (spDraw)) (F_law_filling : Fn P w K mg base "_law_filling" 2 ["_law_deal_here", "_law_rooms"] (spFilling)) (F_law_is : Fn P w K mg base "_law_is" 1 ["_law_found", "_law_due"] (spIs)) (FSum___init__ : FnR P w K mg base (Mk K (clsAt mg "Sum")) 2 ["self", "wish"] (spInit mg)) (FSum_may_keep : FnR P w K mg base (Meth K (clsAt mg "Sum") "may_keep") 5 ["self", "rooms"] (spMayKeep mg)) (FSum_may_break : FnR P w K mg base (Meth K (clsAt mg "Sum") "may_break") 4 ["self", "rooms"] (spMayBreak mg)) : Fn P w K mg base "_law_sum_right" 6 ["_law_deal_here", "_law_terms_here", "_law_rooms", "_law_by"] (spSumR) := by
  have nd := sc__law_sum_right.nd
  refine L.ok sc__law_sum_right (fun vs H Q E h => ?_) (fun f cdv A outer s H vs Q E hr h => ?_) <;> obtain ⟨d, l, t, r, ts, kvs, rm, by', rfl, D, nr, I, hb, k⟩ := h
  · rfl
  have hu := hu_of hr
  refine ⟨_, (pss_cons (ps_set (i := 4) nd rfl (by first | exact Or.inl rfl | exact Or.inr rfl) (pe_callB (call_sum_l rfl) rfl T.b_sum (show bootBuiltins "sum" = some (.builtin "sum") by decide +kernel) (pa_cons (pe_comp (N := ["_law_a", "_law_name", "_law_value"]) (nt := 3) (js := []) rfl (compOk_of ["_law_deal_here", "_law_terms_here", "_law_rooms", "_law_by", "_law_one", "_law_other", "_law_near", "_law_between", "_law_just", "_law_free"] (defScope s__law_sum_right).names rfl rfl rfl (by decide +kernel)) (pi_zipV (K := K) rfl rfl T.b_zip (pvM 1) (pe_callF F_law_filling (hr.mono (by first | decide | omega)) rfl (pa_cons (pvM 0) (pa_cons (pvM 2) pa_nil)))) (fun _ _ _ _ _ _ => (pg_tupT (n := 2) rfl (pgs_cons (pg_tupT (n := 2) rfl (pgs_cons (pg_name (i := 0) (show List.Nodup [("_law_a" : Str), ("_law_name" : Str), ("_law_value" : Str)] by decide +kernel) rfl (Or.inl rfl)) (pgs_cons (pg_name (i := 1) (show List.Nodup [("_law_a" : Str), ("_law_name" : Str), ("_law_value" : Str)] by decide +kernel) rfl (Or.inl rfl)) pgs_nil))) (pgs_cons (pg_name (i := 2) (show List.Nodup [("_law_a" : Str), ("_law_name" : Str), ("_law_value" : Str)] by decide +kernel) rfl (Or.inl rfl)) pgs_nil)))) tgOk_nest (fun _ _ _ _ _ _ => pts_nil) (fun _ _ _ _ _ _ => (pe_op op_mul (pvM 0) (pvM 2)))) pa_nil)))
    (pss_cons (ps_set (i := 5) nd rfl (by first | exact Or.inl rfl | exact Or.inr rfl) (pe_callB (call_sum_l rfl) rfl T.b_sum (show bootBuiltins "sum" = some (.builtin "sum") by decide +kernel) (pa_cons (pe_comp (N := ["_law_a", "_law_name", "_law_value"]) (nt := 3) (js := []) rfl (compOk_of ["_law_deal_here", "_law_terms_here", "_law_rooms", "_law_by", "_law_one", "_law_other", "_law_near", "_law_between", "_law_just", "_law_free"] (defScope s__law_sum_right).names rfl rfl rfl (by decide +kernel)) (pi_zipV (K := K) rfl rfl T.b_zip (pvM 1) (pe_callF F_law_filling (hr.mono (by first | decide | omega)) rfl (pa_cons (pvM 0) (pa_cons (pvM 2) pa_nil)))) (fun _ _ _ _ _ _ => (pg_tupT (n := 2) rfl (pgs_cons (pg_tupT (n := 2) rfl (pgs_cons (pg_name (i := 0) (show List.Nodup [("_law_a" : Str), ("_law_name" : Str), ("_law_value" : Str)] by decide +kernel) rfl (Or.inl rfl)) (pgs_cons (pg_name (i := 1) (show List.Nodup [("_law_a" : Str), ("_law_name" : Str), ("_law_value" : Str)] by decide +kernel) rfl (Or.inl rfl)) pgs_nil))) (pgs_cons (pg_name (i := 2) (show List.Nodup [("_law_a" : Str), ("_law_name" : Str), ("_law_value" : Str)] by decide +kernel) rfl (Or.inl rfl)) pgs_nil)))) tgOk_nest (fun _ _ _ _ _ _ => pts_nil) (fun _ _ _ _ _ _ => (pe_op op_mul (pvM 0) (pvM 2)))) pa_nil)))
    (pss_cons (ps_set (i := 6) nd rfl (by first | exact Or.inl rfl | exact Or.inr rfl) (pe_makeF FSum___init__ (hr.mono (by first | decide | omega)) rfl T.at_Sum (pa_cons (pe_tup (pa_cons pe_str (pa_cons (pvM 1) (pa_cons (pe_op op_sub (pvM 4) (pe_callF F_law_draw (hr.mono (by first | decide | omega)) rfl (pa_cons (pvM 0) (pa_cons pe_int pa_nil)))) (pa_cons (pe_ix ix_L (pe_lst (pa_cons (pvM 4) (pa_cons (pe_op op_add (pvM 4) (pe_callF F_law_draw (hr.mono (by first | decide | omega)) rfl (pa_cons (pvM 0) (pa_cons pe_int pa_nil)))) (pa_cons pe_non pa_nil)))) (pe_callF F_law_draw (hr.mono (by first | decide | omega)) rfl (pa_cons (pvM 0) (pa_cons pe_int pa_nil))) (fun _ _ => rfl)) pa_nil))))) pa_nil)))
    (pss_cons (ps_set (i := 7) nd rfl (by first | exact Or.inl rfl | exact Or.inr rfl) (pe_makeF FSum___init__ (hr.mono (by first | decide | omega)) rfl T.at_Sum (pa_cons (pe_tup (pa_cons pe_str (pa_cons (pvM 1) (pa_cons (pe_op op_add (pvM 4) pe_int) (pa_cons (pe_op op_sub (pe_op op_add (pvM 4) (pvM 3)) pe_int) pa_nil))))) pa_nil)))
    (pss_cons (ps_if (PW.pt (pw_or (pt_not (pt_val (pe_callF F_law_is (hr.mono (by first | decide | omega)) rfl (pa_cons (pe_methF T.cl_Sum FSum_may_keep (hr.mono (by first | decide | omega)) (pvM 6) (pa_cons (pe_callTy call_dictD rfl T.b_dict (show bootBuiltins "dict" = some (.type "dict") by decide +kernel) (pa_cons (pvM 2) pa_nil)) pa_nil)) (pa_cons pe_bl pa_nil))))) (pw_or1 (pt_not (pt_val (pe_callF F_law_is (hr.mono (by first | decide | omega)) rfl (pa_cons (pe_methF T.cl_Sum FSum_may_keep (hr.mono (by first | decide | omega)) (pvM 7) (pa_cons (pe_callTy call_dictD rfl T.b_dict (show bootBuiltins "dict" = some (.type "dict") by decide +kernel) (pa_cons (pvM 2) pa_nil)) pa_nil)) (pa_cons pe_bl pa_nil)))))))) (pss_one (ps_ret pe_bl)) pss_nil)
    (pss_cons (ps_if (pt_not (pt_val (pe_callF F_law_is (hr.mono (by first | decide | omega)) rfl (pa_cons (pe_methF T.cl_Sum FSum_may_break (hr.mono (by first | decide | omega)) (pvM 7) (pa_cons (pe_callTy call_dictD rfl T.b_dict (show bootBuiltins "dict" = some (.type "dict") by decide +kernel) (pa_cons (pvM 2) pa_nil)) pa_nil)) (pa_cons pe_bl pa_nil))))) (pss_one (ps_ret pe_bl)) pss_nil)
    (pss_cut (ps_if (pt_cmpR op_ne (pvM 5) (pvM 4) (nomark _)) (pss_cons (ps_set (i := 8) nd rfl (by first | exact Or.inl rfl | exact Or.inr rfl) (pe_makeF FSum___init__ (hr.mono (by first | decide | omega)) rfl T.at_Sum (pa_cons (pe_tup (pa_cons pe_str (pa_cons (pvM 1) (pa_cons (pvM 5) (pa_cons (pvM 5) pa_nil))))) pa_nil)))
    (pss_one (ps_if (PW.pt (pw_or (pt_not (pt_val (pe_callF F_law_is (hr.mono (by first | decide | omega)) rfl (pa_cons (pe_methF T.cl_Sum FSum_may_break (hr.mono (by first | decide | omega)) (pvM 8) (pa_cons (pe_callTy call_dictD rfl T.b_dict (show bootBuiltins "dict" = some (.type "dict") by decide +kernel) (pa_cons (pvM 2) pa_nil)) pa_nil)) (pa_cons pe_bl pa_nil))))) (pw_or1 (pt_not (pt_val (pe_callF F_law_is (hr.mono (by first | decide | omega)) rfl (pa_cons (pe_methF T.cl_Sum FSum_may_keep (hr.mono (by first | decide | omega)) (pvM 8) (pa_cons (pe_callTy call_dictD rfl T.b_dict (show bootBuiltins "dict" = some (.type "dict") by decide +kernel) (pa_cons (pvM 2) pa_nil)) pa_nil)) (pa_cons pe_bl pa_nil)))))))) (pss_one (ps_ret pe_bl)) pss_nil))) pss_nil)
    (pss_cons (ps_set (i := 9) nd rfl (by first | exact Or.inl rfl | exact Or.inr rfl) (pe_makeF FSum___init__ (hr.mono (by first | decide | omega)) rfl T.at_Sum (pa_cons (pe_tup (pa_cons pe_str (pa_cons (pvM 1) (pa_cons pe_non (pa_cons pe_non pa_nil))))) pa_nil)))
    (pss_cons (ps_if (PW.pt (pw_or (pt_not (pt_val (pe_callF F_law_is (hr.mono (by first | decide | omega)) rfl (pa_cons (pe_methF T.cl_Sum FSum_may_break (hr.mono (by first | decide | omega)) (pvM 9) (pa_cons (pe_callTy call_dictD rfl T.b_dict (show bootBuiltins "dict" = some (.type "dict") by decide +kernel) (pa_cons (pvM 2) pa_nil)) pa_nil)) (pa_cons pe_bl pa_nil))))) (pw_or1 (pt_not (pt_val (pe_callF F_law_is (hr.mono (by first | decide | omega)) rfl (pa_cons (pe_methF T.cl_Sum FSum_may_keep (hr.mono (by first | decide | omega)) (pvM 9) (pa_cons (pe_callTy call_dictD rfl T.b_dict (show bootBuiltins "dict" = some (.type "dict") by decide +kernel) (pa_cons (pvM 2) pa_nil)) pa_nil)) (pa_cons pe_bl pa_nil)))))))) (pss_one (ps_ret pe_bl)) pss_nil)
    (pss_one (ps_ret (pe_and (pe_methF T.cl_Sum FSum_may_keep (hr.mono (by first | decide | omega)) (pvM 6) (pa_cons (pe_callTy call_dictD rfl T.b_dict (show bootBuiltins "dict" = some (.type "dict") by decide +kernel) (pa_cons (pvM 2) pa_nil)) pa_nil)) (pe_one (pe_not (pe_methF T.cl_Sum FSum_may_keep (hr.mono (by first | decide | omega)) (pvM 7) (pa_cons (pe_callTy call_dictD rfl T.b_dict (show bootBuiltins "dict" = some (.type "dict") by decide +kernel) (pa_cons (pvM 2) pa_nil)) pa_nil)))))))))))))))), ?_⟩
  (try ctx_has vcx true_and iZV)
  refine sum_rd D nr I fun g p1 H1 hg h1 D1 B1 => ?_
  refine ⟨p1, rfl, _, .of h1, ?_⟩
  have I1 := I.but D nr B1
  refine sum_rd D1 nr I1 fun g' p2 H2 hg' h2 D2 B2 => ?_
  refine ⟨p2, rfl, _, .of h2, ?_⟩
  have I2 := I1.but D1 nr B2
  have e1 : (ts.map fun x => x.1 * g x.2).sum = sumT ts g := rfl
  have e2 : (ts.map fun x => x.1 * g' x.2).sum = sumT ts g' := rfl
  rw [e1, e2]
  refine draw_rd D2 (by decide) (by decide) fun r3 H3 r30 r31 D3 B3 => ?_
  (try ctx_has vcx true_and)
  refine draw_rd D3 (by decide) (by decide) fun r4 H4 r40 r41 D4 B4 => ?_
  refine ⟨r4, rfl, by decide, fun p5 hp5 => draw_of D4 hp5 (by decide) (by decide) rfl fun r5 v H5 hv5 e5 D5 B5 h5 => ?_⟩
  obtain ⟨hi1, rfl, hhi1⟩ : ∃ hi1 : Option Int, v = bV hi1 ∧ ∀ z ∈ hi1, sumT ts g ≤ z := by
    simp only [List.mem_cons, List.not_mem_nil, or_false] at hv5
    rcases hv5 with rfl | rfl | rfl
    · exact ⟨some _, rfl, fun z hz => by cases hz; omega⟩
    · exact ⟨some _, rfl, fun z hz => by cases hz; omega⟩
    · exact ⟨none, rfl, fun z hz => by cases hz⟩
  have B25 := (B3.trans B4).trans B5
  have I5 := I2.but D2 nr B25
  refine ⟨r5, rfl, _, h5, _, e5, by decide, make_rd (lo := some (sumT ts g - r3)) (hi := hi1) I5.te fun x1 H6 O6 s6 => ⟨by decide, make_rd (lo := some (sumT ts g + 1)) (hi := some (sumT ts g + by' - 1)) (I5.same s6).te fun x2 H7 O7 s7 => ?_⟩⟩
  have O67 := OB_keep O6 (Same.keepTI s7)
  have I7 := (I5.same s6).same s7
  have D7 := (D5.same s6).same s7
  have B7 := ((((B1.trans B2).trans B25).same s6).same s7)
  have hnear : ∃ g', okF rm (ts.map (·.2)) g' ∧ btwB (sumT ts g') (some (sumT ts g - r3)) hi1 = true := ⟨g, hg, by
    cases hi1 with
    | none => simp [btwB]; omega
    | some z => have := hhi1 z rfl; simp [btwB]; omega⟩
  have hbetw : ¬ ∃ g', okF rm (ts.map (·.2)) g' ∧ btwB (sumT ts g') (some (sumT ts g + 1)) (some (sumT ts g + by' - 1)) = true := fun ⟨g', hg', e⟩ => by
    have hd := even_sum (fun c hc => (I.gd c hc).2.2.2) hg' hg
    simp [btwB] at e
    have := Int.le_of_dvd (by omega) hd
    omega
  refine askK true I7 O67 ⟨fun _ => hnear, fun _ => rfl⟩ fun H8 s8 => ⟨true, rfl, ?_⟩
  rw [if_neg (by decide)]
  have I8 := I7.same s8
  have O78 := OB_keep O7 (Same.keepTI s8)
  refine askK false I8 O78 ⟨fun z => (by cases z), fun z => absurd z hbetw⟩ fun H9 s9 => ⟨true, rfl, ?_⟩
  rw [if_neg (by decide)]
  have I9 := I8.same s9
  have O79 := OB_keep O78 (Same.keepTI s9)
  refine askB true I9 O79 ⟨fun _ => ⟨g, hg, by simp [btwB]; omega⟩, fun _ => rfl⟩ fun H10 s10 => ⟨true, rfl, ?_⟩
  rw [if_neg (by decide)]
  have s810 := (s8.trans s9).trans s10
  have I10 := I9.same s10
  have D10 := D7.same s810
  have B10 := B7.same s810
  have O610 := OB_keep O67 (Same.keepTI s810)
  have O710 := OB_keep O79 (Same.keepTI s10)
  refine ⟨fun σ H' => ∃ v8 : Option V, σ = [some (.ref d), some (.ref t), some (.ref r), some (.int by'), some (.int (sumT ts g)), some (.int (sumT ts g')), some (.ref x1), some (.ref x2), v8, none] ∧ Same H10 H', ?_, ?_⟩
  · (try ctx_has vcx true_and)
    refine ite2 (fun hne => ?_) (fun _ => Same.refl _)
    have hne : sumT ts g' ≠ sumT ts g := by simpa using hne
    refine ⟨by decide, make_rd (lo := some (sumT ts g')) (hi := some (sumT ts g')) I10.te fun x3 H11 O11 s11 => ?_⟩
    refine askB true (I10.same s11) O11 ⟨fun _ => ⟨g, hg, by simp [btwB]; omega⟩, fun _ => rfl⟩ fun H12 s12 => ⟨true, rfl, ?_⟩
    rw [if_neg (by decide)]
    refine askK true ((I10.same s11).same s12) (OB_keep O11 (Same.keepTI s12)) ⟨fun _ => ⟨g', hg', by simp [btwB]⟩, fun _ => rfl⟩ fun H13 s13 => ⟨true, rfl, ?_⟩
    rw [if_neg (by decide)]
    exact (s11.trans s12).trans s13
  · rintro σ H11 ⟨v8, rfl, s11⟩
    (try ctx_has vcx true_and)
    have I11 := I10.same s11
    refine ⟨by decide, make_rd (lo := none) (hi := none) I11.te fun x3 H12 O12 s12 => ?_⟩
    refine askB false (I11.same s12) O12 ⟨fun z => (by cases z), fun zq47 => by obtain ⟨g', _, e⟩ := zq47; exact (by simp [btwB] at e)⟩ fun H13 s13 => ⟨true, rfl, ?_⟩
    rw [if_neg (by decide)]
    refine askK true ((I11.same s12).same s13) (OB_keep O12 (Same.keepTI s13)) ⟨fun _ => ⟨g, hg, by simp [btwB]⟩, fun _ => rfl⟩ fun H14 s14 => ⟨true, rfl, ?_⟩
    rw [if_neg (by decide)]
    have s1014 := ((s11.trans s12).trans s13).trans s14
    have I14 := I10.same s1014
    have O614 := OB_keep O610 (Same.keepTI s1014)
    have O714 := OB_keep O710 (Same.keepTI s1014)
    obtain ⟨dx, fs, f1, f2, _⟩ := OB_ins O614
    refine ⟨dx, fs, f1, f2, kvs, I14.rd, keep_rd I14 O614 fun b H15 hb15 s15 => ⟨b, rfl, ?_⟩⟩
    rw [if_pos (hb15.mpr hnear)]
    have O715 := OB_keep O714 (Same.keepTI s15)
    obtain ⟨dx', fs', f1', f2', _⟩ := OB_ins O715
    refine ⟨dx', fs', f1', f2', kvs, (I14.same s15).rd, keep_rd (I14.same s15) O715 fun b' H16 hb16 s16 => ⟨b', rfl, ?_⟩⟩
    have eb : b' = false := by
      cases b' with
      | false => rfl
      | true => exact absurd (hb16.mp rfl) hbetw
    rw [eb]
    have sA := (s1014.trans s15).trans s16
    exact k H16 (D10.same sA) (B10.same sA)
theorem ok__law_gap_right   (T : Txt K mg) (L : FnL K mg "_law_gap_right" s__law_gap_right ["_law_deal_here", "_law_terms_here", "_law_rooms"]) (F_law_draw : Fn P w K mg base "_law_draw" 1 ["_law_deal_here", "_law_many"] (spDraw)) (F_law_all_sums : Fn P w K mg base "_law_all_sums" 1 ["_law_terms_here", "_law_rooms"] (spAllSums)) (F_law_is : Fn P w K mg base "_law_is" 1 ["_law_found", "_law_due"] (spIs)) (FSum___init__ : FnR P w K mg base (Mk K (clsAt mg "Sum")) 2 ["self", "wish"] (spInit mg)) (FSum_may_keep : FnR P w K mg base (Meth K (clsAt mg "Sum") "may_keep") 5 ["self", "rooms"] (spMayKeep mg)) : Fn P w K mg base "_law_gap_right" 6 ["_law_deal_here", "_law_terms_here", "_law_rooms"] (spGapR) := by
  have nd := sc__law_gap_right.nd
  refine L.ok sc__law_gap_right (fun vs H Q E h => ?_) (fun f cdv A outer s H vs Q E hr h => ?_) <;> obtain ⟨d, l, t, r, ts, kvs, rm, by', rfl, D, nr, I, hb, k⟩ := h
  · rfl
  have hu := hu_of hr
  refine ⟨_, (pss_cons (ps_set (i := 3) nd rfl (by first | exact Or.inl rfl | exact Or.inr rfl) (pe_callF F_law_all_sums (hr.mono (by first | decide | omega)) rfl (pa_cons (pvM 1) (pa_cons (pvM 2) pa_nil))))
    (pss_cons (ps_set (i := 4) nd rfl (by first | exact Or.inl rfl | exact Or.inr rfl) (pe_callF F_law_draw (hr.mono (by first | decide | omega)) rfl (pa_cons (pvM 0) (pa_cons (pe_callB call_lenL rfl T.b_len PySem.boot_len (pa_cons (pvM 3) pa_nil)) pa_nil))))
    (pss_cons (ps_for PassesOwn.never rfl (pi_LK (K := K) rfl (pe_lst (pa_cons (pvM 4) (pa_cons (pe_op op_mod (pe_op op_add (pvM 4) pe_int) (pe_callB call_lenL rfl T.b_len PySem.boot_len (pa_cons (pvM 3) pa_nil))) pa_nil)))) (pg_name (i := 5) nd rfl (by first | exact Or.inl rfl | exact Or.inr rfl)) (pss_one (ps_if (pt_not (pt_val (pe_callF F_law_is (hr.mono (by first | decide | omega)) rfl (pa_cons (pe_methF T.cl_Sum FSum_may_keep (hr.mono (by first | decide | omega)) (pe_makeF FSum___init__ (hr.mono (by first | decide | omega)) rfl T.at_Sum (pa_cons (pe_tup (pa_cons pe_str (pa_cons (pvM 1) (pa_cons (pe_ix ix_L (pvM 3) (pvM 5) (fun _ _ => rfl)) (pa_cons (pe_ix ix_L (pvM 3) (pvM 5) (fun _ _ => rfl)) pa_nil))))) pa_nil)) (pa_cons (pe_callTy call_dictD rfl T.b_dict (show bootBuiltins "dict" = some (.type "dict") by decide +kernel) (pa_cons (pvM 2) pa_nil)) pa_nil)) (pa_cons pe_bl pa_nil))))) (pss_one (ps_ret pe_bl)) pss_nil)))
    (pss_cons (ps_if (pt_cmpR op_eq (pe_op op_add (pvM 4) pe_int) (pe_callB call_lenL rfl T.b_len PySem.boot_len (pa_cons (pvM 3) pa_nil)) (nomark _)) (pss_one (ps_ret (pe_callF F_law_is (hr.mono (by first | decide | omega)) rfl (pa_cons (pe_methF T.cl_Sum FSum_may_keep (hr.mono (by first | decide | omega)) (pe_makeF FSum___init__ (hr.mono (by first | decide | omega)) rfl T.at_Sum (pa_cons (pe_tup (pa_cons pe_str (pa_cons (pvM 1) (pa_cons (pe_op op_add (pe_ix ix_L (pvM 3) (pvM 4) (fun _ _ => rfl)) pe_int) (pa_cons (pe_op op_add (pe_ix ix_L (pvM 3) (pvM 4) (fun _ _ => rfl)) pe_int) pa_nil))))) pa_nil)) (pa_cons (pe_callTy call_dictD rfl T.b_dict (show bootBuiltins "dict" = some (.type "dict") by decide +kernel) (pa_cons (pvM 2) pa_nil)) pa_nil)) (pa_cons pe_bl pa_nil))))) pss_nil)
    (pss_cons (ps_set (i := 6) nd rfl (by first | exact Or.inl rfl | exact Or.inr rfl) (pe_makeF FSum___init__ (hr.mono (by first | decide | omega)) rfl T.at_Sum (pa_cons (pe_tup (pa_cons pe_str (pa_cons (pvM 1) (pa_cons (pe_op op_add (pe_ix ix_L (pvM 3) (pvM 4) (fun _ _ => rfl)) pe_int) (pa_cons (pe_op op_sub (pe_ix ix_L (pvM 3) (pe_op op_add (pvM 4) pe_int) (fun _ _ => rfl)) pe_int) pa_nil))))) pa_nil)))
    (pss_one (ps_ret (pe_callF F_law_is (hr.mono (by first | decide | omega)) rfl (pa_cons (pe_methF T.cl_Sum FSum_may_keep (hr.mono (by first | decide | omega)) (pvM 6) (pa_cons (pe_callTy call_dictD rfl T.b_dict (show bootBuiltins "dict" = some (.type "dict") by decide +kernel) (pa_cons (pvM 2) pa_nil)) pa_nil)) (pa_cons pe_bl pa_nil)))))))))), ?_⟩
  (try ctx_has vcx true_and)
  refine ⟨t, r, ts, kvs, rm, rfl, I.te, I.rd, I.rf, I.nd, I.l6, I.co, fun c hc => ⟨(I.gd c hc).1, (I.gd c hc).2.1⟩, fun q ms H1 fq h1 hpw hnd hl hiff s1 => ?_⟩
  have nq := D.ne fq
  have I1 := I.same s1
  have D1 := D.same s1
  have hpos : 0 < ms.length := by
    obtain ⟨g, hg⟩ := some_okF (rm := rm) (cs := ts.map (·.2)) fun c hc => (I.gd c hc).1
    exact List.length_pos_of_mem ((hiff _).mpr ⟨g, hg, rfl⟩)
  (try ctx_has vcx true_and h1)
  refine draw_rd D1 (by rw [List.length_map]; omega) (by rw [List.length_map]; omega) fun ra H2 r0 r1 D2 B2 => ?_
  rw [List.length_map] at r1
  have h2 := B2 q _ nq.1 nq.2 h1
  have I2 := I1.but D1 nr B2
  (try ctx_has vcx true_and h2)
  rw [List.length_map]
  refine ⟨by omega, by decide, fun pl hpl => ⟨_, upd_same, ?_⟩⟩
  have s3 : Same H2 (upd H2 pl (.lst [.int ra, .int ((ra + 1) % (ms.length : Int))])) := Same.upd0 hpl
  have h3l : upd H2 pl (.lst [.int ra, .int ((ra + 1) % (ms.length : Int))]) pl = some (.lst [.int ra, .int ((ra + 1) % (ms.length : Int))]) := upd_same
  have m0 := Int.emod_nonneg (ra + 1) (show (ms.length : Int) ≠ 0 by omega)
  have m1 := Int.emod_lt_of_pos (ra + 1) (show (0 : Int) < (ms.length : Int) by omega)
  generalize upd H2 pl (.lst [.int ra, .int ((ra + 1) % (ms.length : Int))]) = H3 at s3 h3l ⊢
  generalize (ra + 1) % (ms.length : Int) = rb at m0 m1 h3l
  have hat : ∀ i : Int, 0 ≤ i → i < (ms.length : Int) → ∃ v : Int, atI (ms.map V.int) i = some (.int v) ∧ ms[i.toNat]? = some v := fun i i0 i1 => by
    obtain ⟨n, rfl⟩ := Int.eq_ofNat_of_zero_le i0
    have hn : n < ms.length := by omega
    exact ⟨ms[n], atI_nat (by simp [hn]), by simp [hn]⟩
  have I3 := I2.same s3
  have h3 := s3 _ _ h2
  refine for_g wlk_list (fun i σ H' => ∃ v5 : Option V, σ = [some (.ref d), some (.ref t), some (.ref r), some (.ref q), some (.int ra), v5, none] ∧ Same H3 H') ⟨_, rfl, Same.refl _⟩ (fun i σ H' zq48 => by obtain ⟨_, _, s⟩ := zq48; exact (.of (s _ _ h3l))) ?_ ?_
  · rintro i x σ H4 hi hx ⟨v5, rfl, s4⟩
    obtain ⟨z, rfl, z0, z1⟩ : ∃ z : Int, x = .int z ∧ 0 ≤ z ∧ z < (ms.length : Int) := by
      have := List.mem_of_getElem? hx
      simp only [List.mem_cons, List.not_mem_nil, or_false] at this
      rcases this with rfl | rfl
      · exact ⟨ra, rfl, r0, r1⟩
      · exact ⟨rb, rfl, m0, m1⟩
    obtain ⟨v, ev, ev2⟩ := hat z z0 z1
    have h4 := s4 _ _ h3
    have I4 := I3.same s4
    (try ctx_has vcx true_and h4 ev)
    refine ⟨by decide, make_rd (lo := some v) (hi := some v) I4.te fun x1 H5 O5 s5 => ?_⟩
    refine askK true (I4.same s5) O5 ⟨fun _ => ?_, fun _ => rfl⟩ fun H6 s6 => ⟨true, rfl, ?_⟩
    · obtain ⟨g, hg, e⟩ := (hiff v).mp (List.mem_of_getElem? ev2)
      exact ⟨g, hg, by rw [e]; simp [btwB]⟩
    · rw [if_neg (by decide)]
      exact (s4.trans s5).trans s6
  · rintro σ H4 ⟨v5, rfl, s4⟩
    have h4 := s4 _ _ h3
    have I4 := I3.same s4
    obtain ⟨v, ev, ev2⟩ := hat ra r0 r1
    have D4 := (D2.same s3).same s4
    have B4 := (((Same.upd_but (d := d) (l := l) s1).trans B2).same s3).same s4
    have low : ∀ (j : Nat) x, ms[j]? = some x → j ≤ ra.toNat → x ≤ v := fun j x hx hj => by
      by_cases e : j = ra.toNat
      · subst e; rw [ev2] at hx; cases hx; exact Int.le_refl _
      · obtain ⟨hj1, e1⟩ := List.getElem?_eq_some_iff.mp hx
        obtain ⟨hj2, e2⟩ := List.getElem?_eq_some_iff.mp ev2
        rw [← e1, ← e2]
        exact List.pairwise_iff_getElem.mp hpw _ _ hj1 hj2 (by omega)
    (try ctx_has vcx true_and h4 ev)
    rw [List.length_map]
    refine ite2 (fun hlast => ?_) (fun hlast => ?_)
    · have hlast : ra + 1 = (ms.length : Int) := by simpa using hlast
      refine ⟨by decide, make_rd (lo := some (v + 1)) (hi := some (v + 9)) I4.te fun x1 H5 O5 s5 => ?_⟩
      refine askK false (I4.same s5) O5 ⟨fun z => (by cases z), fun zr9290 => ?_⟩ fun H6 s6 => k H6 ((D4.same s5).same s6) ((B4.same s5).same s6)
      obtain ⟨g, hg, e⟩ := zr9290
      obtain ⟨j, hj, ej⟩ := List.getElem_of_mem ((hiff _).mpr ⟨g, hg, rfl⟩)
      have := low j _ (by rw [List.getElem?_eq_getElem hj, ej]) (by omega)
      simp [btwB] at e
      omega
    · have hlast : ra + 1 ≠ (ms.length : Int) := by simpa using hlast
      obtain ⟨u, eu, eu2⟩ := hat (ra + 1) (by omega) (by omega)
      (try ctx_has vcx true_and h4 ev eu)
      refine ⟨by decide, make_rd (lo := some (v + 1)) (hi := some (u - 1)) I4.te fun x1 H5 O5 s5 => ?_⟩
      refine askK false (I4.same s5) O5 ⟨fun z => (by cases z), fun zr9299 => ?_⟩ fun H6 s6 => k H6 ((D4.same s5).same s6) ((B4.same s5).same s6)
      obtain ⟨g, hg, e⟩ := zr9299
      obtain ⟨j, hj, ej⟩ := List.getElem_of_mem ((hiff _).mpr ⟨g, hg, rfl⟩)
      simp [btwB] at e
      by_cases hle : j ≤ ra.toNat
      · have := low j _ (by rw [List.getElem?_eq_getElem hj, ej]) hle
        omega
      · obtain ⟨hj2, e2⟩ := List.getElem?_eq_some_iff.mp eu2
        by_cases e3 : j = (ra + 1).toNat
        · subst e3; rw [e2] at ej; omega
        · have := List.pairwise_iff_getElem.mp hpw _ _ hj2 hj (by omega)
          rw [e2, ej] at this
          omega
noncomputable def cntN (av : List Int) (cs : List Str) (g : Str → Int) : Nat := (cs.filter fun c => decide (g c ∈ av)).length
theorem cnt_bounds {av : List Int} {rm : Str → List Int} {g : Str → Int} : ∀ {cs : List Str}, okF rm cs g → fewN av rm cs ≤ cntN av cs g ∧ cntN av cs g ≤ mostN av rm cs
  | [], _ => ⟨Nat.le_refl _, Nat.le_refl _⟩
  | c :: cs, h => by
    have ih := cnt_bounds (av := av) (cs := cs) fun x hx => h x (by simp [hx])
    have hc := h c (by simp)
    unfold fewN cntN mostN at *
    rw [List.filter_cons, List.filter_cons, List.filter_cons]
    by_cases hg : g c ∈ av
    · have h3 : (rm c).any (fun v => decide (v ∈ av)) = true := List.any_eq_true.mpr ⟨g c, hc, by simp [hg]⟩
      rw [if_pos h3, if_pos (decide_eq_true hg)]
      split <;> (try simp only [List.length_cons]) <;> omega
    · have h3 : ¬ ((rm c).all (fun v => decide (v ∈ av)) = true) := fun z => hg (by simpa using List.all_eq_true.mp z (g c) hc)
      rw [if_neg h3, if_neg (by simpa using hg)]
      split <;> (try simp only [List.length_cons]) <;> omega
theorem few_le_most {av : List Int} {rm : Str → List Int} : ∀ {cs : List Str}, (∀ c ∈ cs, 1 ≤ (rm c).length) → fewN av rm cs ≤ mostN av rm cs
  | [], _ => Nat.le_refl _
  | c :: cs, h => by
    have ih := few_le_most (av := av) (rm := rm) (cs := cs) fun x hx => h x (by simp [hx])
    have hc := h c (by simp)
    unfold fewN mostN at *
    rw [List.filter_cons, List.filter_cons]
    by_cases h1 : (rm c).all (fun v => decide (v ∈ av)) = true
    · have h3 : (rm c).any (fun v => decide (v ∈ av)) = true := by
        cases e : rm c with
        | nil => rw [e] at hc; simp at hc
        | cons a b => rw [e] at h1; simp at h1 ⊢; exact .inl h1.1
      rw [if_pos h1, if_pos h3]; simp; exact ih
    · rw [if_neg h1]
      split <;> (try simp only [List.length_cons]) <;> omega
structure InM (H : Hp) (a r : Addr) (ws : List Str) (kvs : List (Key × V)) (rm : Str → List Int) : Prop where
  ha : H a = some (.lst (ws.map V.str))
  rd : H r = some (.dK kvs)
  ks : KeysAre kvs ws
  nd : ws.Nodup
  l12 : ws.length ≤ 12
  rf : RoomsFor H kvs ws rm
  gd : ∀ c ∈ ws, 1 ≤ (rm c).length ∧ (rm c).length ≤ 10
  pl : ∀ x ∈ kvs, plainV x.2 = true
theorem InM.but {d l a r : Addr} {H H' : Hp} {ws : List Str} {kvs : List (Key × V)} {rm : Str → List Int} (h : InM H a r ws kvs rm) (D : DealAt H d l) (na : a ≠ d ∧ a ≠ l) (nr : r ≠ d ∧ r ≠ l) (B : But d l H H') : InM H' a r ws kvs rm :=
  ⟨B _ _ na.1 na.2 h.ha, B _ _ nr.1 nr.2 h.rd, h.ks, h.nd, h.l12, h.rf.same (But.keepTI B D).tup, h.gd, h.pl⟩
theorem InM.same {a r : Addr} {H H' : Hp} {ws : List Str} {kvs : List (Key × V)} {rm : Str → List Int} (h : InM H a r ws kvs rm) (B : Same H H') : InM H' a r ws kvs rm :=
  ⟨B _ _ h.ha, B _ _ h.rd, h.ks, h.nd, h.l12, h.rf.same fun a xs e => B _ _ e, h.gd, h.pl⟩
theorem makeM_rd {mg : Str → Option Value} {va ce : Addr} {lo hi : Int} {H : Hp} {R : Addr → Hp → Prop} (k : ∀ x H', ManyAt mg H' x (.ref va) (.ref ce) lo hi → Same H H' → R x H') :
    ∀ p, H p = none → ∀ x dx, upd H p (.tup [.str "many", .ref va, .ref ce, .int lo, .int hi]) x = none → upd H p (.tup [.str "many", .ref va, .ref ce, .int lo, .int hi]) dx = none → dx ≠ x →
      spMInit mg [.ref x, .ref p] (upd (upd (upd H p (.tup [.str "many", .ref va, .ref ce, .int lo, .int hi])) dx (.own x)) x (.ins (clsAt mg "Many") dx [])) (fun v H2 => v = .non ∧ R x H2) E0 := by
  intro p hp x dx hx hdx hne
  have s1 : Same H (upd H p (.tup [.str "many", .ref va, .ref ce, .int lo, .int hi])) := Same.upd0 hp
  have s2 : Same (upd H p (.tup [.str "many", .ref va, .ref ce, .int lo, .int hi])) (upd (upd (upd H p (.tup [.str "many", .ref va, .ref ce, .int lo, .int hi])) dx (.own x)) x (.ins (clsAt mg "Many") dx [])) := (Same.upd0 hdx).upd_new (by rw [upd_ne hne.symm]; exact hx)
  exact ⟨x, dx, p, _, _, lo, hi, rfl, upd_same, s2 _ _ upd_same, fun H2 O2 b2 => ⟨rfl, k x H2 O2 fun b o e => b2 b o (ne_of_none (s1 _ _ e) hx) (s2 _ _ (s1 _ _ e))⟩⟩
theorem many_in {mg : Str → Option Value} {a r va ce x q : Addr} {lo hi : Int} {av : List Int} {ws : List Str} {kvs : List (Key × V)} {rm : Str → List Int} {H : Hp} (I : InM H a r ws kvs rm) (hva : H va = some (.tup (av.map V.int))) (hce : H ce = some (.tup (ws.map V.str))) (hl : av.length ≤ 12) (M : ManyAt mg H x (.ref va) (.ref ce) lo hi) (hq : H q = none) : ManyIn mg (upd H q (.dK kvs)) x q av ws lo hi kvs rm := by
  have s : Same H (upd H q (.dK kvs)) := Same.upd0 hq
  exact ⟨⟨va, ce, M.same s, s _ _ hva, s _ _ hce⟩, upd_same, I.rf.same fun a xs e => s _ _ e, by omega, by have := I.l12; omega, fun c hc => by have := (I.gd c hc).2; omega⟩
theorem askMK {mg : Str → Option Value} {a r va ce x : Addr} {lo hi : Int} {av : List Int} {ws : List Str} {kvs : List (Key × V)} {rm : Str → List Int} {H : Hp} {R : VK} (I : InM H a r ws kvs rm) (hva : H va = some (.tup (av.map V.int))) (hce : H ce = some (.tup (ws.map V.str))) (hl : av.length ≤ 12) (M : ManyAt mg H x (.ref va) (.ref ce) lo hi)
    (k : ∀ H', Same H H' → R (.bl (mayKeepB lo hi (fewN av rm ws) (mostN av rm ws))) H') :
    ∃ dx fs, H x = some (.ins (clsAt mg (Str.ofString "Many")) dx fs) ∧ fs.lookup (Str.ofString "may_keep") = none ∧ ∃ kv, H r = some (.dK kv) ∧ ∀ q, H q = none → spMMayKeep mg [.ref x, .ref q] (upd H q (.dK kv)) R E0 := by
  obtain ⟨dx, fs, h1, _, _, _, _, _, _, h2, h3⟩ := M.ex
  exact ⟨dx, fs, h1, h2, kvs, I.rd, fun q hq => ⟨x, q, av, ws, lo, hi, kvs, rm, rfl, many_in I hva hce hl M hq, fun H' s => k H' ((Same.upd0 hq).trans s)⟩⟩
theorem askMB {mg : Str → Option Value} {a r va ce x : Addr} {lo hi : Int} {av : List Int} {ws : List Str} {kvs : List (Key × V)} {rm : Str → List Int} {H : Hp} {R : VK} (I : InM H a r ws kvs rm) (hva : H va = some (.tup (av.map V.int))) (hce : H ce = some (.tup (ws.map V.str))) (hl : av.length ≤ 12) (M : ManyAt mg H x (.ref va) (.ref ce) lo hi)
    (k : ∀ H', Same H H' → R (.bl (mayBreakB lo hi (fewN av rm ws) (mostN av rm ws))) H') :
    ∃ dx fs, H x = some (.ins (clsAt mg (Str.ofString "Many")) dx fs) ∧ fs.lookup (Str.ofString "may_break") = none ∧ ∃ kv, H r = some (.dK kv) ∧ ∀ q, H q = none → spMMayBreak mg [.ref x, .ref q] (upd H q (.dK kv)) R E0 := by
  obtain ⟨dx, fs, h1, _, _, _, _, _, _, h2, h3⟩ := M.ex
  exact ⟨dx, fs, h1, h3, kvs, I.rd, fun q hq => ⟨x, q, av, ws, lo, hi, kvs, rm, rfl, many_in I hva hce hl M hq, fun H' s => k H' ((Same.upd0 hq).trans s)⟩⟩
theorem filt_len {ws : List Str} (p : Str → Bool) : ((ws.map V.str).filter fun v => match v with | .str c => p c | _ => false).length = (ws.filter p).length := by
  rw [List.filter_map, List.length_map]; rfl
theorem filtI_len {vs : List Int} (p : Int → Bool) : ((vs.map V.int).filter fun v => match v with | .int c => p c | _ => false).length = (vs.filter p).length := by
  rw [List.filter_map, List.length_map]; rfl
theorem none_len {vs av : List Int} : decide (((List.map id ((vs.map V.int).filter fun v => match v with | .int i => !decide (i ∈ av) | _ => false)).length : Int) = 0) = vs.all fun x => decide (x ∈ av) := by
  rw [List.map_id, filtI_len fun i => !decide (i ∈ av), Bool.eq_iff_iff, decide_eq_true_eq, List.all_eq_true]
  constructor
  · intro h x hx
    have := List.filter_eq_nil_iff.mp (List.length_eq_zero_iff.mp (show (vs.filter fun i => !decide (i ∈ av)).length = 0 by omega)) x hx
    simpa using this
  · intro h
    rw [List.filter_eq_nil_iff.mpr fun x hx => by simpa using h x hx]
    rfl
theorem some_len {vs av : List Int} : decide (0 < ((List.map id ((vs.map V.int).filter fun v => match v with | .int i => decide (i ∈ av) | _ => false)).length : Int)) = vs.any fun x => decide (x ∈ av) := by
  rw [List.map_id, filtI_len fun i => decide (i ∈ av), Bool.eq_iff_iff, decide_eq_true_eq, List.any_eq_true]
  constructor
  · intro h
    obtain ⟨x, hx⟩ := List.exists_mem_of_length_pos (show 0 < (vs.filter fun i => decide (i ∈ av)).length by omega)
    exact ⟨x, (List.mem_filter.mp hx).1, (List.mem_filter.mp hx).2⟩
  · rintro ⟨x, h1, h2⟩
    have := List.length_pos_of_mem (show x ∈ vs.filter fun i => decide (i ∈ av) from List.mem_filter.mpr ⟨h1, h2⟩)
    omega
noncomputable def spCntR : Sp := fun vs H Q _ => ∃ (d l a r : Addr) (ws : List Str) (kvs : List (Key × V)) (rm : Str → List Int), vs = [.ref d, .ref a, .ref r] ∧ DealAt H d l ∧ (a ≠ d ∧ a ≠ l) ∧ (r ≠ d ∧ r ≠ l) ∧ InM H a r ws kvs rm ∧ ∀ H', Q (.bl true) H'
theorem ok__law_count_right   (T : Txt K mg) (L : FnL K mg "_law_count_right" s__law_count_right ["_law_deal_here", "_law_names_here", "_law_rooms"]) (F_law_draw : Fn P w K mg base "_law_draw" 1 ["_law_deal_here", "_law_many"] (spDraw)) (F_law_filling : Fn P w K mg base "_law_filling" 2 ["_law_deal_here", "_law_rooms"] (spFilling)) (F_law_is : Fn P w K mg base "_law_is" 1 ["_law_found", "_law_due"] (spIs)) (FMany___init__ : FnR P w K mg base (Mk K (clsAt mg "Many")) 2 ["self", "wish"] (spMInit mg)) (FMany_may_keep : FnR P w K mg base (Meth K (clsAt mg "Many") "may_keep") 2 ["self", "rooms"] (spMMayKeep mg)) (FMany_may_break : FnR P w K mg base (Meth K (clsAt mg "Many") "may_break") 2 ["self", "rooms"] (spMMayBreak mg)) : Fn P w K mg base "_law_count_right" 6 ["_law_deal_here", "_law_names_here", "_law_rooms"] (spCntR) := by
  have nd := sc__law_count_right.nd
  refine L.ok sc__law_count_right (fun vs H Q E h => ?_) (fun f cdv A outer s H vs Q E hr h => ?_) <;> obtain ⟨d, l, a, r, ws, kvs, rm, rfl, D, na, nr, I, k⟩ := h
  · rfl
  have hu := hu_of hr
  refine ⟨_, (pss_cons (ps_set (i := 3) nd rfl (by first | exact Or.inl rfl | exact Or.inr rfl) (pe_callTy call_tupL rfl T.b_tuple (show bootBuiltins "tuple" = some (.type "tuple") by decide +kernel) (pa_cons (pe_slice sl_L (pe_comp (N := ["_law_value", "_law_deal_here"]) (nt := 1) (js := [0]) rfl (compOk_of ["_law_deal_here", "_law_names_here", "_law_rooms", "_law_values", "_law_filling_here", "_law_count", "_law_low", "_law_near", "_law_least", "_law_most", "_law_thing", "_law_whole"] (defScope s__law_count_right).names rfl rfl rfl (by decide +kernel)) (pi_range2 rfl T.b_range (pa_cons (pe_un un_neg pe_int) (pa_cons pe_int pa_nil))) (fun _ _ _ _ _ _ => (pg_name (i := 0) (show List.Nodup [("_law_value" : Str), ("_law_deal_here" : Str)] by decide +kernel) rfl (Or.inl rfl))) (tgOk_name (by decide)) (fun _ _ _ _ _ _ => pts_one (pt_cmpR op_eq (pe_callF F_law_draw (hr.mono (by first | decide | omega)) rfl (pa_cons (pvM 1) (pa_cons pe_int pa_nil))) pe_int (nomark _))) (fun _ _ _ _ _ _ => (pvM 0))) po_none (po_some pe_int)) pa_nil)))
    (pss_cons (ps_set (i := 4) nd rfl (by first | exact Or.inl rfl | exact Or.inr rfl) (pe_callF F_law_filling (hr.mono (by first | decide | omega)) rfl (pa_cons (pvM 0) (pa_cons (pvM 2) pa_nil))))
    (pss_cons (ps_set (i := 5) nd rfl (by first | exact Or.inl rfl | exact Or.inr rfl) (pe_callB call_lenL rfl T.b_len PySem.boot_len (pa_cons (pe_comp (N := ["_law_name", "_law_filling_here", "_law_values"]) (nt := 1) (js := [4, 3]) rfl (compOk_of ["_law_deal_here", "_law_names_here", "_law_rooms", "_law_values", "_law_filling_here", "_law_count", "_law_low", "_law_near", "_law_least", "_law_most", "_law_thing", "_law_whole"] (defScope s__law_count_right).names rfl rfl rfl (by decide +kernel)) (pi_LK (K := K) rfl (pvM 1)) (fun _ _ _ _ _ _ => (pg_name (i := 0) (show List.Nodup [("_law_name" : Str), ("_law_filling_here" : Str), ("_law_values" : Str)] by decide +kernel) rfl (Or.inl rfl))) (tgOk_name (by decide)) (fun _ _ _ _ _ _ => pts_one (pt_cmpR op_inT (pe_dg hu (pvM 1) (pvM 0) (fun _ _ => rfl)) (pvM 2) (by with_unfolding_all rfl))) (fun _ _ _ _ _ _ => (pvM 0))) pa_nil)))
    (pss_cons (ps_set (i := 6) nd rfl (by first | exact Or.inl rfl | exact Or.inr rfl) (pe_callB (call_max2 rfl) rfl T.b_max (show bootBuiltins "max" = some (.builtin "max") by decide +kernel) (pa_cons pe_int (pa_cons (pe_op op_sub (pvM 5) (pe_callF F_law_draw (hr.mono (by first | decide | omega)) rfl (pa_cons (pvM 0) (pa_cons pe_int pa_nil)))) pa_nil))))
    (pss_cons (ps_set (i := 7) nd rfl (by first | exact Or.inl rfl | exact Or.inr rfl) (pe_makeF FMany___init__ (hr.mono (by first | decide | omega)) rfl T.at_Many (pa_cons (pe_tup (pa_cons pe_str (pa_cons (pvM 3) (pa_cons (pe_callTy call_tupL rfl T.b_tuple (show bootBuiltins "tuple" = some (.type "tuple") by decide +kernel) (pa_cons (pvM 1) pa_nil)) (pa_cons (pvM 6) (pa_cons (pe_op op_add (pvM 5) (pe_callF F_law_draw (hr.mono (by first | decide | omega)) rfl (pa_cons (pvM 0) (pa_cons pe_int pa_nil)))) pa_nil)))))) pa_nil)))
    (pss_cons (ps_if (pt_not (pt_val (pe_callF F_law_is (hr.mono (by first | decide | omega)) rfl (pa_cons (pe_methF T.cl_Many FMany_may_keep (hr.mono (by first | decide | omega)) (pvM 7) (pa_cons (pe_callTy call_dictD rfl T.b_dict (show bootBuiltins "dict" = some (.type "dict") by decide +kernel) (pa_cons (pvM 2) pa_nil)) pa_nil)) (pa_cons pe_bl pa_nil))))) (pss_one (ps_ret pe_bl)) pss_nil)
    (pss_cons (ps_set (i := 8) nd rfl (by first | exact Or.inl rfl | exact Or.inr rfl) (pe_callB call_lenL rfl T.b_len PySem.boot_len (pa_cons (pe_comp (N := ["_law_name", "_law_rooms", "_law_values"]) (nt := 1) (js := [2, 3]) rfl (compOk_of ["_law_deal_here", "_law_names_here", "_law_rooms", "_law_values", "_law_filling_here", "_law_count", "_law_low", "_law_near", "_law_least", "_law_most", "_law_thing", "_law_whole"] (defScope s__law_count_right).names rfl rfl rfl (by decide +kernel)) (pi_LK (K := K) rfl (pvM 1)) (fun _ _ _ _ _ _ => (pg_name (i := 0) (show List.Nodup [("_law_name" : Str), ("_law_rooms" : Str), ("_law_values" : Str)] by decide +kernel) rfl (Or.inl rfl))) (tgOk_name (by decide)) (fun _ _ _ _ _ _ => pts_one (pt_cmpR op_eq (pe_callB call_lenL rfl T.b_len PySem.boot_len (pa_cons (pe_comp (N := ["_law_one", "_law_values"]) (nt := 1) (js := [2]) rfl (compOk_of ["_law_name", "_law_rooms", "_law_values"] (relN (defScope s__law_count_right).kind (defScope s__law_count_right).names _) rfl rfl rfl (by decide +kernel)) (pi_TK (K := K) rfl (pe_dg hu (pvM 1) (pvM 0) (fun _ _ => rfl))) (fun _ _ _ _ _ _ => (pg_name (i := 0) (show List.Nodup [("_law_one" : Str), ("_law_values" : Str)] by decide +kernel) rfl (Or.inl rfl))) (tgOk_name (by decide)) (fun _ _ _ _ _ _ => pts_one (pt_cmpR op_notInT (pvM 0) (pvM 1) (by with_unfolding_all rfl))) (fun _ _ _ _ _ _ => (pvM 0))) pa_nil)) pe_int (nomark _))) (fun _ _ _ _ _ _ => (pvM 0))) pa_nil)))
    (pss_cons (ps_set (i := 9) nd rfl (by first | exact Or.inl rfl | exact Or.inr rfl) (pe_callB call_lenL rfl T.b_len PySem.boot_len (pa_cons (pe_comp (N := ["_law_name", "_law_rooms", "_law_values"]) (nt := 1) (js := [2, 3]) rfl (compOk_of ["_law_deal_here", "_law_names_here", "_law_rooms", "_law_values", "_law_filling_here", "_law_count", "_law_low", "_law_near", "_law_least", "_law_most", "_law_thing", "_law_whole"] (defScope s__law_count_right).names rfl rfl rfl (by decide +kernel)) (pi_LK (K := K) rfl (pvM 1)) (fun _ _ _ _ _ _ => (pg_name (i := 0) (show List.Nodup [("_law_name" : Str), ("_law_rooms" : Str), ("_law_values" : Str)] by decide +kernel) rfl (Or.inl rfl))) (tgOk_name (by decide)) (fun _ _ _ _ _ _ => pts_one (pt_cmpR op_gt (pe_callB call_lenL rfl T.b_len PySem.boot_len (pa_cons (pe_comp (N := ["_law_one", "_law_values"]) (nt := 1) (js := [2]) rfl (compOk_of ["_law_name", "_law_rooms", "_law_values"] (relN (defScope s__law_count_right).kind (defScope s__law_count_right).names _) rfl rfl rfl (by decide +kernel)) (pi_TK (K := K) rfl (pe_dg hu (pvM 1) (pvM 0) (fun _ _ => rfl))) (fun _ _ _ _ _ _ => (pg_name (i := 0) (show List.Nodup [("_law_one" : Str), ("_law_values" : Str)] by decide +kernel) rfl (Or.inl rfl))) (tgOk_name (by decide)) (fun _ _ _ _ _ _ => pts_one (pt_cmpR op_inT (pvM 0) (pvM 1) (by with_unfolding_all rfl))) (fun _ _ _ _ _ _ => (pvM 0))) pa_nil)) pe_int (nomark _))) (fun _ _ _ _ _ _ => (pvM 0))) pa_nil)))
    (pss_cons (ps_for PassesOwn.never rfl (pi_range1 rfl T.b_range (pa_cons (pe_op op_add (pe_callB call_lenL rfl T.b_len PySem.boot_len (pa_cons (pvM 1) pa_nil)) pe_int) pa_nil)) (pg_name (i := 6) nd rfl (by first | exact Or.inl rfl | exact Or.inr rfl)) (pss_cons (ps_set (i := 10) nd rfl (by first | exact Or.inl rfl | exact Or.inr rfl) (pe_makeF FMany___init__ (hr.mono (by first | decide | omega)) rfl T.at_Many (pa_cons (pe_tup (pa_cons pe_str (pa_cons (pvM 3) (pa_cons (pe_callTy call_tupL rfl T.b_tuple (show bootBuiltins "tuple" = some (.type "tuple") by decide +kernel) (pa_cons (pvM 1) pa_nil)) (pa_cons (pvM 6) (pa_cons (pvM 6) pa_nil)))))) pa_nil)))
    (pss_cons (ps_if (pt_not (pt_val (pe_callF F_law_is (hr.mono (by first | decide | omega)) rfl (pa_cons (pe_methF T.cl_Many FMany_may_keep (hr.mono (by first | decide | omega)) (pvM 10) (pa_cons (pe_callTy call_dictD rfl T.b_dict (show bootBuiltins "dict" = some (.type "dict") by decide +kernel) (pa_cons (pvM 2) pa_nil)) pa_nil)) (pa_cons (pe_chain op_le op_le (pvM 8) (pvM 6) (pvM 9)) pa_nil))))) (pss_one (ps_ret pe_bl)) pss_nil)
    (pss_one (ps_if (pt_not (pt_val (pe_callF F_law_is (hr.mono (by first | decide | omega)) rfl (pa_cons (pe_methF T.cl_Many FMany_may_break (hr.mono (by first | decide | omega)) (pvM 10) (pa_cons (pe_callTy call_dictD rfl T.b_dict (show bootBuiltins "dict" = some (.type "dict") by decide +kernel) (pa_cons (pvM 2) pa_nil)) pa_nil)) (pa_cons (pe_or (pe_cmpR op_lt (pvM 8) (pvM 6) (nomark _)) (pe_one (pe_cmpR op_gt (pvM 9) (pvM 6) (nomark _)))) pa_nil))))) (pss_one (ps_ret pe_bl)) pss_nil)))))
    (pss_cons (ps_set (i := 11) nd rfl (by first | exact Or.inl rfl | exact Or.inr rfl) (pe_makeF FMany___init__ (hr.mono (by first | decide | omega)) rfl T.at_Many (pa_cons (pe_tup (pa_cons pe_str (pa_cons (pvM 3) (pa_cons (pe_callTy call_tupL rfl T.b_tuple (show bootBuiltins "tuple" = some (.type "tuple") by decide +kernel) (pa_cons (pvM 1) pa_nil)) (pa_cons (pvM 8) (pa_cons (pvM 9) pa_nil)))))) pa_nil)))
    (pss_one (ps_ret (pe_and (pe_callF F_law_is (hr.mono (by first | decide | omega)) rfl (pa_cons (pe_methF T.cl_Many FMany_may_break (hr.mono (by first | decide | omega)) (pvM 11) (pa_cons (pe_callTy call_dictD rfl T.b_dict (show bootBuiltins "dict" = some (.type "dict") by decide +kernel) (pa_cons (pvM 2) pa_nil)) pa_nil)) (pa_cons pe_bl pa_nil))) (pe_one (pe_callF F_law_is (hr.mono (by first | decide | omega)) rfl (pa_cons (pe_methF T.cl_Many FMany_may_keep (hr.mono (by first | decide | omega)) (pvM 7) (pa_cons (pe_callTy call_dictD rfl T.b_dict (show bootBuiltins "dict" = some (.type "dict") by decide +kernel) (pa_cons (pvM 2) pa_nil)) pa_nil)) (pa_cons pe_bl pa_nil))))))))))))))))), ?_⟩
  (try ctx_has vcx true_and)
  refine ⟨by decide, by decide, by decide, by decide, fun p1 hp1 => ?_⟩
  have n1 := D.ne hp1
  refine comp_g wlk_range (fun i ys H' => ∃ vs : List Int, ys = vs.map V.int ∧ vs.length ≤ i ∧ H' p1 = some (.lst ys) ∧ DealAt H' d l ∧ But d l H H') ⟨[], rfl, Nat.le_refl _, upd_same, D.new hp1, (But.refl H).new hp1⟩ (fun _ _ _ _ => True.intro) ?_ ?_
  · rintro i x ys H2 hi hx ⟨vs, rfl, hvl, h2, D2, B2⟩
    rw [rngV_length] at hi
    obtain ⟨y, rfl⟩ : ∃ y : Int, x = .int y := by
      obtain ⟨hl, e⟩ := List.getElem?_eq_some_iff.mp hx
      rw [rngV_length] at hl
      rw [rngV_get hl] at hx
      exact ⟨_, (Option.some.inj hx).symm⟩
    (try ctx_has vcx true_and)
    refine draw_rd D2 (by decide) (by decide) fun z H3 z0 z1 D3 B3 => ?_
    have h3 := B3 p1 _ n1.1 n1.2 h2
    (try ctx_has vcx true_and h3)
    refine ite2 (fun _ => ?_) (fun _ => ⟨vs, rfl, by omega, D3, B2.trans B3⟩)
    exact ⟨by rw [List.length_map]; exact small1000 (by omega), vs ++ [y], by simp, by simp; omega, upd_same, D3.put n1.1 n1.2, (B2.trans B3).put hp1⟩
  · rintro ys H1 ⟨vs, rfl, hvl, h1, D1, B1⟩
    rw [rngV_length] at hvl
    (try ctx_has vcx true_and h1)
    intro p2 hp2
    rw [show (12 : Int) = ((12 : Nat) : Int) from rfl, cut_map]
    generalize hav : vs.take 12 = av
    have avl : av.length ≤ 12 := by rw [← hav, List.length_take]; omega
    refine ⟨_, upd_same, fun va hva => ?_⟩
    have s2 : Same H1 (upd (upd H1 p2 (.lst (av.map V.int))) va (.tup (av.map V.int))) := (Same.upd0 hp2).upd_new hva
    have h2v : upd (upd H1 p2 (.lst (av.map V.int))) va (.tup (av.map V.int)) va = some (.tup (av.map V.int)) := upd_same
    generalize upd (upd H1 p2 (.lst (av.map V.int))) va (.tup (av.map V.int)) = H2 at s2 h2v ⊢
    have D2 := D1.same s2
    have I2 := (I.but D na nr B1).same s2
    refine ⟨d, l, r, ws, kvs, rm, rfl, D2, nr, I2.rd, I2.ks, I2.nd, I2.l12, I2.rf, I2.gd, fun fi g H3 ffi h3 hg D3 B3 => ?_⟩
    have nfi := D2.ne ffi
    have I3 := I2.but D2 na nr B3
    have h3v := (But.keepTI B3 D2).tup _ _ h2v
    refine ⟨_, I3.ha, fun p3 hp3 => ?_⟩
    have fv : ∀ c ∈ ws, valV (fillK ws g) (Sum.inr c) = some (.int (g c)) := fun c hc => valV_mem (by rw [fillK_keys]; exact List.pairwise_map.mpr (I.nd.imp fun h e => h (Sum.inr.inj e))) (List.mem_map.mpr ⟨c, hc, rfl⟩)
    have lw := I.l12
    refine comp_filterS wlk_list (fun v => match v with | .str c => decide (g c ∈ av) | _ => false) id hp3 (fun H' s => .of (s _ _ I3.ha)) (by simp; omega) ?_ ?_ ?_
    · intro x H4 Q4 hx sm q4
      obtain ⟨c, hc, rfl⟩ := List.mem_map.mp hx
      have e1 := sm _ _ h3
      have e2 := fv c hc
      have e3 := sm _ _ h3v
      (try ctx_has vcx true_and e1 e2 e3)
      refine ⟨rfl, flat_ints _, ?_⟩
      rw [inV_ints]
      exact q4 H4 (Same.refl _)
    · intro x H4 Q4 hx _ sm q4
      (try ctx_has vcx true_and)
      exact q4 H4 (Same.refl _)
    · intro H4 s4 h4
      have I4 := I3.same s4
      have D4 := D3.same s4
      have h4v := s4 _ _ h3v
      have hcb := cnt_bounds (av := av) hg
      have hcn : (List.map id ((ws.map V.str).filter fun v => match v with | .str c => decide (g c ∈ av) | _ => false)).length = cntN av ws g := by rw [List.map_id]; exact filt_len _
      (try ctx_has vcx true_and h4)
      rw [hcn]
      generalize cntN av ws g = cn at hcb ⊢
      refine draw_rd D4 (by decide) (by decide) fun r5 H5 r50 r51 D5 B5 => ?_
      have I5 := I4.but D4 na nr B5
      refine ⟨r5, rfl, _, I5.ha, fun ce hce => ?_⟩
      have s6 : Same H5 (upd H5 ce (.tup (ws.map V.str))) := Same.upd0 hce
      have h6c : upd H5 ce (.tup (ws.map V.str)) ce = some (.tup (ws.map V.str)) := upd_same
      generalize upd H5 ce (.tup (ws.map V.str)) = H6 at s6 h6c ⊢
      have D6 := D5.same s6
      refine draw_rd D6 (by decide) (by decide) fun r7 H7 r70 r71 D7 B7 => ?_
      have I7 := (I5.same s6).but D6 na nr B7
      have h7v := (But.keepTI B7 D6).tup _ _ (s6 _ _ ((But.keepTI B5 D4).tup _ _ h4v))
      have h7c := (But.keepTI B7 D6).tup _ _ h6c
      refine ⟨r7, rfl, by decide, makeM_rd fun x1 H8 M8 s8 => ?_⟩
      have I8 := I7.same s8
      have flm := few_le_most (av := av) (rm := rm) (cs := ws) fun c hc => (I.gd c hc).1
      have hnear : mayKeepB (if (cn : Int) - r5 > 0 then (cn : Int) - r5 else 0) (cn + r7) (fewN av rm ws) (mostN av rm ws) = true := by
        unfold mayKeepB
        simp only [Bool.and_eq_true, decide_eq_true_eq]
        split <;> omega
      refine askMK I8 (s8 _ _ h7v) (s8 _ _ h7c) avl M8 fun H9 s9 => ?_
      rw [hnear]
      refine ⟨true, true, rfl, true, rfl, ?_⟩
      rw [if_neg (by decide)]
      have I9 := I8.same s9
      have h9v := s9 _ _ (s8 _ _ h7v)
      have h9c := s9 _ _ (s8 _ _ h7c)
      refine ⟨_, I9.ha, fun p10 hp10 => ?_⟩
      refine comp_filterS wlk_list (fun v => match v with | .str c => (rm c).all fun x => decide (x ∈ av) | _ => false) id hp10 (fun H' s => .of (s _ _ I9.ha)) (by simp; omega) ?_ ?_ ?_
      · intro x H10 Q10 hx sm q10
        obtain ⟨c, hc, rfl⟩ := List.mem_map.mp hx
        obtain ⟨ra, hra, hrt⟩ := I9.rf c hc
        have e1 := sm _ _ I9.rd
        have e2 := sm _ _ hrt
        have e3 := sm _ _ h9v
        (try ctx_has vcx true_and e1 hra e2)
        intro p11 hp11
        have hgc := (I.gd c hc).2
        refine comp_filterS wlk_tup (fun v => match v with | .int i => !decide (i ∈ av) | _ => false) id hp11 (fun H' s => .of (s _ _ e2)) (by simp; omega) ?_ ?_ ?_
        · intro y H11 Q11 hy sm11 q11
          obtain ⟨i, _, rfl⟩ := List.mem_map.mp hy
          have e4 := sm11 _ _ e3
          (try ctx_has vcx true_and e4)
          refine ⟨rfl, flat_ints _, ?_⟩
          rw [inV_ints]
          exact q11 H11 (Same.refl _)
        · intro y H11 Q11 hy _ sm11 q11
          (try ctx_has vcx true_and)
          exact q11 H11 (Same.refl _)
        · intro H11 sm11 h11
          (try ctx_has vcx true_and h11)
          rw [none_len]
          exact q10 H11 sm11
      · intro x H10 Q10 hx _ sm q10
        (try ctx_has vcx true_and)
        exact q10 H10 (Same.refl _)
      · intro H10 s10 h10
        have I10 := I9.same s10
        have h10v := s10 _ _ h9v
        have hl1 : (List.map id ((ws.map V.str).filter fun v => match v with | .str c => (rm c).all fun x => decide (x ∈ av) | _ => false)).length = fewN av rm ws := by rw [List.map_id]; exact filt_len _
        (try ctx_has vcx true_and h10)
        rw [hl1]
        refine ⟨_, I10.ha, fun p12 hp12 => ?_⟩
        refine comp_filterS wlk_list (fun v => match v with | .str c => (rm c).any fun x => decide (x ∈ av) | _ => false) id hp12 (fun H' s => .of (s _ _ I10.ha)) (by simp; omega) ?_ ?_ ?_
        · intro x H10 Q10 hx sm q10
          obtain ⟨c, hc, rfl⟩ := List.mem_map.mp hx
          obtain ⟨ra, hra, hrt⟩ := I10.rf c hc
          have e1 := sm _ _ I10.rd
          have e2 := sm _ _ hrt
          have e3 := sm _ _ h10v
          (try ctx_has vcx true_and e1 hra e2)
          intro p11 hp11
          have hgc := (I.gd c hc).2
          refine comp_filterS wlk_tup (fun v => match v with | .int i => decide (i ∈ av) | _ => false) id hp11 (fun H' s => .of (s _ _ e2)) (by simp; omega) ?_ ?_ ?_
          · intro y H11 Q11 hy sm11 q11
            obtain ⟨i, _, rfl⟩ := List.mem_map.mp hy
            have e4 := sm11 _ _ e3
            (try ctx_has vcx true_and e4)
            refine ⟨rfl, flat_ints _, ?_⟩
            rw [inV_ints]
            exact q11 H11 (Same.refl _)
          · intro y H11 Q11 hy _ sm11 q11
            (try ctx_has vcx true_and)
            exact q11 H11 (Same.refl _)
          · intro H11 sm11 h11
            (try ctx_has vcx true_and h11)
            rw [some_len]
            exact q10 H11 sm11
        · intro x H10 Q10 hx _ sm q10
          (try ctx_has vcx true_and)
          exact q10 H10 (Same.refl _)
        · intro H12 s12 h12
          have I12 := I10.same s12
          have hl2 : (List.map id ((ws.map V.str).filter fun v => match v with | .str c => (rm c).any fun x => decide (x ∈ av) | _ => false)).length = mostN av rm ws := by rw [List.map_id]; exact filt_len _
          (try ctx_has vcx true_and h12)
          rw [hl2]
          generalize hFE : fewN av rm ws = fe at *
          generalize hMO : mostN av rm ws = mo at *
          refine ⟨_, I12.ha, ?_⟩
          rw [List.length_map]
          refine ⟨by omega, by omega, ?_⟩
          have s912 := s10.trans s12
          have h12v := s912 _ _ h9v
          have h12c := s912 _ _ h9c
          have M12 := M8.same (s9.trans s912)
          refine for_g wlk_range (fun i σ H' => ∃ (v6 v10 : Option V), σ = [some (.ref d), some (.ref a), some (.ref r), some (.ref va), some (.ref fi), some (.int cn), v6, some (.ref x1), some (.int fe), some (.int mo), v10, none] ∧ Same H12 H') ⟨_, _, rfl, Same.refl _⟩ (fun _ _ _ _ => True.intro) ?_ ?_
          · rintro i x σ H13 hi hx ⟨v6, v10, rfl, s13⟩
            rw [rngV_length] at hi
            rw [rngV_get hi] at hx
            obtain rfl := (Option.some.inj hx)
            have I13 := I12.same s13
            (try ctx_has vcx true_and)
            refine ⟨_, I13.ha, fun cl hcl => ⟨by decide, ?_⟩⟩
            have s14 : Same H13 (upd H13 cl (.tup (ws.map V.str))) := Same.upd0 hcl
            refine makeM_rd fun x2 H15 M15 s15 => ?_
            have I15 := (I13.same s14).same s15
            have h15c := s15 _ _ (show upd H13 cl (.tup (ws.map V.str)) cl = _ from upd_same)
            have h15v := s15 _ _ (s14 _ _ (s13 _ _ h12v))
            refine askMK I15 h15v h15c avl M15 fun H16 s16 => ?_
            rw [hFE, hMO]
            have I16 := I15.same s16
            have fin : ∀ R : VK, (∀ H', Same H12 H' → R (.bl true) H') → ∃ dx fs, H16 x2 = some (.ins (clsAt mg (Str.ofString "Many")) dx fs) ∧ fs.lookup (Str.ofString "may_break") = none ∧ ∃ kv, H16 r = some (.dK kv) ∧ ∀ q, H16 q = none → spMMayBreak mg [.ref x2, .ref q] (upd H16 q (.dK kv)) (fun x H1 => if (fe : Int) < 0 + (i : Nat) then spIs [x, .bl true] H1 R E0 else spIs [x, .bl (decide ((0 + (i : Nat) : Int) < mo))] H1 R E0) E0 := fun R hR => by
              refine askMB I16 (s16 _ _ h15v) (s16 _ _ h15c) avl (M15.same s16) fun H17 s17 => ?_
              rw [hFE, hMO]
              have sA := (((s13.trans s14).trans s15).trans s16).trans s17
              unfold mayBreakB
              refine ite2 (fun h => ⟨_, _, rfl, ?_⟩) (fun h => ⟨_, _, rfl, ?_⟩)
              · rw [decide_eq_true h]; exact hR H17 sA
              · rw [decide_eq_false h, Bool.false_or, beq_self_eq_true]; exact hR H17 sA
            have hk : mayKeepB (0 + (i : Nat)) (0 + (i : Nat)) fe mo = (decide ((fe : Int) ≤ 0 + (i : Nat)) && decide ((0 + (i : Nat) : Int) ≤ mo)) := by
              unfold mayKeepB
              rw [Bool.eq_iff_iff]
              simp only [Bool.and_eq_true, decide_eq_true_eq]
              omega
            rw [hk]
            refine ite2 (fun h => ⟨_, _, rfl, true, ?_, ?_⟩) (fun h => ⟨_, _, rfl, true, ?_, ?_⟩)
            · rw [decide_eq_true h, Bool.true_and, beq_self_eq_true]
            · rw [if_neg (by decide)]
              refine fin _ fun H' s => ⟨true, rfl, ?_⟩
              rw [if_neg (by decide)]
              exact s
            · rw [decide_eq_false h]; rfl
            · rw [if_neg (by decide)]
              refine fin _ fun H' s => ⟨true, rfl, ?_⟩
              rw [if_neg (by decide)]
              exact s
          · rintro σ H13 ⟨v6, v10, rfl, s13⟩
            have I13 := I12.same s13
            (try ctx_has vcx true_and)
            refine ⟨_, I13.ha, fun cl hcl => ⟨by decide, ?_⟩⟩
            have s14 : Same H13 (upd H13 cl (.tup (ws.map V.str))) := Same.upd0 hcl
            refine makeM_rd fun x2 H15 M15 s15 => ?_
            have I15 := (I13.same s14).same s15
            have h15c := s15 _ _ (show upd H13 cl (.tup (ws.map V.str)) cl = _ from upd_same)
            have h15v := s15 _ _ (s14 _ _ (s13 _ _ h12v))
            refine askMB I15 h15v h15c avl M15 fun H16 s16 => ?_
            rw [hFE, hMO]
            have hb : mayBreakB (fe : Int) (mo : Int) fe mo = false := by
              unfold mayBreakB
              rw [decide_eq_false (by omega), decide_eq_false (by omega)]; rfl
            rw [hb]
            refine ⟨false, false, rfl, true, rfl, ?_⟩
            rw [if_pos rfl]
            have sA := ((s13.trans s14).trans s15).trans s16
            refine askMK (I12.same sA) (sA _ _ h12v) (sA _ _ h12c) avl (M12.same sA) fun H17 s17 => ?_
            rw [hFE, hMO, hnear]
            exact ⟨true, true, rfl, k H17⟩
noncomputable def spLaw (K : PySem.W.Frag) : Sp := fun vs H Q _ => ∃ (a : Addr) (ns : List Int), vs = [.ref a] ∧ SqL K H a (ns.map V.int) ∧ ns.length ≤ 63 ∧ ∀ H', Q (.bl true) H'
theorem ok_law  {f : Addr} {fd : FuncData} (T : Txt K mg) (L : Fun K "law" "law" s_law f fd) (F_law_deal : Fn P w K mg base "_law_deal" 1 ["_law_script", "_law_start"] (spDeal K)) (F_law_draw : Fn P w K mg base "_law_draw" 1 ["_law_deal_here", "_law_many"] (spDraw)) (F_law_names : Fn P w K mg base "_law_names" 2 ["_law_deal_here", "_law_many"] (spNames)) (F_law_even_rooms : Fn P w K mg base "_law_even_rooms" 2 ["_law_deal_here", "_law_names_here", "_law_by"] (spRoomsG Even 4 (fun x => [.int x]))) (F_law_terms : Fn P w K mg base "_law_terms" 2 ["_law_deal_here", "_law_names_here"] (spTerms)) (F_law_sum_right : Fn P w K mg base "_law_sum_right" 6 ["_law_deal_here", "_law_terms_here", "_law_rooms", "_law_by"] (spSumR)) (F_law_gap_right : Fn P w K mg base "_law_gap_right" 6 ["_law_deal_here", "_law_terms_here", "_law_rooms"] (spGapR)) (F_law_wide_rooms : Fn P w K mg base "_law_wide_rooms" 2 ["_law_deal_here", "_law_names_here"] (spRoomsG (fun _ _ => True) 10 (fun _ => []))) (F_law_count_right : Fn P w K mg base "_law_count_right" 6 ["_law_deal_here", "_law_names_here", "_law_rooms"] (spCntR)) : FnOk P w K mg base CX0 7 f fd ["_law_script"] (spLaw K) := by
  have nd := sc_law.nd
  refine L.ok sc_law (fun vs H Q E h => ?_) (fun cdv A outer s H vs Q E hr h => ?_) <;> obtain ⟨a, ns, rfl, hS, hlen, k⟩ := h
  · rfl
  have hu := hu_of hr
  refine ⟨_, (pss_cons (ps_set (i := 1) nd rfl (by first | exact Or.inl rfl | exact Or.inr rfl) (pe_callF F_law_deal (hr.mono (by first | decide | omega)) rfl (pa_cons (pvM 0) (pa_cons pe_int pa_nil))))
    (pss_cons (ps_set (i := 2) nd rfl (by first | exact Or.inl rfl | exact Or.inr rfl) (pe_callF F_law_names (hr.mono (by first | decide | omega)) rfl (pa_cons (pvM 1) (pa_cons (pe_op op_add pe_int (pe_callF F_law_draw (hr.mono (by first | decide | omega)) rfl (pa_cons (pvM 1) (pa_cons pe_int pa_nil)))) pa_nil))))
    (pss_cons (ps_set (i := 3) nd rfl (by first | exact Or.inl rfl | exact Or.inr rfl) (pe_op op_add pe_int (pe_callF F_law_draw (hr.mono (by first | decide | omega)) rfl (pa_cons (pvM 1) (pa_cons pe_int pa_nil)))))
    (pss_cons (ps_set (i := 4) nd rfl (by first | exact Or.inl rfl | exact Or.inr rfl) (pe_slice sl_L (pvM 2) po_none (po_some (pe_op op_add pe_int (pe_callF F_law_draw (hr.mono (by first | decide | omega)) rfl (pa_cons (pvM 1) (pa_cons (pe_callB (call_min2 rfl) rfl T.b_min (show bootBuiltins "min" = some (.builtin "min") by decide +kernel) (pa_cons pe_int (pa_cons (pe_callB call_lenL rfl T.b_len PySem.boot_len (pa_cons (pvM 2) pa_nil)) pa_nil))) pa_nil)))))))
    (pss_cons (ps_set (i := 5) nd rfl (by first | exact Or.inl rfl | exact Or.inr rfl) (pe_callF F_law_even_rooms (hr.mono (by first | decide | omega)) rfl (pa_cons (pvM 1) (pa_cons (pvM 4) (pa_cons (pvM 3) pa_nil)))))
    (pss_cons (ps_set (i := 6) nd rfl (by first | exact Or.inl rfl | exact Or.inr rfl) (pe_callF F_law_terms (hr.mono (by first | decide | omega)) rfl (pa_cons (pvM 1) (pa_cons (pvM 4) pa_nil))))
    (pss_cons (ps_if (PW.pt (pw_or (pt_not (pt_val (pe_callF F_law_sum_right (hr.mono (by first | decide | omega)) rfl (pa_cons (pvM 1) (pa_cons (pvM 6) (pa_cons (pvM 5) (pa_cons (pvM 3) pa_nil))))))) (pw_or1 (pt_not (pt_val (pe_callF F_law_gap_right (hr.mono (by first | decide | omega)) rfl (pa_cons (pvM 1) (pa_cons (pvM 6) (pa_cons (pvM 5) pa_nil))))))))) (pss_one (ps_ret pe_bl)) pss_nil)
    (pss_one (ps_ret (pe_callF F_law_count_right (hr.mono (by first | decide | omega)) rfl (pa_cons (pvM 1) (pa_cons (pvM 2) (pa_cons (pe_callF F_law_wide_rooms (hr.mono (by first | decide | omega)) rfl (pa_cons (pvM 1) (pa_cons (pvM 2) pa_nil))) pa_nil))))))))))))), ?_⟩
  (try ctx_has vcx true_and)
  refine ⟨a, ns, 1, rfl, hS, hlen, by decide, by decide, fun d l H1 hd hl D1 sm1 => ?_⟩
  (try ctx_has vcx true_and)
  refine draw_rd D1 (by decide) (by decide) fun r1 H2 r10 r11 D2 B2 => ?_
  (try ctx_has vcx true_and)
  refine ⟨d, l, _, rfl, D2, by omega, by omega, fun ca ws H3 hca ok hws h3 D3 B3 => ?_⟩
  have nca := D2.ne hca
  (try ctx_has vcx true_and)
  refine draw_rd D3 (by decide) (by decide) fun r2 H4 r20 r21 D4 B4 => ?_
  have h4 := B4 ca _ nca.1 nca.2 h3
  (try ctx_has vcx true_and h4)
  rw [List.length_map]
  refine draw_rd D4 (by split <;> omega) (by split <;> omega) fun r5 H5 r50 r51 D5 B5 => ?_
  have h5 := B5 ca _ nca.1 nca.2 h4
  refine ⟨r5, rfl, _, h5, fun so hso => ?_⟩
  obtain ⟨n5, e5⟩ := Int.eq_ofNat_of_zero_le (show 0 ≤ 1 + r5 by omega)
  rw [e5, cut_map]
  have nso := D5.ne hso
  have s6 : Same H5 (upd H5 so (.lst ((ws.take n5).map V.str))) := Same.upd0 hso
  have h6s : upd H5 so (.lst ((ws.take n5).map V.str)) so = some (.lst ((ws.take n5).map V.str)) := upd_same
  generalize upd H5 so (.lst ((ws.take n5).map V.str)) = H6 at s6 h6s ⊢
  have D6 := D5.same s6
  have h6c := s6 _ _ h5
  have hn5 : n5 ≤ 6 ∧ 1 ≤ n5 := by split at r51 <;> omega
  have ln5 : (ws.take n5).length ≤ 6 := by rw [List.length_take]; omega
  have hwne : ws.take n5 ≠ [] := fun e => by
    have := congrArg List.length e
    rw [List.length_take, List.length_nil] at this
    omega
  have hnd5 : (ws.take n5).Nodup := ok.nd.sublist (List.take_sublist _ _)
  refine ⟨d, l, so, ws.take n5, 2 + r2, rfl, D6, nso, h6s, hnd5, by omega, by omega, by omega, fun ra kvs rm H7 hra h7 hks hrf hgd hpl D7 B7 => ?_⟩
  have nra := D6.ne hra
  have h7s := B7 so _ nso.1 nso.2 h6s
  refine ⟨d, l, so, ws.take n5, rfl, D7, nso, h7s, by omega, fun t ts H8 hT hts hco D8 B8 => ?_⟩
  have h8r := B8 ra _ nra.1 nra.2 h7
  have I8 : In15 H8 t ra ts kvs rm (2 + r2) := ⟨hT, h8r, by rw [hts]; exact hks, by rw [hts]; exact hnd5, by have := congrArg List.length hts; simp at this; omega, fun e => hwne (by rw [← hts, e]; rfl), hco, by rw [hts]; exact hrf.same (But.keepTI B8 D7).tup, by rw [hts]; exact hgd, hpl⟩
  refine ⟨d, l, t, ra, ts, kvs, rm, _, rfl, D8, nra, I8, by omega, fun H9 D9 B9 => ⟨true, rfl, ?_⟩⟩
  rw [if_neg (by decide)]
  have I9 := I8.but D8 nra B9
  refine ⟨d, l, t, ra, ts, kvs, rm, _, rfl, D9, nra, I9, by omega, fun H10 D10 B10 => ⟨true, rfl, ?_⟩⟩
  rw [if_neg (by decide)]
  have h10c := B10 ca _ nca.1 nca.2 (B9 ca _ nca.1 nca.2 (B8 ca _ nca.1 nca.2 (B7 ca _ nca.1 nca.2 h6c)))
  refine ⟨d, l, ca, ws, 1, rfl, D10, nca, h10c, ok.nd, by omega, by decide, by decide, fun rw' kv rm' H11 hr11 h11 hks11 hrf11 hgd11 hpl11 D11 B11 => ?_⟩
  exact ⟨d, l, ca, rw', ws, kv, rm', rfl, D11, nca, D10.ne hr11, ⟨B11 ca _ nca.1 nca.2 h10c, h11, hks11, ok.nd, by omega, hrf11, fun c hc => ⟨(hgd11 c hc).1, (hgd11 c hc).2.1⟩, hpl11⟩, fun H' => k H'⟩
noncomputable abbrev AT (K : PySem.W.Frag) (x : Str) (f : Addr) : Prop := PySem.W.nsIn K mainGlobals x = some (some (Value.ref f))
noncomputable abbrev LK (K : PySem.W.Frag) (f : Addr) (x : Str) (st : Stmt) (oc : Value) (od : Option Addr) (sl : Array (Option Value)) (kV dc pm : Value) (an : Option Addr) (cd ct : Value) : Prop := K.lookup f = some ⟨oc, od, .func (PySem.W.fnOf x x (defArgs st) (defBody st) (defScope st) .none kV dc pm an cd ct), sl⟩
noncomputable abbrev CK (K : PySem.W.Frag) (cd : Value) (x : Str) : Prop := PySem.W.codeIn K cd x = true
noncomputable abbrev KK (K : PySem.W.Frag) (f : Addr) : Prop := PySem.W.keepIn K (Value.ref f) = true
theorem lenq1 {α : Type} {us : List α} (h : us.length = 1) : ∃ u0, us = [u0] := by
  match us, h with
  | [u0], _ => exact ⟨u0, rfl⟩
theorem lenq2 {α : Type} {us : List α} (h : us.length = 2) : ∃ u0 u1, us = [u0, u1] := by
  match us, h with
  | [u0, u1], _ => exact ⟨u0, u1, rfl⟩
theorem lenq3 {α : Type} {us : List α} (h : us.length = 3) : ∃ u0 u1 u2, us = [u0, u1, u2] := by
  match us, h with
  | [u0, u1, u2], _ => exact ⟨u0, u1, u2, rfl⟩
theorem lenq4 {α : Type} {us : List α} (h : us.length = 4) : ∃ u0 u1 u2 u3, us = [u0, u1, u2, u3] := by
  match us, h with
  | [u0, u1, u2, u3], _ => exact ⟨u0, u1, u2, u3, rfl⟩
theorem lenq5 {α : Type} {us : List α} (h : us.length = 5) : ∃ u0 u1 u2 u3 u4, us = [u0, u1, u2, u3, u4] := by
  match us, h with
  | [u0, u1, u2, u3, u4], _ => exact ⟨u0, u1, u2, u3, u4, rfl⟩
theorem lenq6 {α : Type} {us : List α} (h : us.length = 6) : ∃ u0 u1 u2 u3 u4 u5, us = [u0, u1, u2, u3, u4, u5] := by
  match us, h with
  | [u0, u1, u2, u3, u4, u5], _ => exact ⟨u0, u1, u2, u3, u4, u5, rfl⟩
theorem lenq7 {α : Type} {us : List α} (h : us.length = 7) : ∃ u0 u1 u2 u3 u4 u5 u6, us = [u0, u1, u2, u3, u4, u5, u6] := by
  match us, h with
  | [u0, u1, u2, u3, u4, u5, u6], _ => exact ⟨u0, u1, u2, u3, u4, u5, u6, rfl⟩
theorem lenq8 {α : Type} {us : List α} (h : us.length = 8) : ∃ u0 u1 u2 u3 u4 u5 u6 u7, us = [u0, u1, u2, u3, u4, u5, u6, u7] := by
  match us, h with
  | [u0, u1, u2, u3, u4, u5, u6, u7], _ => exact ⟨u0, u1, u2, u3, u4, u5, u6, u7, rfl⟩
theorem lenq9 {α : Type} {us : List α} (h : us.length = 9) : ∃ u0 u1 u2 u3 u4 u5 u6 u7 u8, us = [u0, u1, u2, u3, u4, u5, u6, u7, u8] := by
  match us, h with
  | [u0, u1, u2, u3, u4, u5, u6, u7, u8], _ => exact ⟨u0, u1, u2, u3, u4, u5, u6, u7, u8, rfl⟩
theorem lenq10 {α : Type} {us : List α} (h : us.length = 10) : ∃ u0 u1 u2 u3 u4 u5 u6 u7 u8 u9, us = [u0, u1, u2, u3, u4, u5, u6, u7, u8, u9] := by
  match us, h with
  | [u0, u1, u2, u3, u4, u5, u6, u7, u8, u9], _ => exact ⟨u0, u1, u2, u3, u4, u5, u6, u7, u8, u9, rfl⟩
theorem lenq11 {α : Type} {us : List α} (h : us.length = 11) : ∃ u0 u1 u2 u3 u4 u5 u6 u7 u8 u9 u10, us = [u0, u1, u2, u3, u4, u5, u6, u7, u8, u9, u10] := by
  match us, h with
  | [u0, u1, u2, u3, u4, u5, u6, u7, u8, u9, u10], _ => exact ⟨u0, u1, u2, u3, u4, u5, u6, u7, u8, u9, u10, rfl⟩
local macro_rules | `(tactic| ctx_has b1) => `(tactic| exact fun _ _ _ _ _ _ us hl => by obtain ⟨u0, ee⟩ := lenq1 hl; subst ee; rfl)
local macro_rules | `(tactic| ctx_has b2) => `(tactic| exact fun _ _ _ _ _ _ us hl => by obtain ⟨u0, u1, ee⟩ := lenq2 hl; subst ee; rfl)
local macro_rules | `(tactic| ctx_has b3) => `(tactic| exact fun _ _ _ _ _ _ us hl => by obtain ⟨u0, u1, u2, ee⟩ := lenq3 hl; subst ee; rfl)
local macro_rules | `(tactic| ctx_has b4) => `(tactic| exact fun _ _ _ _ _ _ us hl => by obtain ⟨u0, u1, u2, u3, ee⟩ := lenq4 hl; subst ee; rfl)
theorem all_mk {l : PySem.W.OpenLaw} {w : World} {K : PySem.W.Frag} {h : Heap} {mg : Str → Option Value} {fa : Addr} (X : K.In h) (G : h.Ns mainGlobals mg) (hfa : mg "law" = some (.ref fa))
    {C_Sum : Addr}
    {C_Many : Addr}
    {C_Wish : Addr}
    {f3 : Addr} {oc3 : Value} {od3 an3 : Option Addr} {sl3 : Array (Option Value)} {kV3 dc3 pm3 cd3 ct3 : Value}
    {f4 : Addr} {oc4 : Value} {od4 an4 : Option Addr} {sl4 : Array (Option Value)} {kV4 dc4 pm4 cd4 ct4 : Value}
    {f5 : Addr} {oc5 : Value} {od5 an5 : Option Addr} {sl5 : Array (Option Value)} {kV5 dc5 pm5 cd5 ct5 : Value}
    {f6 : Addr} {oc6 : Value} {od6 an6 : Option Addr} {sl6 : Array (Option Value)} {kV6 dc6 pm6 cd6 ct6 : Value}
    {f7 : Addr} {oc7 : Value} {od7 an7 : Option Addr} {sl7 : Array (Option Value)} {kV7 dc7 pm7 cd7 ct7 : Value}
    {f8 : Addr} {oc8 : Value} {od8 an8 : Option Addr} {sl8 : Array (Option Value)} {kV8 dc8 pm8 cd8 ct8 : Value}
    {f12 : Addr} {oc12 : Value} {od12 an12 : Option Addr} {sl12 : Array (Option Value)} {kV12 dc12 pm12 cd12 ct12 : Value}
    {f13 : Addr} {oc13 : Value} {od13 an13 : Option Addr} {sl13 : Array (Option Value)} {kV13 dc13 pm13 cd13 ct13 : Value}
    {f14 : Addr} {oc14 : Value} {od14 an14 : Option Addr} {sl14 : Array (Option Value)} {kV14 dc14 pm14 cd14 ct14 : Value}
    {f15 : Addr} {oc15 : Value} {od15 an15 : Option Addr} {sl15 : Array (Option Value)} {kV15 dc15 pm15 cd15 ct15 : Value}
    {f16 : Addr} {oc16 : Value} {od16 an16 : Option Addr} {sl16 : Array (Option Value)} {kV16 dc16 pm16 cd16 ct16 : Value}
    {f17 : Addr} {oc17 : Value} {od17 an17 : Option Addr} {sl17 : Array (Option Value)} {kV17 dc17 pm17 cd17 ct17 : Value}
    {f0 f1 f2 f9 f10 f11 f18 f19 f20 f21 f22 f23 f24 f25 f26 f27 : Addr} {oc0 kV0 dc0 pm0 cd0 ct0 oc1 kV1 dc1 pm1 cd1 ct1 oc2 kV2 dc2 pm2 cd2 ct2 oc9 kV9 dc9 pm9 cd9 ct9 oc10 kV10 dc10 pm10 cd10 ct10 oc11 kV11 dc11 pm11 cd11 ct11 oc18 kV18 dc18 pm18 cd18 ct18 oc19 kV19 dc19 pm19 cd19 ct19 oc20 kV20 dc20 pm20 cd20 ct20 oc21 kV21 dc21 pm21 cd21 ct21 oc22 kV22 dc22 pm22 cd22 ct22 oc23 kV23 dc23 pm23 cd23 ct23 oc24 kV24 dc24 pm24 cd24 ct24 oc25 kV25 dc25 pm25 cd25 ct25 oc26 kV26 dc26 pm26 cd26 ct26 oc27 kV27 dc27 pm27 cd27 ct27 : Value} {od0 an0 od1 an1 od2 an2 od9 an9 od10 an10 od11 an11 od18 an18 od19 an19 od20 an20 od21 an21 od22 an22 od23 an23 od24 an24 od25 an25 od26 an26 od27 an27 : Option Addr} {sl0 sl1 sl2 sl9 sl10 sl11 sl18 sl19 sl20 sl21 sl22 sl23 sl24 sl25 sl26 sl27 : Array (Option Value)}
    (aC_Sum : PySem.W.nsIn K mainGlobals "Sum" = some (some (.ref C_Sum)))
    (pg_Sum : PySem.W.plainGet K C_Sum Str.empty = true)
    (hd_Sum : PySem.W.hasDictIn K C_Sum = true)
    (po_Sum : PySem.W.plainOver K C_Sum = true)
    (sa_Sum : PySem.W.findIn K (.ref C_Sum) "__setattr__" = some (some (.builtin "object.__setattr__")))
    (nf_Sum_wish : PySem.W.findIn K (.ref C_Sum) "wish" = some none)
    (nf_Sum_terms : PySem.W.findIn K (.ref C_Sum) "terms" = some none)
    (nf_Sum_low : PySem.W.findIn K (.ref C_Sum) "low" = some none)
    (nf_Sum_high : PySem.W.findIn K (.ref C_Sum) "high" = some none)
    (mk_Sum : PySem.W.makesIn K C_Sum = true) (kc_Sum : PySem.W.keepIn K (.ref C_Sum) = true)
    (aC_Many : PySem.W.nsIn K mainGlobals "Many" = some (some (.ref C_Many)))
    (pg_Many : PySem.W.plainGet K C_Many Str.empty = true)
    (hd_Many : PySem.W.hasDictIn K C_Many = true)
    (po_Many : PySem.W.plainOver K C_Many = true)
    (sa_Many : PySem.W.findIn K (.ref C_Many) "__setattr__" = some (some (.builtin "object.__setattr__")))
    (nf_Many_wish : PySem.W.findIn K (.ref C_Many) "wish" = some none)
    (nf_Many_among : PySem.W.findIn K (.ref C_Many) "among" = some none)
    (nf_Many_cells : PySem.W.findIn K (.ref C_Many) "cells" = some none)
    (nf_Many_low : PySem.W.findIn K (.ref C_Many) "low" = some none)
    (nf_Many_high : PySem.W.findIn K (.ref C_Many) "high" = some none)
    (mk_Many : PySem.W.makesIn K C_Many = true) (kc_Many : PySem.W.keepIn K (.ref C_Many) = true)
    (aC_Wish : PySem.W.nsIn K mainGlobals "Wish" = some (some (.ref C_Wish)))
    (a0 : AT K "_law_draw" f0) (l0 : LK K f0 "_law_draw" s__law_draw oc0 od0 sl0 kV0 dc0 pm0 an0 cd0 ct0) (c0 : CK K cd0 "_law_draw") (k0 : KK K f0)
    (a1 : AT K "_law_deal" f1) (l1 : LK K f1 "_law_deal" s__law_deal oc1 od1 sl1 kV1 dc1 pm1 an1 cd1 ct1) (c1 : CK K cd1 "_law_deal") (k1 : KK K f1)
    (a2 : AT K "_law_names" f2) (l2 : LK K f2 "_law_names" s__law_names oc2 od2 sl2 kV2 dc2 pm2 an2 cd2 ct2) (c2 : CK K cd2 "_law_names") (k2 : KK K f2)
    (sp3 : PySem.W.specialIn K (.ref C_Wish) "__getattribute__" = some (some (.builtin "type.__getattribute__"))) (rd3 : PySem.W.readsIn K C_Wish (.type "type") = true) (a3 : PySem.W.findCls K (.ref C_Wish) (.type "type") "__init__" = some (.val (.ref f3)))
    (l3 : K.lookup f3 = some ⟨oc3, od3, .func (PySem.W.fnOf "__init__" "Wish.__init__" (defArgs s_Wish___init__) (defBody s_Wish___init__) (defScope s_Wish___init__) .none kV3 dc3 pm3 an3 cd3 ct3), sl3⟩)
    (c3 : PySem.W.codeIn K cd3 "Wish.__init__" = true) (k3 : PySem.W.keepIn K (.ref f3) = true)
    (a4 : PySem.W.findIn K (.ref C_Many) "__init__" = some (some (.ref f4))) (i4 : PySem.W.isFn K (.ref f4) = true)
    (l4 : K.lookup f4 = some ⟨oc4, od4, .func (PySem.W.fnOf "__init__" "Many.__init__" (defArgs s_Many___init__) (defBody s_Many___init__) (defScope s_Many___init__) .none kV4 dc4 pm4 an4 cd4 ct4), sl4⟩)
    (c4 : PySem.W.codeIn K cd4 "Many.__init__" = true) (k4 : PySem.W.keepIn K (.ref f4) = true)
    (a5 : PySem.W.findIn K (.ref C_Many) "fewest" = some (some (.ref f5))) (i5 : PySem.W.isFn K (.ref f5) = true)
    (l5 : K.lookup f5 = some ⟨oc5, od5, .func (PySem.W.fnOf "fewest" "Many.fewest" (defArgs s_Many_fewest) (defBody s_Many_fewest) (defScope s_Many_fewest) .none kV5 dc5 pm5 an5 cd5 ct5), sl5⟩)
    (c5 : PySem.W.codeIn K cd5 "Many.fewest" = true) (k5 : PySem.W.keepIn K (.ref f5) = true)
    (a6 : PySem.W.findIn K (.ref C_Many) "most" = some (some (.ref f6))) (i6 : PySem.W.isFn K (.ref f6) = true)
    (l6 : K.lookup f6 = some ⟨oc6, od6, .func (PySem.W.fnOf "most" "Many.most" (defArgs s_Many_most) (defBody s_Many_most) (defScope s_Many_most) .none kV6 dc6 pm6 an6 cd6 ct6), sl6⟩)
    (c6 : PySem.W.codeIn K cd6 "Many.most" = true) (k6 : PySem.W.keepIn K (.ref f6) = true)
    (a7 : PySem.W.findIn K (.ref C_Many) "may_keep" = some (some (.ref f7))) (i7 : PySem.W.isFn K (.ref f7) = true)
    (l7 : K.lookup f7 = some ⟨oc7, od7, .func (PySem.W.fnOf "may_keep" "Many.may_keep" (defArgs s_Many_may_keep) (defBody s_Many_may_keep) (defScope s_Many_may_keep) .none kV7 dc7 pm7 an7 cd7 ct7), sl7⟩)
    (c7 : PySem.W.codeIn K cd7 "Many.may_keep" = true) (k7 : PySem.W.keepIn K (.ref f7) = true)
    (a8 : PySem.W.findIn K (.ref C_Many) "may_break" = some (some (.ref f8))) (i8 : PySem.W.isFn K (.ref f8) = true)
    (l8 : K.lookup f8 = some ⟨oc8, od8, .func (PySem.W.fnOf "may_break" "Many.may_break" (defArgs s_Many_may_break) (defBody s_Many_may_break) (defScope s_Many_may_break) .none kV8 dc8 pm8 an8 cd8 ct8), sl8⟩)
    (c8 : PySem.W.codeIn K cd8 "Many.may_break" = true) (k8 : PySem.W.keepIn K (.ref f8) = true)
    (a9 : AT K "is_between" f9) (l9 : LK K f9 "is_between" s_is_between oc9 od9 sl9 kV9 dc9 pm9 an9 cd9 ct9) (c9 : CK K cd9 "is_between") (k9 : KK K f9)
    (a10 : AT K "parts_of" f10) (l10 : LK K f10 "parts_of" s_parts_of oc10 od10 sl10 kV10 dc10 pm10 an10 cd10 ct10) (c10 : CK K cd10 "parts_of") (k10 : KK K f10)
    (a11 : AT K "spans_of" f11) (l11 : LK K f11 "spans_of" s_spans_of oc11 od11 sl11 kV11 dc11 pm11 an11 cd11 ct11) (c11 : CK K cd11 "spans_of") (k11 : KK K f11)
    (a12 : PySem.W.findIn K (.ref C_Sum) "may_end_well" = some (some (.ref f12))) (i12 : PySem.W.isFn K (.ref f12) = true)
    (l12 : K.lookup f12 = some ⟨oc12, od12, .func (PySem.W.fnOf "may_end_well" "Sum.may_end_well" (defArgs s_Sum_may_end_well) (defBody s_Sum_may_end_well) (defScope s_Sum_may_end_well) .none kV12 dc12 pm12 an12 cd12 ct12), sl12⟩)
    (c12 : PySem.W.codeIn K cd12 "Sum.may_end_well" = true) (k12 : PySem.W.keepIn K (.ref f12) = true)
    (a13 : PySem.W.findIn K (.ref C_Sum) "__init__" = some (some (.ref f13))) (i13 : PySem.W.isFn K (.ref f13) = true)
    (l13 : K.lookup f13 = some ⟨oc13, od13, .func (PySem.W.fnOf "__init__" "Sum.__init__" (defArgs s_Sum___init__) (defBody s_Sum___init__) (defScope s_Sum___init__) .none kV13 dc13 pm13 an13 cd13 ct13), sl13⟩)
    (c13 : PySem.W.codeIn K cd13 "Sum.__init__" = true) (k13 : PySem.W.keepIn K (.ref f13) = true)
    (a14 : PySem.W.findIn K (.ref C_Sum) "sums_with" = some (some (.ref f14))) (i14 : PySem.W.isFn K (.ref f14) = true)
    (l14 : K.lookup f14 = some ⟨oc14, od14, .func (PySem.W.fnOf "sums_with" "Sum.sums_with" (defArgs s_Sum_sums_with) (defBody s_Sum_sums_with) (defScope s_Sum_sums_with) .none kV14 dc14 pm14 an14 cd14 ct14), sl14⟩)
    (c14 : PySem.W.codeIn K cd14 "Sum.sums_with" = true) (k14 : PySem.W.keepIn K (.ref f14) = true)
    (a15 : PySem.W.findIn K (.ref C_Sum) "sums_kept" = some (some (.ref f15))) (i15 : PySem.W.isFn K (.ref f15) = true)
    (l15 : K.lookup f15 = some ⟨oc15, od15, .func (PySem.W.fnOf "sums_kept" "Sum.sums_kept" (defArgs s_Sum_sums_kept) (defBody s_Sum_sums_kept) (defScope s_Sum_sums_kept) .none kV15 dc15 pm15 an15 cd15 ct15), sl15⟩)
    (c15 : PySem.W.codeIn K cd15 "Sum.sums_kept" = true) (k15 : PySem.W.keepIn K (.ref f15) = true)
    (a16 : PySem.W.findIn K (.ref C_Sum) "may_keep" = some (some (.ref f16))) (i16 : PySem.W.isFn K (.ref f16) = true)
    (l16 : K.lookup f16 = some ⟨oc16, od16, .func (PySem.W.fnOf "may_keep" "Sum.may_keep" (defArgs s_Sum_may_keep) (defBody s_Sum_may_keep) (defScope s_Sum_may_keep) .none kV16 dc16 pm16 an16 cd16 ct16), sl16⟩)
    (c16 : PySem.W.codeIn K cd16 "Sum.may_keep" = true) (k16 : PySem.W.keepIn K (.ref f16) = true)
    (a17 : PySem.W.findIn K (.ref C_Sum) "may_break" = some (some (.ref f17))) (i17 : PySem.W.isFn K (.ref f17) = true)
    (l17 : K.lookup f17 = some ⟨oc17, od17, .func (PySem.W.fnOf "may_break" "Sum.may_break" (defArgs s_Sum_may_break) (defBody s_Sum_may_break) (defScope s_Sum_may_break) .none kV17 dc17 pm17 an17 cd17 ct17), sl17⟩)
    (c17 : PySem.W.codeIn K cd17 "Sum.may_break" = true) (k17 : PySem.W.keepIn K (.ref f17) = true)
    (a18 : AT K "_law_filling" f18) (l18 : LK K f18 "_law_filling" s__law_filling oc18 od18 sl18 kV18 dc18 pm18 an18 cd18 ct18) (c18 : CK K cd18 "_law_filling") (k18 : KK K f18)
    (a19 : AT K "_law_even_rooms" f19) (l19 : LK K f19 "_law_even_rooms" s__law_even_rooms oc19 od19 sl19 kV19 dc19 pm19 an19 cd19 ct19) (c19 : CK K cd19 "_law_even_rooms") (k19 : KK K f19)
    (a20 : AT K "_law_wide_rooms" f20) (l20 : LK K f20 "_law_wide_rooms" s__law_wide_rooms oc20 od20 sl20 kV20 dc20 pm20 an20 cd20 ct20) (c20 : CK K cd20 "_law_wide_rooms") (k20 : KK K f20)
    (a21 : AT K "_law_terms" f21) (l21 : LK K f21 "_law_terms" s__law_terms oc21 od21 sl21 kV21 dc21 pm21 an21 cd21 ct21) (c21 : CK K cd21 "_law_terms") (k21 : KK K f21)
    (a22 : AT K "_law_is" f22) (l22 : LK K f22 "_law_is" s__law_is oc22 od22 sl22 kV22 dc22 pm22 an22 cd22 ct22) (c22 : CK K cd22 "_law_is") (k22 : KK K f22)
    (a23 : AT K "_law_all_sums" f23) (l23 : LK K f23 "_law_all_sums" s__law_all_sums oc23 od23 sl23 kV23 dc23 pm23 an23 cd23 ct23) (c23 : CK K cd23 "_law_all_sums") (k23 : KK K f23)
    (a24 : AT K "_law_sum_right" f24) (l24 : LK K f24 "_law_sum_right" s__law_sum_right oc24 od24 sl24 kV24 dc24 pm24 an24 cd24 ct24) (c24 : CK K cd24 "_law_sum_right") (k24 : KK K f24)
    (a25 : AT K "_law_gap_right" f25) (l25 : LK K f25 "_law_gap_right" s__law_gap_right oc25 od25 sl25 kV25 dc25 pm25 an25 cd25 ct25) (c25 : CK K cd25 "_law_gap_right") (k25 : KK K f25)
    (a26 : AT K "_law_count_right" f26) (l26 : LK K f26 "_law_count_right" s__law_count_right oc26 od26 sl26 kV26 dc26 pm26 an26 cd26 ct26) (c26 : CK K cd26 "_law_count_right") (k26 : KK K f26)
    (a27 : AT K "law" f27) (l27 : LK K f27 "law" s_law oc27 od27 sl27 kV27 dc27 pm27 an27 cd27 ct27) (c27 : CK K cd27 "law") (k27 : KK K f27)
    (z0 : PySem.W.nsIn K mainGlobals "len" = some none)
    (z1 : PySem.W.nsIn K mainGlobals "max" = some none)
    (z2 : PySem.W.nsIn K mainGlobals "min" = some none)
    (z3 : PySem.W.nsIn K mainGlobals "sum" = some none)
    (z4 : PySem.W.nsIn K mainGlobals "list" = some none)
    (z5 : PySem.W.nsIn K mainGlobals "reversed" = some none)
    (z6 : PySem.W.nsIn K mainGlobals "range" = some none)
    (z7 : PySem.W.nsIn K mainGlobals "isinstance" = some none)
    (z8 : PySem.W.nsIn K mainGlobals "all" = some none)
    (z9 : PySem.W.nsIn K mainGlobals "any" = some none)
    (z10 : PySem.W.nsIn K mainGlobals "sorted" = some none)
    (z11 : PySem.W.nsIn K mainGlobals "dict" = some none)
    (z12 : PySem.W.nsIn K mainGlobals "tuple" = some none)
    (z13 : PySem.W.nsIn K mainGlobals "bool" = some none)
    (z14 : PySem.W.nsIn K mainGlobals "enumerate" = some none)
    (z15 : PySem.W.nsIn K mainGlobals "zip" = some none) :
    ∃ fd : FuncData, (∀ (s : Shared) (v : Value), BindsTo s fd ⟨[v], []⟩ [("_law_script", v)]) ∧ ∀ base : Heap, K.In base → base.Ns mainGlobals mg → FnOk l.prog w K mg base CX0 7 fa fd ["_law_script"] (spLaw K) := by
  have e := hfa.symm.trans (PySem.W.mg_of X G a27)
  cases e
  have eC_Sum := clsAt_of (PySem.W.mg_of X G aC_Sum)
  subst eC_Sum
  have eC_Many := clsAt_of (PySem.W.mg_of X G aC_Many)
  subst eC_Many
  have eC_Wish := clsAt_of (PySem.W.mg_of X G aC_Wish)
  subst eC_Wish
  have T : Txt K mg := ⟨PySem.W.mg_none_of X G z0, PySem.W.mg_none_of X G z1, PySem.W.mg_none_of X G z2, PySem.W.mg_none_of X G z3, PySem.W.mg_none_of X G z4, PySem.W.mg_none_of X G z5, PySem.W.mg_none_of X G z6, PySem.W.mg_none_of X G z7, PySem.W.mg_none_of X G z8, PySem.W.mg_none_of X G z9, PySem.W.mg_none_of X G z10, PySem.W.mg_none_of X G z11, PySem.W.mg_none_of X G z12, PySem.W.mg_none_of X G z13, PySem.W.mg_none_of X G z14, PySem.W.mg_none_of X G z15, PySem.W.mg_of X G aC_Wish, PySem.W.mg_of X G aC_Sum, ⟨pg_Sum, hd_Sum, po_Sum, sa_Sum⟩, nf_Sum_wish, nf_Sum_terms, nf_Sum_low, nf_Sum_high, PySem.W.mg_of X G aC_Many, ⟨pg_Many, hd_Many, po_Many, sa_Many⟩, nf_Many_wish, nf_Many_among, nf_Many_cells, nf_Many_low, nf_Many_high⟩
  have L0 : FnL K mg "_law_draw" s__law_draw ["_law_deal_here", "_law_many"] := fnL_mk X G a0 l0 c0 k0 (by ctx_has b2)
  have L1 : FnL K mg "_law_deal" s__law_deal ["_law_script", "_law_start"] := fnL_mk X G a1 l1 c1 k1 (by ctx_has b2)
  have L2 : FnL K mg "_law_names" s__law_names ["_law_deal_here", "_law_many"] := fnL_mk X G a2 l2 c2 k2 (by ctx_has b2)
  have L3 : MtdL K (ClsM K (clsAt mg "Wish") "__init__") "__init__" "Wish.__init__" s_Wish___init__ ["self", "wish"] := mtdL_mk ⟨sp3, rd3, a3, k3⟩ l3 c3 k3 fun _ _ _ _ _ _ us hl => by obtain ⟨u0, u1, ee⟩ := lenq2 hl; subst ee; rfl
  have L4 : MtdL K (Mk K (clsAt mg "Many")) "__init__" "Many.__init__" s_Many___init__ ["self", "wish"] := mtdL_mk ⟨mk_Many, a4, i4, kc_Many⟩ l4 c4 k4 fun _ _ _ _ _ _ us hl => by obtain ⟨u0, u1, ee⟩ := lenq2 hl; subst ee; rfl
  have L5 : MtdL K (Meth K (clsAt mg "Many") "fewest") "fewest" "Many.fewest" s_Many_fewest ["self", "rooms"] := mtdL_mk ⟨a5, i5, k5⟩ l5 c5 k5 fun _ _ _ _ _ _ us hl => by obtain ⟨u0, u1, ee⟩ := lenq2 hl; subst ee; rfl
  have L6 : MtdL K (Meth K (clsAt mg "Many") "most") "most" "Many.most" s_Many_most ["self", "rooms"] := mtdL_mk ⟨a6, i6, k6⟩ l6 c6 k6 fun _ _ _ _ _ _ us hl => by obtain ⟨u0, u1, ee⟩ := lenq2 hl; subst ee; rfl
  have L7 : MtdL K (Meth K (clsAt mg "Many") "may_keep") "may_keep" "Many.may_keep" s_Many_may_keep ["self", "rooms"] := mtdL_mk ⟨a7, i7, k7⟩ l7 c7 k7 fun _ _ _ _ _ _ us hl => by obtain ⟨u0, u1, ee⟩ := lenq2 hl; subst ee; rfl
  have L8 : MtdL K (Meth K (clsAt mg "Many") "may_break") "may_break" "Many.may_break" s_Many_may_break ["self", "rooms"] := mtdL_mk ⟨a8, i8, k8⟩ l8 c8 k8 fun _ _ _ _ _ _ us hl => by obtain ⟨u0, u1, ee⟩ := lenq2 hl; subst ee; rfl
  have L9 : FnL K mg "is_between" s_is_between ["number", "low", "high"] := fnL_mk X G a9 l9 c9 k9 (by ctx_has b3)
  have L10 : FnL K mg "parts_of" s_parts_of ["term", "rooms"] := fnL_mk X G a10 l10 c10 k10 (by ctx_has b2)
  have L11 : FnL K mg "spans_of" s_spans_of ["terms", "rooms"] := fnL_mk X G a11 l11 c11 k11 (by ctx_has b2)
  have L12 : MtdL K (Meth K (clsAt mg "Sum") "may_end_well") "may_end_well" "Sum.may_end_well" s_Sum_may_end_well ["self", "reached", "behind"] := mtdL_mk ⟨a12, i12, k12⟩ l12 c12 k12 fun _ _ _ _ _ _ us hl => by obtain ⟨u0, u1, u2, ee⟩ := lenq3 hl; subst ee; rfl
  have L13 : MtdL K (Mk K (clsAt mg "Sum")) "__init__" "Sum.__init__" s_Sum___init__ ["self", "wish"] := mtdL_mk ⟨mk_Sum, a13, i13, kc_Sum⟩ l13 c13 k13 fun _ _ _ _ _ _ us hl => by obtain ⟨u0, u1, ee⟩ := lenq2 hl; subst ee; rfl
  have L14 : MtdL K (Meth K (clsAt mg "Sum") "sums_with") "sums_with" "Sum.sums_with" s_Sum_sums_with ["self", "reached", "parts", "behind"] := mtdL_mk ⟨a14, i14, k14⟩ l14 c14 k14 fun _ _ _ _ _ _ us hl => by obtain ⟨u0, u1, u2, u3, ee⟩ := lenq4 hl; subst ee; rfl
  have L15 : MtdL K (Meth K (clsAt mg "Sum") "sums_kept") "sums_kept" "Sum.sums_kept" s_Sum_sums_kept ["self", "rooms"] := mtdL_mk ⟨a15, i15, k15⟩ l15 c15 k15 fun _ _ _ _ _ _ us hl => by obtain ⟨u0, u1, ee⟩ := lenq2 hl; subst ee; rfl
  have L16 : MtdL K (Meth K (clsAt mg "Sum") "may_keep") "may_keep" "Sum.may_keep" s_Sum_may_keep ["self", "rooms"] := mtdL_mk ⟨a16, i16, k16⟩ l16 c16 k16 fun _ _ _ _ _ _ us hl => by obtain ⟨u0, u1, ee⟩ := lenq2 hl; subst ee; rfl
  have L17 : MtdL K (Meth K (clsAt mg "Sum") "may_break") "may_break" "Sum.may_break" s_Sum_may_break ["self", "rooms"] := mtdL_mk ⟨a17, i17, k17⟩ l17 c17 k17 fun _ _ _ _ _ _ us hl => by obtain ⟨u0, u1, ee⟩ := lenq2 hl; subst ee; rfl
  have L18 : FnL K mg "_law_filling" s__law_filling ["_law_deal_here", "_law_rooms"] := fnL_mk X G a18 l18 c18 k18 (by ctx_has b2)
  have L19 : FnL K mg "_law_even_rooms" s__law_even_rooms ["_law_deal_here", "_law_names_here", "_law_by"] := fnL_mk X G a19 l19 c19 k19 (by ctx_has b3)
  have L20 : FnL K mg "_law_wide_rooms" s__law_wide_rooms ["_law_deal_here", "_law_names_here"] := fnL_mk X G a20 l20 c20 k20 (by ctx_has b2)
  have L21 : FnL K mg "_law_terms" s__law_terms ["_law_deal_here", "_law_names_here"] := fnL_mk X G a21 l21 c21 k21 (by ctx_has b2)
  have L22 : FnL K mg "_law_is" s__law_is ["_law_found", "_law_due"] := fnL_mk X G a22 l22 c22 k22 (by ctx_has b2)
  have L23 : FnL K mg "_law_all_sums" s__law_all_sums ["_law_terms_here", "_law_rooms"] := fnL_mk X G a23 l23 c23 k23 (by ctx_has b2)
  have L24 : FnL K mg "_law_sum_right" s__law_sum_right ["_law_deal_here", "_law_terms_here", "_law_rooms", "_law_by"] := fnL_mk X G a24 l24 c24 k24 (by ctx_has b4)
  have L25 : FnL K mg "_law_gap_right" s__law_gap_right ["_law_deal_here", "_law_terms_here", "_law_rooms"] := fnL_mk X G a25 l25 c25 k25 (by ctx_has b3)
  have L26 : FnL K mg "_law_count_right" s__law_count_right ["_law_deal_here", "_law_names_here", "_law_rooms"] := fnL_mk X G a26 l26 c26 k26 (by ctx_has b3)
  refine ⟨PySem.W.fnOf "law" "law" (defArgs s_law) (defBody s_law) (defScope s_law) .none kV27 dc27 pm27 an27 cd27 ct27, fun s v => .of_eq rfl, fun base _ _ => ?_⟩
  have F_law_draw := ok__law_draw (P := l.prog) (w := w) (base := base) T L0 
  have F_law_deal := ok__law_deal (P := l.prog) (w := w) (base := base) T L1 
  have F_law_names := ok__law_names (P := l.prog) (w := w) (base := base) T L2 F_law_draw
  have FWish___init__S := ok_Wish___init__S (P := l.prog) (w := w) (base := base) T L3 
  have FWish___init__M := ok_Wish___init__M (P := l.prog) (w := w) (base := base) T L3 
  have FMany___init__ := ok_Many___init__ (P := l.prog) (w := w) (base := base) T L4 FWish___init__M
  have FMany_fewest := ok_Many_fewest (P := l.prog) (w := w) (base := base) T L5 
  have FMany_most := ok_Many_most (P := l.prog) (w := w) (base := base) T L6 
  have FMany_may_keep := ok_Many_may_keep (P := l.prog) (w := w) (base := base) T L7 FMany_fewest FMany_most
  have FMany_may_break := ok_Many_may_break (P := l.prog) (w := w) (base := base) T L8 FMany_fewest FMany_most
  have Fis_between := ok_is_between (P := l.prog) (w := w) (base := base) T L9 
  have Fparts_of := ok_parts_of (P := l.prog) (w := w) (base := base) T L10 
  have Fspans_of := ok_spans_of (P := l.prog) (w := w) (base := base) T L11 Fparts_of
  have FSum_may_end_well := ok_Sum_may_end_well (P := l.prog) (w := w) (base := base) T L12 
  have FSum___init__ := ok_Sum___init__ (P := l.prog) (w := w) (base := base) T L13 FWish___init__S
  have FSum_sums_with := ok_Sum_sums_with (P := l.prog) (w := w) (base := base) T L14 FSum_may_end_well
  have FSum_sums_kept := ok_Sum_sums_kept (P := l.prog) (w := w) (base := base) T L15 Fspans_of Fparts_of FSum_sums_with
  have FSum_may_keep := ok_Sum_may_keep (P := l.prog) (w := w) (base := base) T L16 FSum_sums_kept
  have FSum_may_break := ok_Sum_may_break (P := l.prog) (w := w) (base := base) T L17 Fspans_of Fis_between
  have F_law_filling := ok__law_filling (P := l.prog) (w := w) (base := base) T L18 F_law_draw
  have F_law_even_rooms := ok__law_even_rooms (P := l.prog) (w := w) (base := base) T L19 F_law_draw
  have F_law_wide_rooms := ok__law_wide_rooms (P := l.prog) (w := w) (base := base) T L20 F_law_draw
  have F_law_terms := ok__law_terms (P := l.prog) (w := w) (base := base) T L21 F_law_draw
  have F_law_is := ok__law_is (P := l.prog) (w := w) (base := base) T L22 
  have F_law_all_sums := ok__law_all_sums (P := l.prog) (w := w) (base := base) T L23 
  have F_law_sum_right := ok__law_sum_right (P := l.prog) (w := w) (base := base) T L24 F_law_draw F_law_filling F_law_is FSum___init__ FSum_may_keep FSum_may_break
  have F_law_gap_right := ok__law_gap_right (P := l.prog) (w := w) (base := base) T L25 F_law_draw F_law_all_sums F_law_is FSum___init__ FSum_may_keep
  have F_law_count_right := ok__law_count_right (P := l.prog) (w := w) (base := base) T L26 F_law_draw F_law_filling F_law_is FMany___init__ FMany_may_keep FMany_may_break
  exact ok_law T (fun_mk l27 c27 k27) F_law_deal F_law_draw F_law_names F_law_even_rooms F_law_terms F_law_sum_right F_law_gap_right F_law_wide_rooms F_law_count_right
theorem walk {l : PySem.W.OpenLaw} {q : Program} {loose : List Str} {XP : (Str → Option Value) → Heap → Prop} {YP : World → Heap → Prop} {d : DefRec} {K : Params → PySem.W.Frag} (hn : l.most = some 63) (hdf : d.params.defaults = [])
    (hY : ∀ (w : World) (h : Heap), YP w h → (K w.params).In h)
    (F : ∀ (w : World) (mg : Str → Option Value) (fa : Addr) (h : Heap), (K w.params).In h → h.Ns mainGlobals mg → mg d.name = some (.ref fa) →
      ∃ fd : FuncData, (∀ (s : Shared) (u : Value), BindsTo s fd ⟨[u], []⟩ [("_law_script", u)]) ∧ ∀ base : Heap, (K w.params).In base → base.Ns mainGlobals mg → FnOk l.prog w (K w.params) mg base CX0 7 fa fd ["_law_script"] (spLaw (K w.params))) :
    PySem.W.WalkO q loose XP YP l.row.toRowW d [] (fun f vs => PySem.call f vs) :=
  L2.walk_of (n := 63) (k := 7) (x := "_law_script") (CX := fun _ => CX0) (sp := fun w => spLaw (K w.params)) hn (by decide) hdf ⟨rfl, by decide, by decide⟩ hY F (fun _ _ a ns hl _ hS => ⟨a, ns, rfl, hS, hl, fun _ => rfl⟩) fun _ _ _ _ _ z => z
noncomputable def viewQ : Program := { PySem.Challenge.pw_seekhall_k15_whole_long_sums_and_counts with main := { PySem.Challenge.pw_seekhall_k15_whole_long_sums_and_counts.main with body := [0, 2, 4, 6, 7, 8, 10, 12, 13, 14, 15, 16, 17, 18, 19, 20, 21, 22, 23, 24].map top } }
end Lw
open PySem PySem.W PyProof.Rows
local macro_rules | `(tactic| ctx_has kj $ids*) => `(tactic| ($[case $ids:ident => (change _ = _; k_is)];*))
local macro_rules | `(tactic| o_head $H) => do
  let hw := Lean.mkIdent `hw
  let hc := Lean.mkIdent `hc
  `(tactic| (refine holds_open (q := Lw.viewQ) (loose := List.nil) (N := 5000) (hY := Hook.of $H) (hYk := Hook.keeps $H)
                (Yf := Hook.obs $H) (Ya := Hook.val $H) (YP := Hook.says $H) (XP := XL Lw.viewQ List.nil)
                (Xt := fun s => xlAt Lw.viewQ List.nil s && recOk (RowW.records PySem.Challenge.rw_seekhall_k15_whole_long_sums_and_counts.row.toRowW) s)
                ?hl (fun s e => xl_of s (Bool.and_eq_true_iff.mp e).1) XL.keeps (by rfl) (by rfl) (by rfl)
                (fun s e => recFacts_of (Bool.and_eq_true_iff.mp e).2) (by rfl) (by assumption) (by decide +kernel)
                ⟨rfl, rfl, rfl, rfl, rfl, by decide +kernel⟩ ?$hw ?$hc
             (case hl => intro w; kernel_rfl)))
set_option maxRecDepth 100000 in
set_option maxHeartbeats 0 in
theorem PySem.Challenge.cw_seekhall_k15_whole_long_sums_and_counts_holds : PySem.Challenge.rw_seekhall_k15_whole_long_sums_and_counts.Holds := by
  w_on; o_law; k_head; (case hw => w_witness2)
  k_fill
  refine Lw.walk (l := PySem.Challenge.rw_seekhall_k15_whole_long_sums_and_counts) rfl rfl (fun w h Y => PySem.W.kIn_of Y) ?F
  case F =>
    intro w mg fa h KX G hmg
    refine' Lw.all_mk KX G hmg ?aC_Sum ?pg_Sum ?hd_Sum ?po_Sum ?sa_Sum ?nf_Sum_wish ?nf_Sum_terms ?nf_Sum_low ?nf_Sum_high ?mk_Sum ?kc_Sum ?aC_Many ?pg_Many ?hd_Many ?po_Many ?sa_Many ?nf_Many_wish ?nf_Many_among ?nf_Many_cells ?nf_Many_low ?nf_Many_high ?mk_Many ?kc_Many ?aC_Wish ?a0 ?l0 ?c0 ?k0 ?a1 ?l1 ?c1 ?k1 ?a2 ?l2 ?c2 ?k2 ?sp3 ?rd3 ?a3 ?l3 ?c3 ?k3 ?a4 ?i4 ?l4 ?c4 ?k4 ?a5 ?i5 ?l5 ?c5 ?k5 ?a6 ?i6 ?l6 ?c6 ?k6 ?a7 ?i7 ?l7 ?c7 ?k7 ?a8 ?i8 ?l8 ?c8 ?k8 ?a9 ?l9 ?c9 ?k9 ?a10 ?l10 ?c10 ?k10 ?a11 ?l11 ?c11 ?k11 ?a12 ?i12 ?l12 ?c12 ?k12 ?a13 ?i13 ?l13 ?c13 ?k13 ?a14 ?i14 ?l14 ?c14 ?k14 ?a15 ?i15 ?l15 ?c15 ?k15 ?a16 ?i16 ?l16 ?c16 ?k16 ?a17 ?i17 ?l17 ?c17 ?k17 ?a18 ?l18 ?c18 ?k18 ?a19 ?l19 ?c19 ?k19 ?a20 ?l20 ?c20 ?k20 ?a21 ?l21 ?c21 ?k21 ?a22 ?l22 ?c22 ?k22 ?a23 ?l23 ?c23 ?k23 ?a24 ?l24 ?c24 ?k24 ?a25 ?l25 ?c25 ?k25 ?a26 ?l26 ?c26 ?k26 ?a27 ?l27 ?c27 ?k27 ?z0 ?z1 ?z2 ?z3 ?z4 ?z5 ?z6 ?z7 ?z8 ?z9 ?z10 ?z11 ?z12 ?z13 ?z14 ?z15
    ctx_has kj aC_Sum pg_Sum hd_Sum po_Sum sa_Sum nf_Sum_wish nf_Sum_terms nf_Sum_low nf_Sum_high mk_Sum kc_Sum aC_Many pg_Many hd_Many po_Many sa_Many nf_Many_wish nf_Many_among nf_Many_cells nf_Many_low nf_Many_high mk_Many kc_Many aC_Wish a0 l0 c0 k0 a1 l1 c1 k1 a2 l2 c2 k2 sp3 rd3 a3 l3 c3 k3 a4 i4 l4 c4 k4 a5 i5 l5 c5 k5 a6 i6 l6 c6 k6 a7 i7 l7 c7 k7 a8 i8 l8 c8 k8 a9 l9 c9 k9 a10 l10 c10 k10 a11 l11 c11 k11 a12 i12 l12 c12 k12 a13 i13 l13 c13 k13 a14 i14 l14 c14 k14 a15 i15 l15 c15 k15 a16 i16 l16 c16 k16 a17 i17 l17 c17 k17 a18 l18 c18 k18 a19 l19 c19 k19 a20 l20 c20 k20 a21 l21 c21 k21 a22 l22 c22 k22 a23 l23 c23 k23 a24 l24 c24 k24 a25 l25 c25 k25 a26 l26 c26 k26 a27 l27 c27 k27 z0 z1 z2 z3 z4 z5 z6 z7 z8 z9 z10 z11 z12 z13 z14 z15
