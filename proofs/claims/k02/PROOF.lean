import PyProof.Rows.All
import Wide.All
import OpenK.AllK
import Wide.FinOn
import Lean
import PyProof.EqAt
import PyProof.EqKinds
import PyProof.TupleCall
import PySem.Challenge.RW_seekhall_k02_wishes_of_all_forms
set_option Elab.async false
set_option linter.all false
set_option maxRecDepth 100000
namespace Lw
open PySem PySem.W PySem.Calls PyProof.Rows
theorem left_two {p q : Program} {loose : List Str} {Xt : Shared → Bool} {α : Type} {Yf : Shared → α} {Ya : World → α} {N : Nat} (row : String)
    (h1 : ∀ w : World, (fencedOpening treeTable p w N).bind (fun s₀ => (topFrom treeTable p (w.withFollow row false) N s₀).map (fun s => (openSeen q loose (importedModules p.main.body) Xt true s, Yf s))) = some (openGood q loose, Ya (w.withFollow row false)))
    (h2 : ∀ w : World, (fencedOpening treeTable p w N).bind (fun s₀ => (topFrom treeTable p (w.withFollow row true) N s₀).map (fun s => (openSeen q loose (importedModules p.main.body) Xt true s, Yf s))) = some (openGood q loose, Ya (w.withFollow row true))) : LeftO p q loose Xt Yf Ya N := fun w => by
  have e := World.withFollow_self w row
  unfold openEnds
  rw [Option.map_bind]
  cases hb : w.params.followText row <;> rw [hb] at e
  · have := h1 w; rw [e] at this; exact this
  · have := h2 w; rw [e] at this; exact this
noncomputable def top (i : Nat) : Stmt := PySem.Challenge.pw_seekhall_k02_wishes_of_all_forms.main.body.getD i (.Pass ⟨0, 0, 0, 0⟩)
noncomputable def viewQ : Program := { PySem.Challenge.pw_seekhall_k02_wishes_of_all_forms with main := { PySem.Challenge.pw_seekhall_k02_wishes_of_all_forms.main with body := [1, 2, 3, 4, 5, 6, 7, 8, 9, 10, 11, 12, 13, 14, 15, 16, 17, 18, 19, 20, 21, 22, 23, 24, 25, 26, 27, 28, 29, 30, 31, 32, 33, 34, 35, 36, 37, 38, 39, 40, 41, 42, 44, 45, 46, 47, 48, 49, 50, 51, 52, 53, 54, 55, 56, 57, 58, 59, 60, 61, 62, 63, 64, 65, 66].map top } }
section
local macro_rules | `(tactic| o_head $H) => `(tactic| (have z := $H; assumption))
set_option maxHeartbeats 0 in
theorem early (h : PySem.Challenge.rw_seekhall_k02_wishes_of_all_forms.row.Holds) : PySem.Challenge.rw_seekhall_k02_wishes_of_all_forms.row.Holds := by
  k_head
end
noncomputable def hAs : List Addr := [2, 3, 15, 16, 18, 19, 21, 22, 23, 25, 26, 28, 29, 30, 32, 33, 35, 36, 37, 39, 40, 42, 43, 44, 47, 48, 49, 52, 53, 54, 56, 57, 59, 60, 61, 63, 64, 66, 67, 68, 70, 71, 73, 74, 75, 77, 78, 80, 81, 82, 84, 85, 87, 88, 89, 91, 92, 94, 95, 96, 98, 99, 101, 102, 103, 105, 106, 108, 109, 110, 113, 114, 115, 117, 118, 120, 121, 122, 124, 125, 127, 128, 129, 131, 132, 134, 135, 136, 138, 139, 141, 142, 143, 146, 147, 148, 150, 151, 153, 154, 155, 157, 158, 160, 161, 162, 164, 165, 167, 168, 169, 170, 172, 173, 175, 176, 177, 179, 180, 182, 183, 184, 186, 187, 189, 190, 191, 193, 194, 196, 197, 198, 201, 202, 203, 205, 206, 208, 209, 210, 213, 214, 215, 217, 218, 220, 221, 222, 225, 226, 227, 229, 230, 232, 233, 234, 236, 237, 239, 240, 241, 243, 244, 246, 247, 248, 250, 251, 253, 254, 255, 258, 259, 260, 262, 263, 265, 266, 267, 269, 270, 272, 273, 274, 276, 277, 279, 280, 281, 283, 284, 286, 287, 288, 290, 291, 293, 294, 295, 297, 298, 300, 301, 302, 304, 305, 307, 308, 309, 312, 313, 314, 317, 318, 319, 322, 323, 324, 326, 327, 329, 330, 331, 333, 334, 336, 337, 338, 340, 341, 343, 344, 345, 347, 348, 350, 351, 352, 354, 355, 357, 358]
theorem hAe : ∀ P, hAs = (early.heap_1 P).map (·.1) := fun _ => by kernel_rfl
noncomputable abbrev hK : Hook := kmHook early.heap_1 hAs hAe [123]
noncomputable def hX (s : Shared) : Bool := xlAt viewQ List.nil s && recOk (RowW.records PySem.Challenge.rw_seekhall_k02_wishes_of_all_forms.row.toRowW) s
noncomputable abbrev hSide (b : Bool) : Prop := ∀ w : World, (fencedOpening treeTable PySem.Challenge.pw_seekhall_k02_wishes_of_all_forms w 13400).bind (fun s₀ => (topFrom treeTable PySem.Challenge.pw_seekhall_k02_wishes_of_all_forms (w.withFollow "special-get-raises" b) 13400 s₀).map (fun s => (openSeen viewQ [Str.ofString "PLAIN_FORMS"] (importedModules PySem.Challenge.pw_seekhall_k02_wishes_of_all_forms.main.body) hX true s, Hook.obs hK s))) = some (openGood viewQ [Str.ofString "PLAIN_FORMS"], Hook.val hK (w.withFollow "special-get-raises" b))
theorem hl1 : hSide false := by intro w; kernel_rfl
theorem hl2 : hSide true := by intro w; kernel_rfl
theorem hl : LeftO PySem.Challenge.pw_seekhall_k02_wishes_of_all_forms viewQ [Str.ofString "PLAIN_FORMS"] hX (Hook.obs hK) (Hook.val hK) 13400 := left_two "special-get-raises" hl1 hl2
end Lw
namespace L2
open PySem PySem.Spec PyProof.Rows
noncomputable abbrev Key := Sum Int Str
noncomputable def keyIs : Key → Value → Bool
  | .inl k, v => Value.isInt k v
  | .inr x, v => Value.isStrOf x v
noncomputable def keyH (w : World) : Key → Int
  | .inl k => hashInt k
  | .inr x => hashStr w x
theorem keyIs_shape : ∀ {k : Key} {v : Value}, keyIs k v = true → (∃ i t, k = Sum.inl i ∧ v = Value.int i t) ∨ (∃ x t, k = Sum.inr x ∧ v = Value.str x t)
  | .inl i, v, h => by
    obtain ⟨t, e⟩ := Value.isInt_shape (k := i) (v := v) h
    exact .inl ⟨i, t, rfl, e⟩
  | .inr x, v, h => by
    obtain ⟨t, e⟩ := Value.isStrOf_shape (x := x) (v := v) h
    exact .inr ⟨x, t, rfl, e⟩
theorem keyIs_int (i : Int) (t : Tok) : keyIs (.inl i) (.int i t) = true := by simp [keyIs, Value.isInt]
theorem keyIs_str (x : Str) (t : Tok) : keyIs (.inr x) (.str x t) = true := by simp [keyIs, Value.isStrOf]
theorem key_ll (a b : Int) : decide ((Sum.inl a : Key) = Sum.inl b) = (a == b) := by
  by_cases e : a = b
  · subst e; simp
  · have h : ¬ (Sum.inl a : Key) = Sum.inl b := fun q => e (Sum.inl.inj q)
    rw [decide_eq_false h]
    exact (beq_eq_false_iff_ne.mpr e).symm
theorem key_rr (a b : Str) : decide ((Sum.inr a : Key) = Sum.inr b) = decide (a = b) := by
  by_cases e : a = b
  · subst e; simp
  · have h : ¬ (Sum.inr a : Key) = Sum.inr b := fun q => e (Sum.inr.inj q)
    rw [decide_eq_false h, decide_eq_false e]
theorem key_lr (a : Int) (b : Str) : decide ((Sum.inl a : Key) = Sum.inr b) = false := decide_eq_false (fun q => nomatch q)
theorem key_rl (a : Str) (b : Int) : decide ((Sum.inr a : Key) = Sum.inl b) = false := decide_eq_false (fun q => nomatch q)
noncomputable def mixKind (prog : Program) (w : World) : PySem.KeyKind prog w Key where
  is := keyIs
  hash := keyH w
  inj := fun v a b ha hb => by
    rcases keyIs_shape ha with ⟨i, t, rfl, rfl⟩ | ⟨x, t, rfl, rfl⟩
    · rcases keyIs_shape hb with ⟨j, u, rfl, e⟩ | ⟨y, u, rfl, e⟩
      · injection e with e1 _; rw [e1]
      · exact nomatch e
    · rcases keyIs_shape hb with ⟨j, u, rfl, e⟩ | ⟨y, u, rfl, e⟩
      · exact nomatch e
      · injection e with e1 _; rw [e1]
  byValue := fun k v h => by
    rcases keyIs_shape h with ⟨i, t, rfl, rfl⟩ | ⟨x, t, rfl, rfl⟩ <;> rfl
  pyHash := fun hv h => by
    rcases keyIs_shape hv with ⟨i, t, rfl, rfl⟩ | ⟨x, t, rfl, rfl⟩
    · exact wpAny_pyHash_int h
    · exact wpAny_pyHash_str h
  eqBool := fun hu hv h => by
    rcases keyIs_shape hu with ⟨i, t, rfl, rfl⟩ | ⟨x, t, rfl, rfl⟩
    · rcases keyIs_shape hv with ⟨j, u, rfl, rfl⟩ | ⟨y, u, rfl, rfl⟩
      · rw [key_ll] at h; exact wpAny_eqBool_int h
      · rw [key_lr] at h; exact SeqAt.EqAt.int_str i t y u _ _ _ _ h
    · rcases keyIs_shape hv with ⟨j, u, rfl, rfl⟩ | ⟨y, u, rfl, rfl⟩
      · rw [key_rl] at h; exact SeqAt.EqAt.str_int x t j u _ _ _ _ h
      · rw [key_rr] at h; exact wpAny_eqBool_str h
  «strs» := fun k x t v h => by
    rcases keyIs_shape h with ⟨i, u, rfl, e⟩ | ⟨y, u, rfl, e⟩
    · exact nomatch e
    · injection e with e1 _
      subst e1
      cases v <;> rfl
theorem mixKind_is (prog : Program) (w : World) (k : Key) (v : Value) : (mixKind prog w).is k v = keyIs k v := rfl
theorem mixKind_int (prog : Program) (w : World) (i : Int) (t : Tok) : (mixKind prog w).is (.inl i) (.int i t) = true := keyIs_int i t
theorem mixKind_str (prog : Program) (w : World) (x : Str) (t : Tok) : (mixKind prog w).is (.inr x) (.str x t) = true := keyIs_str x t
end L2
namespace L2
open PySem PySem.Spec PyProof.Rows
inductive V where
  | non | bl (b : Bool) | int (i : Int) | str (x : Str) | byt (b : Array UInt8) | flt (b : UInt64) | ref (a : Addr) | ty (n : String)
  deriving DecidableEq
noncomputable def RelV : V → Value → Prop
  | .non, u => u = Value.none
  | .bl b, u => u = Value.bool b
  | .int i, u => ∃ t, u = Value.int i t
  | .str x, u => ∃ t, u = Value.str x t
  | .byt b, u => ∃ t, u = Value.bytes b t
  | .flt b, u => ∃ t, u = Value.float b t
  | .ref a, u => u = Value.ref a
  | .ty n, u => u = Value.type n
noncomputable abbrev Vals : List V → List Value → Prop := Paired RelV
theorem Vals.length {xs : List V} {us : List Value} (r : Vals xs us) : xs.length = us.length := Paired.length r
theorem Vals.get : ∀ {xs : List V} {us : List Value} {i : Nat} {x : V}, Vals xs us → xs[i]? = some x → ∃ u, us[i]? = some u ∧ RelV x u
  | _, _, _, _, .nil, e => by simp at e
  | _, _, 0, _, .cons r _, e => by simp at e; subst e; exact ⟨_, rfl, r⟩
  | _, _, i + 1, x, .cons _ t, e => by
    obtain ⟨u, h1, h2⟩ := Vals.get (i := i) (x := x) t (by simpa using e)
    exact ⟨u, by simpa using h1, h2⟩
theorem Vals.set {x : V} {u : Value} (r : RelV x u) : ∀ {xs : List V} {us : List Value} (i : Nat), Vals xs us → Vals (xs.set i x) (us.set i u)
  | _, _, _, .nil => .nil
  | _, _, 0, .cons _ t => .cons r t
  | _, _, i + 1, .cons q t => .cons q (Vals.set r i t)
theorem Vals.append : ∀ {xs ys : List V} {us ws : List Value}, Vals xs us → Vals ys ws → Vals (xs ++ ys) (us ++ ws)
  | _, _, _, _, .nil, s => s
  | _, _, _, _, .cons r t, s => .cons r (Vals.append t s)
theorem Vals.take : ∀ {xs : List V} {us : List Value} (n : Nat), Vals xs us → Vals (xs.take n) (us.take n)
  | _, _, 0, _ => .nil
  | _, _, _ + 1, .nil => .nil
  | _, _, n + 1, .cons r t => .cons r (Vals.take n t)
theorem Vals.drop : ∀ {xs : List V} {us : List Value} (n : Nat), Vals xs us → Vals (xs.drop n) (us.drop n)
  | _, _, 0, r => r
  | _, _, _ + 1, .nil => .nil
  | _, _, n + 1, .cons _ t => Vals.drop n t
noncomputable def RelO : Option V → Option Value → Prop
  | some v, some u => RelV v u
  | none, none => True
  | _, _ => False
noncomputable def KV {κ : Type} : List (κ × V) → List (κ × Value) → Prop := Paired fun (p : κ × V) (q : κ × Value) => p.1 = q.1 ∧ RelV p.2 q.2
noncomputable def kV : Key → V
  | .inl i => .int i
  | .inr x => .str x
inductive HO where
  /-- a list -/
  | lst (xs : List V)
  /-- a tuple (never changes) -/
  | tup (xs : List V)
  /-- a dict whose keys are ints and texts; one whose keys are tuples of ints and texts (the empty one is both) -/
  | dK (kvs : List (Key × V)) | dT (kvs : List (List Key × V))
  /-- a set of ints: its members, its size -/
  | set (S : Int → Bool) (n : Nat)
  /-- an instance of the class at C, its dict at dx, its attributes -/
  | ins (C dx : Addr) (fs : List (Str × V))
  /-- the dict of the instance at x -/
  | own (x : Addr)
  /-- the dict of an exception -/
  | xd (fs : List (Str × V))
  /-- a bound method, f of x -/
  | met (f x : Addr)
  /-- a range object lo, lo + 1, .. below hi -/
  | rng (lo hi : Int)
  /-- a thing that is known to the object (the script; a dict while a loop walks it): read, never written while it is so -/
  | frz (o : Obj) (u : HO)
  /-- a code object's table -/
  | tbl (ps : Array Value)
  /-- a def's table of codes made in its body, all of the qualified name q; the codes are its own -/
  | tab (q : Str)
  /-- any other thing, by what is true of its one object (a def of one's own: SetO a S n := HO.ext fun h => ..) -/
  | ext (φ : Heap → Prop)
noncomputable abbrev Hp := Addr → Option HO
noncomputable def upd (H : Hp) (a : Addr) (o : HO) : Hp := fun b => if b = a then some o else H b
theorem upd_same {H : Hp} {a : Addr} {o : HO} : upd H a o a = some o := by unfold upd; rw [if_pos rfl]
theorem upd_ne {H : Hp} {a b : Addr} {o : HO} (h : b ≠ a) : upd H a o b = H b := by unfold upd; rw [if_neg h]
theorem upd_upd {H : Hp} {a : Addr} {o u : HO} : upd (upd H a o) a u = upd H a u := by
  funext b; unfold upd; split <;> rfl
theorem ne_of {H : Hp} {a b : Addr} {o u : HO} (h : H a = some o) (h' : H b = some u) (d : o ≠ u) : a ≠ b := by
  intro e; subst e; rw [h] at h'; exact d (Option.some.inj h')
theorem ne_of_none {H : Hp} {a b : Addr} {o : HO} (h : H a = some o) (h' : H b = none) : a ≠ b := by
  intro e; subst e; rw [h] at h'; cases h'
section
variable (P : Program) (w : World)
noncomputable def CodeO (o : Obj) (q : Str) : Prop := ∃ vs t, o.data = .fields vs ∧ vs[1]? = some (.str q t)
noncomputable def ObjOk (H : Hp) (h : Heap) (a : Addr) : HO → Prop
  | .lst xs => xs.length ≤ sizeLine ∧ ∃ (its : List Value) (n : Nat), Vals xs its ∧ h.get? a = some { cls := .type "list", data := .seq its.toArray n }
  | .tup xs => xs.length ≤ sizeLine ∧ ∃ its : List Value, Vals xs its ∧ IsTup h a its.toArray
  | .dK kvs => kvs.length ≤ sizeLine ∧ (a == sysModules) = false ∧ ∃ vs, KV kvs vs ∧ h.DictOf (mixKind P w) a vs
  | .dT kvs => kvs.length ≤ sizeLine ∧ (a == sysModules) = false ∧ ∃ xs : List (List Key × Addr × Value),
      Paired (fun (p : List Key × V) (q : List Key × Addr × Value) => p.1 = q.1 ∧ H q.2.1 = some (.tup (p.1.map kV)) ∧ RelV p.2 q.2.2) kvs xs ∧
      ∃ o es ep, h.get? a = some o ∧ o.ExactDict ∧ o.data = .dict es ep ∧ es.toList = xs.map (entryOfKey (tupleKind (mixKind P w))) ∧ (xs.map (·.1)).Nodup
  | .set S n => h.SetOf (intKind P w) a S n
  | .ins C dx fs => H dx = some (.own a) ∧ fs.length ≤ 1000 ∧ dx ≠ a ∧ h.get? a = some (PySem.W.instObj C dx) ∧
      ∃ mA, h.Ns1 dx mA ∧ (∀ f, RelO (fs.lookup f) (mA f)) ∧ PySem.Within mA (fs.map (·.1))
  | .own _ => ∃ o, h.get? a = some o
  | .xd fs => ∃ mA, h.Ns1 a mA ∧ ∀ f, RelO (fs.lookup f) (mA f)
  | .rng lo hi => ∃ t u v, h.get? a = some { cls := .type "range", data := .fields #[.int lo t, .int hi u, .int 1 v] }
  | .frz o u => h.get? a = some o ∧ ObjOk H h a u
  | .tbl ps => h.get? a = some { cls := .none, data := .fields ps }
  | .tab q => ∃ ps : Array Value, h.get? a = some { cls := .none, data := .fields ps } ∧ TriplesOk ps.toList ∧ ∀ pos cv, codeAmong pos ps.toList = some cv → ∃ c oc, cv = Value.ref c ∧ c ≠ a ∧ H c = some (.frz oc (.own a)) ∧ CodeO oc q
  | .met f x => h.get? a = some (PySem.W.methodObj (.ref f) (.ref x))
  | .ext φ => φ h ∧ (∃ o, h.get? a = some o) ∧ ∀ h1 h2 : Heap, φ h1 → (∀ o, h1.get? a = some o → h2.get? a = some o) → φ h2
noncomputable def HOk (H : Hp) (h : Heap) : Prop := ∀ a o, H a = some o → ObjOk P w H h a o
end
section
variable {P : Program} {w : World} {H H' : Hp} {h h' : Heap} {a : Addr} {o : HO}
theorem ObjOk.lt (x : ObjOk P w H h a o) : a < h.objs.size := by
  cases o with
  | lst xs => obtain ⟨_, _, _, _, e⟩ := x; exact Heap.lt_size e
  | tup xs => obtain ⟨_, _, _, p⟩ := x; exact p.lt
  | dK kvs => obtain ⟨_, _, _, _, o, _, _, e, _⟩ := x; exact Heap.lt_size e
  | dT kvs => obtain ⟨_, _, _, _, o, _, _, e, _⟩ := x; exact Heap.lt_size e
  | set S n => obtain ⟨o, _, _, _, e, _⟩ := x; exact Heap.lt_size e
  | ins C dx fs => obtain ⟨_, _, _, e, _⟩ := x; exact Heap.lt_size e
  | own y => obtain ⟨_, e⟩ := x; exact Heap.lt_size e
  | xd fs => obtain ⟨_, ⟨_, _, _, e, _⟩, _⟩ := x; exact Heap.lt_size e
  | rng lo hi => obtain ⟨_, _, _, e⟩ := x; exact Heap.lt_size e
  | frz ob u => obtain ⟨e, _⟩ := x; exact Heap.lt_size e
  | tbl ps => exact Heap.lt_size (show h.get? a = some _ from x)
  | tab q => obtain ⟨_, e, _⟩ := x; exact Heap.lt_size e
  | met f y => exact Heap.lt_size (show h.get? a = some _ from x)
  | ext φ => obtain ⟨_, ⟨_, e⟩, _⟩ := x; exact Heap.lt_size e
theorem Paired.mapP {α β : Type} {F G : α → β → Prop} : ∀ {l₁ : List α} {l₂ : List β}, Paired F l₁ l₂ → (∀ a b, F a b → G a b) → Paired G l₁ l₂
  | _, _, .nil, _ => .nil
  | _, _, .cons r t, f => .cons (f _ _ r) (Paired.mapP t f)
theorem ObjOk.stay (x : ObjOk P w H h a o) (k : ∀ b u, (b = a ∨ H b = some (.own a)) → h.get? b = some u → h'.get? b = some u)
    (ho : ∀ b, H b = some (.own a) → H' b = some (.own a)) (ht : ∀ b xs, H b = some (.tup xs) → H' b = some (.tup xs)) (hz : ∀ b o y, H b = some (.frz o (.own y)) → H' b = some (.frz o (.own y)) := by exact fun _ _ _ q => q) : ObjOk P w H' h' a o := by
  induction o with
  | lst xs => obtain ⟨z, its, n, r, e⟩ := x; exact ⟨z, its, n, r, k _ _ (.inl rfl) e⟩
  | tup xs => obtain ⟨z, its, r, ob, e, c⟩ := x; exact ⟨z, its, r, ob, k _ _ (.inl rfl) e, c⟩
  | dK kvs => obtain ⟨z, y, vs, r, ob, es, ep, e, c⟩ := x; exact ⟨z, y, vs, r, ob, es, ep, k _ _ (.inl rfl) e, c⟩
  | dT kvs =>
    obtain ⟨z, y, xs, r, ob, es, ep, e, c⟩ := x
    exact ⟨z, y, xs, Paired.mapP r fun p q z => ⟨z.1, ht _ _ z.2.1, z.2.2⟩, ob, es, ep, k _ _ (.inl rfl) e, c⟩
  | set S n => obtain ⟨ob, es, ep, t, e, c⟩ := x; exact ⟨ob, es, ep, t, k _ _ (.inl rfl) e, c⟩
  | ins C dx fs =>
    obtain ⟨d, z, ne, e, mA, ⟨od, es, ep, e2, c⟩, r⟩ := x
    exact ⟨ho _ d, z, ne, k _ _ (.inl rfl) e, mA, ⟨od, es, ep, k _ _ (.inr d) e2, c⟩, r⟩
  | own y => obtain ⟨ob, e⟩ := x; exact ⟨ob, k _ _ (.inl rfl) e⟩
  | xd fs => obtain ⟨mA, ⟨od, es, ep, e, c⟩, r⟩ := x; exact ⟨mA, ⟨od, es, ep, k _ _ (.inl rfl) e, c⟩, r⟩
  | rng lo hi => obtain ⟨t, u, v, e⟩ := x; exact ⟨t, u, v, k _ _ (.inl rfl) e⟩
  | frz ob u ih => obtain ⟨e, q⟩ := x; exact ⟨k _ _ (.inl rfl) e, ih q⟩
  | tbl ps =>
    have e : h.get? a = some { cls := .none, data := .fields ps } := x
    show h'.get? a = some { cls := .none, data := .fields ps }
    exact k a _ (.inl rfl) e
  | tab q =>
    obtain ⟨ps, e, t, hc⟩ := x
    refine ⟨ps, k _ _ (.inl rfl) e, t, fun pos cv z => ?_⟩
    obtain ⟨c, oc, ec, ne, hw, hq⟩ := hc pos cv z
    exact ⟨c, oc, ec, ne, hz _ _ _ hw, hq⟩
  | met f y =>
    have e : h.get? a = some (PySem.W.methodObj (.ref f) (.ref y)) := x
    show h'.get? a = some (PySem.W.methodObj (.ref f) (.ref y))
    exact k a _ (.inl rfl) e
  | ext φ => obtain ⟨p, ⟨o, e⟩, st⟩ := x; exact ⟨st _ _ p fun o q => k _ _ (.inl rfl) q, ⟨o, k _ _ (.inl rfl) e⟩, st⟩
theorem HOk.lt (x : HOk P w H h) (e : H a = some o) : a < h.objs.size := (x a o e).lt
theorem HOk.fresh (x : HOk P w H h) (e : h.objs.size ≤ a) : H a = none := by
  cases q : H a with
  | none => rfl
  | some u => exact absurd (Nat.lt_of_lt_of_le (x.lt q) e) (Nat.lt_irrefl _)
theorem HOk.kept (x : HOk P w H h) (k : ∀ b u, h.get? b = some u → h'.get? b = some u) : HOk P w H h' := fun a o e =>
  (x a o e).stay (fun b u _ q => k b u q) (fun _ q => q) fun _ _ q => q
theorem HOk.laid (x : HOk P w H h) (k : ∀ b u, h.get? b = some u → h'.get? b = some u) (hp : h.objs.size ≤ a) (new : ObjOk P w (upd H a o) h' a o) : HOk P w (upd H a o) h' := fun b u e => by
  have hn := x.fresh hp
  by_cases hb : b = a
  · subst hb; rw [upd_same] at e; cases e; exact new
  · rw [upd_ne hb] at e
    exact (x b u e).stay (fun c v _ q => k c v q) (fun c q => by rw [upd_ne (ne_of_none q hn)]; exact q) (fun c xs q => by rw [upd_ne (ne_of_none q hn)]; exact q) fun c _ _ q => by rw [upd_ne (ne_of_none q hn)]; exact q
end
noncomputable def Rd (H : Hp) (a : Addr) (u : HO) : Prop := H a = some u ∨ ∃ o, H a = some (.frz o u)
theorem Rd.ok {P : Program} {w : World} {H : Hp} {h : Heap} {a : Addr} {u : HO} (r : Rd H a u) (x : HOk P w H h) : ObjOk P w H h a u := by
  rcases r with r | ⟨o, r⟩
  · exact x a u r
  · obtain ⟨_, q⟩ := x a _ r
    exact q
noncomputable def Mut : Option HO → Prop
  | some (.lst _) => True
  | some (.dK _) => True
  | some (.dT _) => True
  | some (.set _ _) => True
  | some (.ins _ _ _) => True
  | some (.ext _) => True
  | some (.tab _) => True
  | _ => False
section
variable {P : Program} {w : World} {H : Hp} {h h' : Heap} {x e : Addr} {o' : HO}
theorem HOk.write (ok : HOk P w H h) (mu : Mut (H x)) (he : e = x ∨ H e = some (.own x)) (k : ∀ b u, b ≠ e → h.get? b = some u → h'.get? b = some u) (heo : ∃ u, h'.get? e = some u)
    (new : ObjOk P w (upd H x o') h' x o') : HOk P w (upd H x o') h' := fun b u q => by
  have nown : ∀ c y, H c = some (.own y) → c ≠ x := fun c y r z => by subst z; rw [r] at mu; exact mu
  have ntup : ∀ c xs, H c = some (.tup xs) → c ≠ x := fun c xs r z => by subst z; rw [r] at mu; exact mu
  by_cases hb : b = x
  · subst hb; rw [upd_same] at q; cases q; exact new
  · rw [upd_ne hb] at q
    by_cases hbe : b = e
    · have q' : H b = some (.own x) := by
        rcases he with z | z
        · exact absurd (hbe.trans z) hb
        · rw [hbe]; exact z
      rw [q] at q'; cases q'
      obtain ⟨v, hv⟩ := heo
      exact ⟨v, by rw [hbe]; exact hv⟩
    · refine (ok b u q).stay (fun c v hc r => k c v ?_ r) (fun c r => by rw [upd_ne (nown c b r)]; exact r) (fun c xs r => by rw [upd_ne (ntup c xs r)]; exact r) fun c _ _ r => by rw [upd_ne (fun z => by subst z; rw [r] at mu; exact mu)]; exact r
      rcases hc with rfl | hc
      · exact hbe
      · rintro rfl
        rcases he with z | z
        · exact nown c b hc z
        · rw [hc] at z; cases z; exact hb rfl
end
structure Un (fs ex : List Addr) (H H' : Hp) (h h' : Heap) : Prop where
  keep : ∀ b o, h.get? b = some o → H b = none → b ∉ fs → b ∉ ex → h'.get? b = some o
  slot : ∀ b o, h.get? b = some o → H b = none → b ∈ fs → b ∉ ex → ∃ sl, h'.get? b = some { o with slots := sl }
  free : ∀ b o, h.get? b = some o → H b = none → b ∉ ex → H' b = none
  there : ∀ b o, h.get? b = some o → b ∉ ex → ∃ o', h'.get? b = some o'
  tups : ∀ b xs, H b = some (.tup xs) → H' b = some (.tup xs)
  frzs : ∀ b o u, H b = some (.frz o u) → H' b = some (.frz o u)
  tbls : ∀ b ps, H b = some (.tbl ps) → ∃ more, H' b = some (.tbl (ps ++ more))
section
variable {fs fs' ex ex' : List Addr} {H H1 H2 : Hp} {h h1 h2 h' : Heap} {a x e : Addr} {o : HO}
theorem Un.any (u : Un fs ex H H1 h h1) {b : Addr} {ob : Obj} (q : h.get? b = some ob) (n : H b = none) (hx : b ∉ ex) : ∃ sl, h1.get? b = some { ob with slots := sl } := by
  by_cases hb : b ∈ fs
  · exact u.slot b ob q n hb hx
  · exact ⟨ob.slots, u.keep b ob q n hb hx⟩
theorem Un.kept (k : ∀ b u, h.get? b = some u → h'.get? b = some u) : Un fs ex H H h h' :=
  ⟨fun b ob q _ _ _ => k b ob q, fun b ob q _ _ _ => ⟨ob.slots, k b ob q⟩, fun _ _ _ n _ => n, fun b ob q _ => ⟨ob, k b ob q⟩, fun _ _ q => q, fun _ _ _ q => q, fun _ ps q => ⟨#[], by rw [q]; simp⟩⟩
theorem Un.refl : Un fs ex H H h h := Un.kept fun _ _ q => q
theorem Un.laid (k : ∀ b u, h.get? b = some u → h'.get? b = some u) (hp : h.objs.size ≤ a) (hn : H a = none) : Un fs ex H (upd H a o) h h' where
  keep := fun b u q _ _ _ => k b u q
  slot := fun b u q _ _ _ => ⟨u.slots, k b u q⟩
  free := fun b u q n _ => by rw [upd_ne (Nat.ne_of_lt (Nat.lt_of_lt_of_le (Heap.lt_size q) hp))]; exact n
  there := fun b u q _ => ⟨u, k b u q⟩
  tups := fun b xs q => by rw [upd_ne (ne_of_none q hn)]; exact q
  frzs := fun b u xs q => by rw [upd_ne (ne_of_none q hn)]; exact q
  tbls := fun b ps q => ⟨#[], by rw [upd_ne (ne_of_none q hn), q]; simp⟩
theorem Un.write (mu : Mut (H x)) (he : e = x ∨ H e = some (.own x)) (k : ∀ b u, b ≠ e → h.get? b = some u → h'.get? b = some u) (heo : ∃ u, h'.get? e = some u) : Un fs ex H (upd H x o) h h' := by
  have hx : ∀ b, H b = none → b ≠ x := fun b n z => by subst z; rw [n] at mu; exact mu
  have hb : ∀ b, H b = none → b ≠ e := fun b n z => by
    subst z
    rcases he with r | r
    · exact hx b n r
    · rw [n] at r; cases r
  have hm : ∀ b u, H b = some u → ¬ Mut (some u) → b ≠ x := fun b u q nm z => by subst z; rw [q] at mu; exact nm mu
  refine ⟨fun b u q n _ _ => k b u (hb b n) q, fun b u q n _ _ => ⟨u.slots, k b u (hb b n) q⟩, fun b u q n _ => by rw [upd_ne (hx b n)]; exact n, fun b u q _ => ?_,
    fun b xs q => by rw [upd_ne (hm b _ q fun z => z)]; exact q, fun b u xs q => by rw [upd_ne (hm b _ q fun z => z)]; exact q, fun b ps q => ⟨#[], by rw [upd_ne (hm b _ q fun z => z), q]; simp⟩⟩
  by_cases hbe : b = e
  · subst hbe; exact heo
  · exact ⟨u, k b u hbe q⟩
end
noncomputable def trk (h : Heap) (H : Hp) : List Addr := (List.range h.objs.size).filter fun a => (H a).isSome
noncomputable def hidT (h : Heap) (H : Hp) : Heap := PySem.W.hideAll h (trk h H)
theorem hidT_size (h : Heap) (H : Hp) : (hidT h H).objs.size = h.objs.size := PySem.W.hideAll_size _ _
theorem hidT_get {h : Heap} {H : Hp} {b : Addr} {o : Obj} (e : h.get? b = some o) (n : H b = none) : (hidT h H).get? b = some o :=
  PySem.W.hideAll_get _ e fun hm => by
    have q : (H b).isSome = true := (List.mem_filter.mp hm).2
    rw [n] at q; simp at q
theorem of_hidT {h : Heap} {H : Hp} {b : Addr} {o : Obj} (e : (hidT h H).get? b = some o) : h.get? b = some o ∧ H b = none := by
  have e' : h.get? b = some o := PySem.W.of_hideAll (trk h H) e
  refine ⟨e', ?_⟩
  cases q : H b with
  | none => rfl
  | some x =>
    have hm : b ∈ trk h H := List.mem_filter.mpr ⟨List.mem_range.mpr (Heap.lt_size e'), by simp [q]⟩
    have z : (hidT h H).get? b = none := PySem.W.hideAll_none (trk h H) hm
    rw [z] at e; cases e
end L2
namespace L2
open PySem PySem.Spec PyProof.Rows
structure Mod (K : PySem.W.Frag) (mg : Str → Option Value) (base : Heap) : Prop where
  kin : K.In base
  glob : base.Ns mainGlobals mg
  blt : ∃ mb, base.Ns builtinsNs mb ∧ ∀ x : Str, x ≠ "__name__" → mb x = bootBuiltins x
  nolimit : base.NoLimit
structure Cx where
  prog : Program
  w : World
  K : PySem.W.Frag
  mg : Str → Option Value
  base : Heap
  A : Around
  N : List Str
  s₀ : Shared
  H₀ : Hp
  env : Env
  outer : List Env
  stack : List Env
  ex : List Addr
  fn : Str → Bool
  calm : Bool
  pn : List (Addr × Obj)
  xe : Value → Shared → Prop
noncomputable def frs (l : List Env) : List Addr := l.filterMap (·.frame)
noncomputable abbrev Cx.fs (X : Cx) : List Addr := frs X.outer
noncomputable def Vis (sc : Scope) (x : Str) : Prop := sc.names.lookup x = some .local ∨ sc.names.lookup x = some .cell ∨ sc.names.lookup x = some .free
noncomputable def Loc (sc : Scope) (x : Str) : Prop := sc.names.lookup x = some .local ∨ sc.names.lookup x = some .cell
noncomputable def Look (env : Env) (h : Heap) (m : Str → Option Value) (x : Str) (u : Value) : Prop :=
  (env.kindOf x = some .local ∧ m x = some u) ∨ ((env.kindOf x = some .cell ∨ env.kindOf x = some .free) ∧ ∃ c, env.cells.lookup x = some c ∧ h.IsCell c (some u))
structure Cx.Ok (X : Cx) : Prop where
  mod : Mod X.K X.mg X.base
  kind : X.env.scope.kind = .function
  glob : X.env.globals = mainGlobals
  blt : X.env.builtins = builtinsNs
  above : X.s₀.heap.objs.size ≤ X.env.locals
  inj : ∀ x y c, X.env.cells.lookup x = some c → X.env.cells.lookup y = some c → x = y
  has : ∀ x, (X.env.kindOf x = some .cell ∨ X.env.kindOf x = some .free) → ∃ c, X.env.cells.lookup x = some c
  cab : ∀ x c, X.fn x = true → X.env.cells.lookup x = some c → X.s₀.heap.objs.size ≤ c
  hd : X.calm = true → X.A.handled = none
  frames : X.A.frames = some X.stack
  stk : X.stack = X.outer ∨ (X.stack = X.env :: X.outer ∧ X.env.frame = some X.env.locals)
  exf : ∀ b ∈ X.ex, b ≠ X.env.locals ∧ ∀ x c, X.env.cells.lookup x = some c → c ≠ b
  bs : ∀ b o, X.base.get? b = some o → X.s₀.heap.get? b = some o ∧ X.H₀ b = none
  bsz : X.base.objs.size ≤ X.s₀.heap.objs.size
  noex : ∀ b o, X.base.get? b = some o → b ∉ X.ex
  exfs : ∀ b ∈ X.ex, b ∉ X.fs
  funs : X.s₀.heap.FunFrames X.base X.outer
  frf : ∀ b ∈ X.fs, X.H₀ b = none
structure Inv (X : Cx) (pins : List (Addr × Obj)) (σ : List (Option V)) (H : Hp) (s : Shared) : Prop where
  ok : X.Ok
  os : s.os = X.s₀.os
  bare : AllBare s.gens
  base : Un X.fs X.ex X.H₀ H X.s₀.heap s.heap
  loc : ∃ m, s.heap.Ns X.env.locals m ∧ ∀ (i : Nat) (x : Str) (v : V), X.N[i]? = some x → σ[i]? = some (some v) → Vis X.env.scope x → ∃ u, RelV v u ∧ Look X.env s.heap m x u
  cell : ∀ x c, X.env.cells.lookup x = some c → ∃ v, s.heap.IsCell c v
  free : H X.env.locals = none
  freeC : ∀ x c, X.env.cells.lookup x = some c → H c = none
  pin : ∀ p ∈ X.pn ++ pins, s.heap.get? p.1 = some p.2 ∧ H p.1 = none ∧ p.1 ≠ X.env.locals ∧ p.1 ∉ X.fs ∧ ∀ v, p.2.data ≠ .cell v
  hok : HOk X.prog X.w H s.heap
  len : σ.length = X.N.length
section
variable {X : Cx} {pins : List (Addr × Obj)} {σ : List (Option V)} {H H' : Hp} {s : Shared} {h' : Heap}
theorem Cx.Ok.nofr (ok : X.Ok) {b : Addr} {o : Obj} (e : X.base.get? b = some o) : b ∉ X.fs := fun hb => by
  have := (ok.funs.mem hb).1
  rw [e] at this; cases this
theorem Inv.bs (I : Inv X pins σ H s) : ∀ b o, X.base.get? b = some o → s.heap.get? b = some o ∧ H b = none := fun b o e =>
  ⟨I.base.keep b o (I.ok.bs b o e).1 (I.ok.bs b o e).2 (I.ok.nofr e) (I.ok.noex b o e), I.base.free b o (I.ok.bs b o e).1 (I.ok.bs b o e).2 (I.ok.noex b o e)⟩
theorem Inv.bk (I : Inv X pins σ H s) : ∀ b o, X.base.get? b = some o → s.heap.get? b = some o := fun b o e => (I.bs b o e).1
theorem Inv.mod (I : Inv X pins σ H s) : Mod X.K X.mg X.base := I.ok.mod
theorem Inv.kIn (I : Inv X pins σ H s) : X.K.In s.heap := I.ok.mod.kin.keeps I.bk
theorem Inv.lt (I : Inv X pins σ H s) : X.env.locals < s.heap.objs.size := let ⟨_, hn, _⟩ := I.loc; hn.lt
theorem Inv.sz (I : Inv X pins σ H s) : X.s₀.heap.objs.size ≤ s.heap.objs.size := Nat.le_trans I.ok.above (Nat.le_of_lt I.lt)
theorem Inv.nofs (I : Inv X pins σ H s) {a : Addr} (h : s.heap.objs.size ≤ a) : a ∉ X.fs := fun hb => by
  obtain ⟨_, o, ho, _⟩ := I.ok.funs.mem hb
  exact absurd (Nat.lt_of_lt_of_le (Heap.lt_size ho) (Nat.le_trans I.sz h)) (Nat.lt_irrefl _)
theorem Inv.cne (I : Inv X pins σ H s) : ∀ x c, X.env.cells.lookup x = some c → c ≠ X.env.locals := fun x c e z => by
  obtain ⟨v, o, ho, hd⟩ := I.cell x c e
  obtain ⟨m, ⟨o', es, ep, ho', hd', _⟩, _⟩ := I.loc
  rw [z, ho'] at ho; cases ho; rw [hd'] at hd; cases hd
theorem Inv.funs (I : Inv X pins σ H s) : s.heap.FunFrames X.base X.outer := by
  have all : ∀ (l : List Env), (∀ b ∈ frs l, b ∈ X.fs) → X.s₀.heap.FunFrames X.base l → s.heap.FunFrames X.base l := by
    intro l
    induction l with
    | nil => intro _ _; trivial
    | cons env r ih =>
      intro hs hl
      obtain ⟨hk, ⟨L, o, hf, hn, ho, hd⟩, hr⟩ := hl
      have hL : L ∈ X.fs := hs L (by unfold frs; rw [List.filterMap_cons, hf]; exact List.mem_cons_self)
      obtain ⟨sl, e⟩ := I.base.slot L o ho (I.ok.frf L hL) hL fun z => I.ok.exfs L z hL
      exact ⟨hk, ⟨L, _, hf, hn, e, hd⟩, ih (fun b hb => hs b (by unfold frs; rw [List.filterMap_cons, hf]; exact List.mem_cons_of_mem _ hb)) hr⟩
  exact all X.outer (fun _ hb => hb) I.ok.funs
theorem Inv.stack (I : Inv X pins σ H s) : s.heap.FunFrames X.base X.stack := by
  rcases I.ok.stk with e | ⟨e, hf⟩
  · rw [e]; exact I.funs
  · rw [e]
    obtain ⟨m, hn, _⟩ := I.loc
    refine .cons (by rw [I.ok.kind]; decide) hf hn ?_ I.funs
    exact Heap.get?_none_of_le (Nat.le_trans I.ok.bsz I.ok.above)
theorem Inv.stkSub (I : Inv X pins σ H s) : ∀ b ∈ frs X.stack, b ∈ X.env.locals :: X.fs := fun b hb => by
  rcases I.ok.stk with e | ⟨e, hf⟩
  · rw [e] at hb; exact List.mem_cons_of_mem _ hb
  · rw [e] at hb
    unfold frs at hb
    rw [List.filterMap_cons, hf] at hb
    exact hb
theorem Inv.stkFree (I : Inv X pins σ H s) : ∀ b ∈ frs X.stack, H b = none := fun b hb => by
  rcases List.mem_cons.mp (I.stkSub b hb) with e | hb
  · rw [e]; exact I.free
  · obtain ⟨_, o, ho, _⟩ := I.ok.funs.mem hb
    exact I.base.free b o ho (I.ok.frf b hb) fun z => I.ok.exfs b z hb
theorem Inv.step {g' : Array GenState} {t' : Nat} {d' : Drawn} {ch : List Addr} (I : Inv X pins σ H s)
    (hch : ∀ b ∈ ch, (b ∈ X.ex ∨ X.s₀.heap.objs.size ≤ b) ∧ b ≠ X.env.locals ∧ (∀ x c, X.env.cells.lookup x = some c → c ≠ b) ∧ ∀ p ∈ X.pn ++ pins, p.1 ≠ b)
    (keep : ∀ b o, b ≠ X.env.locals → b ∉ X.fs → b ∉ ch → s.heap.get? b = some o → H b = none → h'.get? b = some o)
    (slot : ∀ b o, b ≠ X.env.locals → b ∈ X.fs → b ∉ ch → s.heap.get? b = some o → H b = none → ∃ sl, h'.get? b = some { o with slots := sl }) (free : ∀ b o, b ∉ ch → s.heap.get? b = some o → H b = none → H' b = none)
    (there : ∀ b o, b ∉ ch → s.heap.get? b = some o → ∃ o', h'.get? b = some o')
    (tups : ∀ b xs, H b = some (.tup xs) → H' b = some (.tup xs)) (frzs : ∀ b o u, H b = some (.frz o u) → H' b = some (.frz o u)) (tbls : ∀ b ps, H b = some (.tbl ps) → ∃ more, H' b = some (.tbl (ps ++ more)))
    (ns : ∀ m, s.heap.Ns X.env.locals m → h'.Ns X.env.locals m) (hok : HOk X.prog X.w H' h') (hg : AllBare g') :
    Inv X pins σ H' { s with heap := h', gens := g', drawn := d', toks := t' } := by
  have neL : ∀ b o, X.s₀.heap.get? b = some o → b ≠ X.env.locals := fun b o e => Nat.ne_of_lt (Nat.lt_of_lt_of_le (Heap.lt_size e) I.ok.above)
  have neC : ∀ b o, X.s₀.heap.get? b = some o → b ∉ X.ex → b ∉ ch := fun b o e hx hb => by
    rcases (hch b hb).1 with z | z
    · exact hx z
    · exact absurd (Nat.lt_of_lt_of_le (Heap.lt_size e) z) (Nat.lt_irrefl _)
  have cellK : ∀ x c, X.env.cells.lookup x = some c → ∀ v, s.heap.IsCell c v → h'.IsCell c v := fun x c e v ⟨o, ho, hd⟩ => by
    have nch : c ∉ ch := fun z => (hch c z).2.2.1 x c e rfl
    by_cases hc : c ∈ X.fs
    · obtain ⟨sl, q⟩ := slot c o (I.cne x c e) hc nch ho (I.freeC x c e)
      exact ⟨_, q, hd⟩
    · exact ⟨o, keep c o (I.cne x c e) hc nch ho (I.freeC x c e), hd⟩
  refine ⟨I.ok, I.os, hg, ⟨fun b o e n hb hx => ?_, fun b o e n hb hx => ?_, fun b o e n hx => ?_, fun b o e hx => ?_, fun b xs e => tups b xs (I.base.tups b xs e), fun b o xs e => frzs b o xs (I.base.frzs b o xs e), fun b ps e => ?_⟩, ?_, fun x c e => ?_, ?_, fun x c e => ?_, fun p hp => ?_, hok, I.len⟩
  · exact keep b o (neL b o e) hb (neC b o e hx) (I.base.keep b o e n hb hx) (I.base.free b o e n hx)
  · obtain ⟨sl, e1⟩ := I.base.slot b o e n hb hx
    obtain ⟨sl', e2⟩ := slot b _ (neL b o e) hb (neC b o e hx) e1 (I.base.free b o e n hx)
    exact ⟨sl', e2⟩
  · obtain ⟨o', e1⟩ := I.base.there b o e hx
    exact free b o' (neC b o e hx) e1 (I.base.free b o e n hx)
  · obtain ⟨o', e1⟩ := I.base.there b o e hx
    exact there b o' (neC b o e hx) e1
  · obtain ⟨m1, e1⟩ := I.base.tbls b ps e
    obtain ⟨m2, e2⟩ := tbls b _ e1
    exact ⟨m1 ++ m2, by rw [e2, Array.append_assoc]⟩
  · obtain ⟨m, hn, hl⟩ := I.loc
    refine ⟨m, ns m hn, fun i x v e1 e2 e3 => ?_⟩
    obtain ⟨u, r, l⟩ := hl i x v e1 e2 e3
    refine ⟨u, r, ?_⟩
    rcases l with l | ⟨k, c, e, z⟩
    · exact .inl l
    · exact .inr ⟨k, c, e, cellK x c e _ z⟩
  · obtain ⟨v, z⟩ := I.cell x c e
    exact ⟨v, cellK x c e v z⟩
  · obtain ⟨m, ⟨o, _, _, ho, _⟩, _⟩ := I.loc
    exact free _ o (fun z => (hch _ z).2.1 rfl) ho I.free
  · obtain ⟨v, o, ho, hd⟩ := I.cell x c e
    exact free c o (fun z => (hch c z).2.2.1 x c e rfl) ho (I.freeC x c e)
  · obtain ⟨e, n, ne, nf, d⟩ := I.pin p hp
    have nch : p.1 ∉ ch := fun z => (hch p.1 z).2.2.2 p hp rfl
    exact ⟨keep p.1 p.2 ne nf nch e n, free p.1 p.2 nch e n, ne, nf, d⟩
theorem Inv.un {t' : Nat} (I : Inv X pins σ H s) (u : Un X.fs [] H H' s.heap h') (hok : HOk X.prog X.w H' h') : Inv X pins σ H' { s with heap := h', toks := t' } := by
  obtain ⟨m, ⟨o, es, ep, ho, r⟩, _⟩ := id I.loc
  obtain ⟨sl, hL⟩ := u.any ho I.free (by simp)
  exact I.step (g' := s.gens) (d' := s.drawn) (ch := []) (fun _ z => nomatch z) (fun b o _ hb _ e n => u.keep b o e n hb (by simp)) (fun b o _ hb _ e n => u.slot b o e n hb (by simp)) (fun b o _ e n => u.free b o e n (by simp)) (fun b o _ e => u.there b o e (by simp)) u.tups u.frzs u.tbls (fun m' hm => by
    obtain ⟨o', es', ep', ho', r'⟩ := hm
    rw [ho] at ho'; cases ho'
    exact ⟨_, es', ep', hL, r'⟩) hok I.bare
theorem Inv.call {g' : Array GenState} {t' : Nat} {d' : Drawn} {ch : List Addr} (I : Inv X pins σ H s) (u : Un (frs X.stack) ch H H' s.heap h') (hok : HOk X.prog X.w H' h') (hg : AllBare g')
    (hch : ∀ b ∈ ch, (b ∈ X.ex ∨ X.s₀.heap.objs.size ≤ b) ∧ b ≠ X.env.locals ∧ (∀ x c, X.env.cells.lookup x = some c → c ≠ b) ∧ ∀ p ∈ X.pn ++ pins, p.1 ≠ b) :
    Inv X pins σ H' { s with heap := h', gens := g', drawn := d', toks := t' } := by
  obtain ⟨m, ⟨o, es, ep, ho, r⟩, _⟩ := id I.loc
  obtain ⟨sl, hL⟩ := u.any ho I.free fun z => (hch _ z).2.1 rfl
  exact I.step (ch := ch) hch (fun b o hL hb hc e n => u.keep b o e n (fun z => (List.mem_cons.mp (I.stkSub b z)).elim hL hb) hc) (fun b o _ _ hc e n => u.any e n hc) (fun b o hc e n => u.free b o e n hc) (fun b o hc e => u.there b o e hc) u.tups u.frzs u.tbls (fun m' hm => by
    obtain ⟨o', es', ep', ho', r'⟩ := hm
    rw [ho] at ho'; cases ho'
    exact ⟨_, es', ep', hL, r'⟩) hok hg
theorem Inv.turned {t' : Nat} {it : Addr} (I : Inv X pins σ H s) (k : ∀ b o, b ≠ it → s.heap.get? b = some o → h'.get? b = some o) (hn : H it = none) (hL : it ≠ X.env.locals)
    (h1 : it ∈ X.ex ∨ X.s₀.heap.objs.size ≤ it) (h2 : ∀ x c, X.env.cells.lookup x = some c → c ≠ it) (h3 : ∀ p ∈ X.pn ++ pins, p.1 ≠ it) : Inv X pins σ H { s with heap := h', toks := t' } := by
  have nit : ∀ b u, H b = some u → b ≠ it := fun b u e z => by rw [z, hn] at e; cases e
  refine I.step (g' := s.gens) (d' := s.drawn) (ch := [it]) (fun b hb => ?_) (fun b o _ _ hc e _ => k b o (fun z => hc (by simp [z])) e) (fun b o _ _ hc e _ => ⟨o.slots, k b o (fun z => hc (by simp [z])) e⟩) (fun _ _ _ _ n => n)
    (fun b o hc e => ⟨o, k b o (fun z => hc (by simp [z])) e⟩) (fun _ _ e => e) (fun _ _ _ e => e) (fun b ps e => ⟨#[], by rw [e]; simp⟩) (fun m hm => ?_) (fun b u e => ?_) I.bare
  · have e : b = it := by simpa using hb
    subst e
    exact ⟨h1, hL, h2, h3⟩
  · obtain ⟨o, es, ep, ho, r⟩ := hm
    exact ⟨o, es, ep, k _ o (Ne.symm hL) ho, r⟩
  · refine (I.hok b u e).stay (fun c v hc q => k c v ?_ q) (fun _ q => q) fun _ _ q => q
    rcases hc with z | z
    · rw [z]; exact nit b u e
    · exact nit c _ z
theorem Inv.tok (I : Inv X pins σ H s) (t : Nat) : Inv X pins σ H { s with toks := t } := I.un (h' := s.heap) (t' := t) Un.refl I.hok
theorem Inv.kept {t' : Nat} (I : Inv X pins σ H s) (k : ∀ b u, s.heap.get? b = some u → h'.get? b = some u) : Inv X pins σ H { s with heap := h', toks := t' } := I.un (Un.kept k) (I.hok.kept k)
theorem Inv.laid {a : Addr} {o : HO} {t' : Nat} (I : Inv X pins σ H s) (k : ∀ b u, s.heap.get? b = some u → h'.get? b = some u) (hp : s.heap.objs.size ≤ a) (new : ObjOk X.prog X.w (upd H a o) h' a o) :
    Inv X pins σ (upd H a o) { s with heap := h', toks := t' } := I.un (Un.laid k hp (I.hok.fresh hp)) (I.hok.laid k hp new)
theorem Inv.write {x e : Addr} {o : HO} {t' : Nat} (I : Inv X pins σ H s) (mu : Mut (H x)) (he : e = x ∨ H e = some (.own x)) (k : ∀ b u, b ≠ e → s.heap.get? b = some u → h'.get? b = some u) (heo : ∃ u, h'.get? e = some u)
    (new : ObjOk X.prog X.w (upd H x o) h' x o) : Inv X pins σ (upd H x o) { s with heap := h', toks := t' } := I.un (Un.write mu he k heo) (I.hok.write mu he k heo new)
theorem Inv.weak {σ' : List (Option V)} (I : Inv X pins σ H s) (hl : σ'.length = σ.length) (w : ∀ (i : Nat) v, σ'[i]? = some (some v) → σ[i]? = some (some v)) : Inv X pins σ' H s :=
  ⟨I.ok, I.os, I.bare, I.base, let ⟨m, hn, hl'⟩ := I.loc; ⟨m, hn, fun i x v e1 e2 e3 => hl' i x v e1 (w i v e2) e3⟩, I.cell, I.free, I.freeC, I.pin, I.hok, hl.trans I.len⟩
theorem Inv.pins_of {pins' : List (Addr × Obj)} (I : Inv X pins σ H s) (h : ∀ p ∈ pins', s.heap.get? p.1 = some p.2 ∧ H p.1 = none ∧ p.1 ≠ X.env.locals ∧ p.1 ∉ X.fs ∧ ∀ v, p.2.data ≠ .cell v) : Inv X pins' σ H s :=
  ⟨I.ok, I.os, I.bare, I.base, I.loc, I.cell, I.free, I.freeC, fun p hp => (List.mem_append.mp hp).elim (fun z => I.pin p (List.mem_append_left _ z)) (h p), I.hok, I.len⟩
theorem nodup_ix {N : List Str} (hN : N.Nodup) {i j : Nat} {x : Str} (a : N[i]? = some x) (b : N[j]? = some x) : i = j := by
  obtain ⟨h1, e1⟩ := List.getElem?_eq_some_iff.mp a
  obtain ⟨h2, e2⟩ := List.getElem?_eq_some_iff.mp b
  exact (List.getElem_inj hN).mp (e1.trans e2.symm)
theorem store_ok2 {M : Model} {A : Around} {E : Value → Shared → Prop} {i : Nat} {x : Str} {v : V} {u : Value} {Q : Unit → Shared → Prop} (I : Inv X pins σ H s) (hN : X.N.Nodup) (hi : X.N[i]? = some x) (hx : Loc X.env.scope x) (r : RelV v u)
    (h : ∀ s', Inv X pins (σ.set i (some v)) H s' → (∃ a, Heap.SameBut a s.heap s'.heap ∧ (a = X.env.locals ∨ X.env.cells.lookup x = some a)) → Q () s') (hf : X.fn x = true ∨ X.env.scope.names.lookup x = some .local := by first | exact .inl rfl | exact .inr rfl | assumption) : wpAny M A (storeName X.env x u) Q E s := by
  obtain ⟨m, hn, hl⟩ := id I.loc
  have hcls : (X.env.scope.kind == .class || (X.env.scope.kind == .module && X.env.locals != X.env.globals)) = false := by rw [I.ok.kind]; rfl
  have hiσ : i < σ.length := by rw [I.len]; exact (List.getElem?_eq_some_iff.mp hi).1
  have cne := I.cne
  have tracked : ∀ {a : Addr} {h' : Heap}, (∃ o, s.heap.get? a = some o ∧ H a = none) → Heap.SameBut a s.heap h' → HOk X.prog X.w H h' := fun {a h'} ha hs b ob e => by
    obtain ⟨_, _, hfree⟩ := ha
    refine (I.hok b ob e).stay (fun c w' hc q => (hs.2 c ?_).trans q) (fun _ q => q) fun _ _ q => q
    rintro rfl
    rcases hc with rfl | hc
    · rw [hfree] at e; cases e
    · rw [hfree] at hc; cases hc
  rcases hx with hk | hk
  · refine wpAny_storeName_local hk hn (fun h' hn' hs => ?_) hcls
    obtain ⟨oL, _, _, hoL, _⟩ := id hn
    refine h _ ⟨I.ok, I.os, I.bare, ⟨fun b o e n hb hx => ?_, fun b o e n hb hx => ?_, I.base.free, fun b o e hx => ?_, I.base.tups, I.base.frzs, I.base.tbls⟩, ⟨_, hn', fun j y v' e1 e2 e3 => ?_⟩, fun y c e => ?_, I.free, I.freeC, fun p hp => ?_, tracked ⟨oL, hoL, I.free⟩ hs, by simpa using I.len⟩ ⟨_, hs, .inl rfl⟩
    · exact (hs.2 b (Nat.ne_of_lt (Nat.lt_of_lt_of_le (Heap.lt_size e) I.ok.above))).trans (I.base.keep b o e n hb hx)
    · obtain ⟨sl, e1⟩ := I.base.slot b o e n hb hx
      exact ⟨sl, (hs.2 b (Nat.ne_of_lt (Nat.lt_of_lt_of_le (Heap.lt_size e) I.ok.above))).trans e1⟩
    · obtain ⟨o', e1⟩ := I.base.there b o e hx
      exact ⟨o', (hs.2 b (Nat.ne_of_lt (Nat.lt_of_lt_of_le (Heap.lt_size e) I.ok.above))).trans e1⟩
    · by_cases hj : j = i
      · subst hj
        rw [hi] at e1; cases e1
        rw [List.getElem?_set_self hiσ] at e2
        cases e2
        exact ⟨u, r, .inl ⟨hk, by simp⟩⟩
      · rw [List.getElem?_set_ne (Ne.symm hj)] at e2
        obtain ⟨u', r', q⟩ := hl j y v' e1 e2 e3
        refine ⟨u', r', ?_⟩
        rcases q with ⟨k, e⟩ | ⟨k, c, e, z⟩
        · refine .inl ⟨k, ?_⟩
          have : y ≠ x := fun e => hj (nodup_ix hN e1 (e ▸ hi))
          simp [this, e]
        · exact .inr ⟨k, c, e, z.sameBut hs (cne y c e)⟩
    · obtain ⟨w', z⟩ := I.cell y c e
      exact ⟨w', z.sameBut hs (cne y c e)⟩
    · obtain ⟨e, n, ne, nf, d⟩ := I.pin p hp
      exact ⟨(hs.2 p.1 ne).trans e, n, ne, nf, d⟩
  · have hfn : X.fn x = true := by
      rcases hf with z | z
      · exact z
      · rw [z] at hk; cases hk
    obtain ⟨c, hc⟩ := I.ok.has x (.inl hk)
    obtain ⟨w', z⟩ := I.cell x c hc
    refine wpAny_storeName_cell I.ok.kind hk hc z (fun h' hc' hs => ?_)
    obtain ⟨oc, hoc, hocd⟩ := id z
    refine h { s with heap := h' } ⟨I.ok, I.os, I.bare, ⟨fun b o e n hb hx => ?_, fun b o e n hb hx => ?_, I.base.free, fun b o e hx => ?_, I.base.tups, I.base.frzs, I.base.tbls⟩, ⟨m, hn.sameBut hs (Ne.symm (cne x c hc)), fun j y v' e1 e2 e3 => ?_⟩, fun y c' e => ?_, I.free, I.freeC, fun p hp => ?_, tracked ⟨oc, hoc, I.freeC x c hc⟩ hs, by simpa using I.len⟩ ⟨c, hs, .inr hc⟩
    · exact (hs.2 b (Nat.ne_of_lt (Nat.lt_of_lt_of_le (Heap.lt_size e) (I.ok.cab x c hfn hc)))).trans (I.base.keep b o e n hb hx)
    · obtain ⟨sl, e1⟩ := I.base.slot b o e n hb hx
      exact ⟨sl, (hs.2 b (Nat.ne_of_lt (Nat.lt_of_lt_of_le (Heap.lt_size e) (I.ok.cab x c hfn hc)))).trans e1⟩
    · obtain ⟨o', e1⟩ := I.base.there b o e hx
      exact ⟨o', (hs.2 b (Nat.ne_of_lt (Nat.lt_of_lt_of_le (Heap.lt_size e) (I.ok.cab x c hfn hc)))).trans e1⟩
    · by_cases hj : j = i
      · subst hj
        rw [hi] at e1; cases e1
        rw [List.getElem?_set_self hiσ] at e2
        cases e2
        exact ⟨u, r, .inr ⟨.inl hk, c, hc, hc'⟩⟩
      · rw [List.getElem?_set_ne (Ne.symm hj)] at e2
        obtain ⟨u', r', q⟩ := hl j y v' e1 e2 e3
        refine ⟨u', r', ?_⟩
        rcases q with q | ⟨k, c', e, z'⟩
        · exact .inl q
        · refine .inr ⟨k, c', e, z'.sameBut hs ?_⟩
          rintro rfl
          exact hj (nodup_ix hN e1 (I.ok.inj _ _ _ e hc ▸ hi))
    · by_cases hcc : c' = c
      · subst hcc; exact ⟨_, hc'⟩
      · obtain ⟨w2, z2⟩ := I.cell y c' e
        exact ⟨w2, z2.sameBut hs hcc⟩
    · obtain ⟨e, n, ne, nf, d⟩ := I.pin p hp
      refine ⟨(hs.2 p.1 ?_).trans e, n, ne, nf, d⟩
      intro q
      rw [q, hoc] at e
      have q' : oc = p.2 := Option.some.inj e
      exact d w' (by rw [← q']; exact hocd)
theorem store_ok {M : Model} {A : Around} {E : Value → Shared → Prop} {i : Nat} {x : Str} {v : V} {u : Value} {Q : Unit → Shared → Prop} (I : Inv X pins σ H s) (hN : X.N.Nodup) (hi : X.N[i]? = some x) (hx : Loc X.env.scope x) (r : RelV v u)
    (h : ∀ s', Inv X pins (σ.set i (some v)) H s' → Q () s') (hf : X.fn x = true ∨ X.env.scope.names.lookup x = some .local := by first | exact .inl rfl | exact .inr rfl | assumption) : wpAny M A (storeName X.env x u) Q E s :=
  store_ok2 I hN hi hx r (fun s' I' _ => h s' I') hf
theorem Inv.call' {s' : Shared} {ch : List Addr} (I : Inv X pins σ H s) (ho : s'.os = s.os) (u : Un (frs X.stack) ch H H' s.heap s'.heap) (hok : HOk X.prog X.w H' s'.heap) (hg : AllBare s'.gens)
    (hch : ∀ b ∈ ch, (b ∈ X.ex ∨ X.s₀.heap.objs.size ≤ b) ∧ b ≠ X.env.locals ∧ (∀ x c, X.env.cells.lookup x = some c → c ≠ b) ∧ ∀ p ∈ X.pn ++ pins, p.1 ≠ b) : Inv X pins σ H' s' := by
  obtain ⟨h', g', d', t', o'⟩ := s'
  have e : o' = s.os := ho
  subst e
  exact I.call (g' := g') (t' := t') (d' := d') u hok hg hch
end
noncomputable abbrev XK := Value → Option Addr → Hp → Prop
noncomputable abbrev St := List (Option V)
noncomputable abbrev VK := V → Hp → Prop
noncomputable abbrev TE := St → Hp → VK → Prop
noncomputable abbrev TT := St → Hp → (Bool → Hp → Prop) → Prop
noncomputable abbrev TA := St → Hp → (List V → Hp → Prop) → Prop
structure Ends where
  nx : St → Hp → Prop
  rt : VK
  bk : St → Hp → Prop := fun _ _ => False
  ct : St → Hp → Prop := fun _ _ => False
noncomputable abbrev TS := Ends → St → Hp → Prop
noncomputable def EP (X : Cx) (pins : List (Addr × Obj)) (σ : St) (Q : VK) (u : Value) (s' : Shared) : Prop := ∃ v H', Inv X pins σ H' s' ∧ RelV v u ∧ Q v H'
noncomputable def TP (X : Cx) (pins : List (Addr × Obj)) (σ : St) (Q : Bool → Hp → Prop) (b : Bool) (s' : Shared) : Prop := ∃ H', Inv X pins σ H' s' ∧ Q b H'
noncomputable def AP (X : Cx) (pins : List (Addr × Obj)) (σ : St) (Q : List V → Hp → Prop) (us : List Value) (s' : Shared) : Prop := ∃ vs H', Inv X pins σ H' s' ∧ Vals vs us ∧ Q vs H'
noncomputable def SP (X : Cx) (pins : List (Addr × Obj)) (D : Ends) (f : Flow) (s' : Shared) : Prop :=
  match f with
  | .next => ∃ σ' H', Inv X pins σ' H' s' ∧ D.nx σ' H'
  | .brk => ∃ σ' H', Inv X pins σ' H' s' ∧ D.bk σ' H'
  | .cont => ∃ σ' H', Inv X pins σ' H' s' ∧ D.ct σ' H'
  | .ret u => ∃ v σ' H', Inv X pins σ' H' s' ∧ RelV v u ∧ D.rt v H'
namespace Irr
set_option allowUnsafeReducibility true in
@[scoped irreducible] def _root_.L2.PE (X : Cx) (e : Expr) (t : TE) : Prop :=
  ∀ (pins : List (Addr × Obj)) (s : Shared) (σ : St) (H : Hp) (Q : VK), Inv X pins σ H s → t σ H Q → wpAny (model X.prog X.w) X.A (eval e X.env) (EP X pins σ Q) X.xe s
end Irr
namespace Irr
set_option allowUnsafeReducibility true in
@[scoped irreducible] def _root_.L2.PT (X : Cx) (e : Expr) (t : TT) : Prop :=
  ∀ (pins : List (Addr × Obj)) (s : Shared) (σ : St) (H : Hp) (Q : Bool → Hp → Prop), Inv X pins σ H s → t σ H Q → wpAny (model X.prog X.w) X.A (isTrue e X.env (eval e X.env)) (TP X pins σ Q) X.xe s
end Irr
namespace Irr
set_option allowUnsafeReducibility true in
@[scoped irreducible] def _root_.L2.PW (X : Cx) (e : Expr) (t : TT) : Prop :=
  ∀ (whole : Sem Value) (pins : List (Addr × Obj)) (s : Shared) (σ : St) (H : Hp) (Q : Bool → Hp → Prop), Inv X pins σ H s → t σ H Q → wpAny (model X.prog X.w) X.A (isTrue e X.env whole) (TP X pins σ Q) X.xe s
end Irr
theorem PW.pt {X : Cx} {e : Expr} {t : TT} (h : PW X e t) : PT X e t := h _
namespace Irr
set_option allowUnsafeReducibility true in
@[scoped irreducible] def _root_.L2.PA (X : Cx) (es : List Expr) (t : TA) : Prop :=
  ∀ (pos : Pos) (pins : List (Addr × Obj)) (s : Shared) (σ : St) (H : Hp) (Q : List V → Hp → Prop), Inv X pins σ H s → t σ H Q → wpAny (model X.prog X.w) X.A (spliced (backTo pos (starEach es X.env))) (AP X pins σ Q) X.xe s
end Irr
namespace Irr
set_option allowUnsafeReducibility true in
@[scoped irreducible] def _root_.L2.PS (X : Cx) (st : Stmt) (t : TS) : Prop :=
  ∀ (pins : List (Addr × Obj)) (s : Shared) (σ : St) (H : Hp) (D : Ends), Inv X pins σ H s → t D σ H → wpAny (model X.prog X.w) X.A (exec st X.env) (SP X pins D) X.xe s
end Irr
namespace Irr
set_option allowUnsafeReducibility true in
@[scoped irreducible] def _root_.L2.PSs (X : Cx) (st : List Stmt) (t : TS) : Prop :=
  ∀ (pins : List (Addr × Obj)) (s : Shared) (σ : St) (H : Hp) (D : Ends), Inv X pins σ H s → t D σ H → wpAny (model X.prog X.w) X.A (execs st X.env) (SP X pins D) X.xe s
end Irr
theorem thn {α : Type} {t : Sem α} {Q Q' : α → Shared → Prop} {M : Model} {A : Around} {E : Value → Shared → Prop} {s : Shared} (h : wpAny M A t Q E s) (hQ : ∀ a s, Q a s → Q' a s) : wpAny M A t Q' E s := wpAny_mono h hQ fun _ _ x => x
end L2
namespace L2
open PySem PySem.Spec PyProof.Rows
section
variable {X : Cx}
noncomputable def tVar (i : Nat) : TE := fun σ H Q => ∃ v, σ[i]? = some (some v) ∧ Q v H
noncomputable def tC (v : V) : TE := fun _ H Q => Q v H
theorem pe_var {i : Nat} {x : Str} {pos : Pos} (hN : X.N[i]? = some x) (hv : Vis X.env.scope x) (hd : (x == ("__debug__" : Str)) = false := by decide) (hcd : (x == ("__classdict__" : Str)) = false := by decide) : PE X (.Name x pos) (tVar i) := by
  intro pins s σ H Q I h
  obtain ⟨v, e, h⟩ := h
  obtain ⟨m, hn, hl⟩ := I.loc
  obtain ⟨u, r, l⟩ := hl i x v hN e hv
  have fin : EP X pins σ Q u s := ⟨v, H, I, r, h⟩
  rcases l with ⟨hk, hm⟩ | ⟨hk, c, hc, hcell⟩
  · exact wpAny_Name (wpAny_loadName_local I.ok.kind hk hn hm fin) hd
  · rcases hk with hk | hk
    · exact wpAny_Name (wpAny_loadName_cell I.ok.kind hk hc hcell fin) hd
    · exact wpAny_Name (wpAny_loadName_free I.ok.kind hk hc hcell fin hcd) hd
theorem pe_int {i j pos} : PE X (.Constant (.int i) j pos) (tC (.int i)) := fun _ _ _ H _ I h => wpAny_Constant_int ⟨.int i, H, I.tok _, ⟨_, rfl⟩, h⟩
theorem pe_bl {b j pos} : PE X (.Constant (.bool b) j pos) (tC (.bl b)) := fun _ _ _ H _ I h => Constant_bool ⟨.bl b, H, I, rfl, h⟩
theorem pe_non {j pos} : PE X (.Constant .none j pos) (tC .non) := fun _ _ _ H _ I h => Constant_none ⟨.non, H, I, rfl, h⟩
theorem pe_str {x j pos} : PE X (.Constant (.str x) j pos) (tC (.str x)) := fun _ _ _ H _ I h => Calls.Constant_str ⟨.str x, H, I.tok _, ⟨_, rfl⟩, h⟩
noncomputable def Gl (X : Cx) (x : Str) : Prop := X.env.kindOf x = some .globalImplicit
theorem ld_glob {E : Value → Shared → Prop} {pins : List (Addr × Obj)} {s : Shared} {σ : St} {H : Hp} {x : Str} {u : Value} {pos : Pos} {Q : Value → Shared → Prop} (I : Inv X pins σ H s) (hg : Gl X x) (hm : X.mg x = some u) (h : Q u s)
    (hd : (x == ("__debug__" : Str)) = false := by decide) : wpAny (model X.prog X.w) X.A (eval (.Name x pos) X.env) Q E s :=
  Calls.Name_function_global I.ok.kind hg (Calls.loadGlobal_global (by rw [I.ok.glob]; exact I.mod.glob.keeps I.bk) hm h) hd
theorem ld_blt {E : Value → Shared → Prop} {pins : List (Addr × Obj)} {s : Shared} {σ : St} {H : Hp} {x : Str} {u : Value} {pos : Pos} {Q : Value → Shared → Prop} (I : Inv X pins σ H s) (hg : Gl X x) (hm : X.mg x = none) (hv : bootBuiltins x = some u) (h : Q u s)
    (hn : x ≠ "__name__" := by decide) (hd : (x == ("__debug__" : Str)) = false := by decide) : wpAny (model X.prog X.w) X.A (eval (.Name x pos) X.env) Q E s := by
  obtain ⟨mb, h1, h2⟩ := I.mod.blt
  exact Calls.Name_function_global I.ok.kind hg (Calls.loadGlobal_builtin (by rw [I.ok.glob]; exact I.mod.glob.keeps I.bk) hm (by rw [I.ok.blt]; exact h1.keeps I.bk) ((h2 x hn).trans hv) h) hd
theorem pe_glob {x : Str} {v : V} {u : Value} {pos : Pos} (hg : Gl X x) (hm : X.mg x = some u) (r : RelV v u) (hd : (x == ("__debug__" : Str)) = false := by decide) : PE X (.Name x pos) (tC v) :=
  fun _ _ _ H _ I h => ld_glob I hg hm ⟨v, H, I, r, h⟩ hd
theorem pe_bltn {x : Str} {v : V} {u : Value} {pos : Pos} (hg : Gl X x) (hm : X.mg x = none) (hv : bootBuiltins x = some u) (r : RelV v u) (hn : x ≠ "__name__" := by decide) (hd : (x == ("__debug__" : Str)) = false := by decide) : PE X (.Name x pos) (tC v) :=
  fun _ _ _ H _ I h => ld_blt I hg hm hv ⟨v, H, I, r, h⟩ hn hd
variable {a b : Expr} {ta tb : TE} {pos : Pos}
noncomputable def PC (X : Cx) (op : CmpOp) (a b : Expr) (t : TE) : Prop :=
  ∀ (pins : List (Addr × Obj)) (s : Shared) (σ : St) (H : Hp) (Q : VK), Inv X pins σ H s → t σ H Q →
    wpAny (model X.prog X.w) X.A (eval a X.env) (fun v s₁ => wpAny (model X.prog X.w) X.A (eval b X.env) (fun u s₂ => wpAny (model X.prog X.w) X.A (compareOp op v u) (EP X pins σ Q) X.xe s₂) X.xe s₁) X.xe s
theorem nobehind (b : Expr) {op : CmpOp} (h : op ≠ .In) (h2 : op ≠ .NotIn) : behindInMarks op b = false := by
  have e1 : (op == CmpOp.In) = false := by cases op <;> first | rfl | exact absurd rfl h
  have e2 : (op == CmpOp.NotIn) = false := by cases op <;> first | rfl | exact absurd rfl h2
  cases b <;> simp [behindInMarks, e1, e2]
noncomputable def tIsN (ta : TE) : TE := fun σ H Q => ta σ H fun x H1 => Q (.bl (decide (x = .non))) H1
theorem RelV.none_iff {x : V} {v : Value} (r : RelV x v) : (v == Value.none) = decide (x = .non) := by
  cases x with
  | non => cases r; rfl
  | bl _ => cases r; rfl
  | int _ => obtain ⟨t, rfl⟩ := r; rfl
  | str _ => obtain ⟨t, rfl⟩ := r; rfl
  | byt _ => obtain ⟨t, rfl⟩ := r; rfl
  | flt _ => obtain ⟨t, rfl⟩ := r; rfl
  | ref _ => cases r; rfl
  | ty _ => cases r; rfl
theorem pc_isN {j pos'} (ha : PE X a ta) : PC X .Is a (.Constant .none j pos') (tIsN ta) := by
  intro pins s σ H Q I h
  refine thn (ha pins s σ H _ I h) fun v s1 zr772 => ?_
  obtain ⟨x, H1, I1, r1, q1⟩ := zr772
  exact Constant_none (is_none_gen ⟨.bl _, H1, I1, by rw [r1.none_iff]; rfl, q1⟩)
noncomputable def tB (t : TE) : TT := fun σ H Q => t σ H fun x H1 => ∃ c, x = .bl c ∧ Q c H1
theorem pe_cmp {op : CmpOp} {t : TE} (h : PC X op a b t) (h1 : behindInMarks op b = false := by first | exact nobehind _ (by decide) (by decide) | rfl) : PE X (.Compare a [op] [b] pos) t := fun pins s σ H Q I hw => wpAny_Compare1 (h pins s σ H Q I hw) h1
theorem pt_val {e : Expr} {t : TE} (h : PE X e t) (he : ∀ whole, isTrue e X.env whole = (do let v ← whole; standAt e.pos; holding [v] (truthy v)) := by intro _; rfl) : PT X e (tB t) := by
  intro pins s σ H Q I hw
  refine isTrue_plain (thn (h pins s σ H _ I hw) fun v s1 zr778 => ?_) (he _)
  obtain ⟨x, H1, I1, r1, q1⟩ := zr778
  obtain ⟨d, rfl, q⟩ := q1
  cases r1
  exact wpAny_truthy_bool ⟨H1, I1, q⟩
variable {tA tB' : TT} {rest : List Expr}
noncomputable def tAnd (t u : TT) : TT := fun σ H Q => t σ H fun c H1 => if c = true then u σ H1 Q else Q false H1
noncomputable def tOr (t u : TT) : TT := fun σ H Q => t σ H fun c H1 => if c = true then Q true H1 else u σ H1 Q
noncomputable def tNot (t : TT) : TT := fun σ H Q => t σ H fun c H1 => Q (!c) H1
theorem pw_and1 (ha : PT X a tA) : PW X (.BoolOp .And [a] pos) tA := by
  intro wh pins s σ H Q I h
  refine isTrue_and (thn (ha pins s σ H Q I h) fun c s1 e => ?_)
  cases c with
  | true => exact isTrue_and_nil e
  | false => exact e
theorem pw_or1 (ha : PT X a tA) : PW X (.BoolOp .Or [a] pos) tA := by
  intro wh pins s σ H Q I h
  refine isTrue_or (thn (ha pins s σ H Q I h) fun c s1 e => ?_)
  cases c with
  | false => exact isTrue_or_nil e
  | true => exact e
theorem pw_and (ha : PT X a tA) (hb : PW X (.BoolOp .And (b :: rest) pos) tB') : PW X (.BoolOp .And (a :: b :: rest) pos) (tAnd tA tB') := by
  intro wh pins s σ H Q I h
  refine isTrue_and (thn (ha pins s σ H _ I h) fun c s1 zr800 => ?_)
  obtain ⟨H1, I1, q1⟩ := zr800
  cases c with
  | true => exact hb wh pins s1 σ H1 Q I1 q1
  | false => exact ⟨H1, I1, q1⟩
theorem pw_or (ha : PT X a tA) (hb : PW X (.BoolOp .Or (b :: rest) pos) tB') : PW X (.BoolOp .Or (a :: b :: rest) pos) (tOr tA tB') := by
  intro wh pins s σ H Q I h
  refine isTrue_or (thn (ha pins s σ H _ I h) fun c s1 zr806 => ?_)
  obtain ⟨H1, I1, q1⟩ := zr806
  cases c with
  | true => exact ⟨H1, I1, q1⟩
  | false => exact hb wh pins s1 σ H1 Q I1 q1
theorem pt_not (ha : PT X a tA) : PT X (.UnaryOp .Not a pos) (tNot tA) := by
  intro pins s σ H Q I h
  exact isTrue_not (ha pins s σ H (fun c H1 => Q (!c) H1) I h)
noncomputable def tAndV (ta tb : TE) : TE := fun σ H Q => ta σ H fun x H1 => ∃ c, x = .bl c ∧ if c = true then tb σ H1 Q else Q (.bl false) H1
noncomputable def tOrV (ta tb : TE) : TE := fun σ H Q => ta σ H fun x H1 => ∃ c, x = .bl c ∧ if c = true then Q (.bl true) H1 else tb σ H1 Q
noncomputable def tNotV (ta : TE) : TE := fun σ H Q => ta σ H fun x H1 => ∃ c, x = .bl c ∧ Q (.bl (!c)) H1
theorem pe_one {op} {t : TE} (h : PE X a t) : PE X (.BoolOp op [a] pos) t := fun pins s σ H Q I hw => BoolOp_one (h pins s σ H Q I hw)
theorem pe_and (ha : PE X a ta) (hb : PE X (.BoolOp .And (b :: rest) pos) tb) : PE X (.BoolOp .And (a :: b :: rest) pos) (tAndV ta tb) := by
  intro pins s σ H Q I h
  refine BoolOp_and (thn (ha pins s σ H _ I h) fun v s1 zr819 => ?_)
  obtain ⟨x, H1, I1, r1, q1⟩ := zr819
  obtain ⟨c, rfl, q1⟩ := q1
  cases r1
  refine wpAny_truthy_bool ?_
  cases c with
  | true => exact hb pins s1 σ H1 Q I1 q1
  | false => exact ⟨.bl false, H1, I1, rfl, q1⟩
theorem pe_or (ha : PE X a ta) (hb : PE X (.BoolOp .Or (b :: rest) pos) tb) : PE X (.BoolOp .Or (a :: b :: rest) pos) (tOrV ta tb) := by
  intro pins s σ H Q I h
  refine BoolOp_or (thn (ha pins s σ H _ I h) fun v s1 zr828 => ?_)
  obtain ⟨x, H1, I1, r1, q1⟩ := zr828
  obtain ⟨c, rfl, q1⟩ := q1
  cases r1
  refine wpAny_truthy_bool ?_
  cases c with
  | false => exact hb pins s1 σ H1 Q I1 q1
  | true => exact ⟨.bl true, H1, I1, rfl, q1⟩
theorem pe_not (ha : PE X a ta) : PE X (.UnaryOp .Not a pos) (tNotV ta) := by
  intro pins s σ H Q I h
  refine UnaryOp_ (thn (ha pins s σ H _ I h) fun v s1 zr837 => ?_)
  obtain ⟨x, H1, I1, r1, q1⟩ := zr837
  obtain ⟨c, rfl, q1⟩ := q1
  cases r1
  exact not_of (wpAny_truthy_bool ⟨.bl (!c), H1, I1, rfl, q1⟩)
end
end L2
namespace L2
open PySem PySem.Spec PyProof.Rows
noncomputable def SqL (K : PySem.W.Frag) (H : Hp) (a : Addr) (xs : List V) : Prop :=
  Rd H a (.lst xs) ∨
    ∃ (o : Obj) (its : Array Value) (n : Nat), K.lookup a = some o ∧ o.cls = .type "list" ∧ o.dict = none ∧ o.data = .seq its n ∧ its.size ≤ sizeLine ∧ Vals xs its.toList
noncomputable def SqT (K : PySem.W.Frag) (H : Hp) (a : Addr) (xs : List V) : Prop :=
  Rd H a (.tup xs) ∨
    ∃ (o : Obj) (its : Array Value) (n : Nat), K.lookup a = some o ∧ o.cls = .type "tuple" ∧ o.data = .seq its n ∧ its.size ≤ sizeLine ∧ Vals xs its.toList
noncomputable def absV : Value → Option V
  | .none => some .non
  | .bool b => some (.bl b)
  | .int i _ => some (.int i)
  | .str x _ => some (.str x)
  | .bytes b _ => some (.byt b)
  | .float b _ => some (.flt b)
  | .ref a => some (.ref a)
  | .type n => some (.ty n)
  | _ => none
theorem RelV.abs {x : V} {u : Value} (r : RelV x u) : absV u = some x := by
  cases x with
  | non => cases r; rfl
  | bl _ => cases r; rfl
  | int _ => obtain ⟨t, rfl⟩ := r; rfl
  | str _ => obtain ⟨t, rfl⟩ := r; rfl
  | byt _ => obtain ⟨t, rfl⟩ := r; rfl
  | flt _ => obtain ⟨t, rfl⟩ := r; rfl
  | ref _ => cases r; rfl
  | ty _ => cases r; rfl
theorem RelV.inj {x y : V} {u : Value} (r : RelV x u) (q : RelV y u) : x = y := Option.some.inj (r.abs.symm.trans q.abs)
theorem Vals.inj : ∀ {xs ys : List V} {us : List Value}, Vals xs us → Vals ys us → xs = ys
  | _, _, _, .nil, .nil => rfl
  | _, _, _, .cons r t, .cons r' t' => by rw [r.inj r', Vals.inj t t']
section
variable {X : Cx} {pins : List (Addr × Obj)} {σ : St} {H : Hp} {s : Shared} {a : Addr} {xs ys : List V}
theorem SqL.of {K : PySem.W.Frag} (h : H a = some (.lst xs)) : SqL K H a xs := .inl (.inl h)
theorem SqT.of {K : PySem.W.Frag} (h : H a = some (.tup xs)) : SqT K H a xs := .inl (.inl h)
theorem Inv.list (I : Inv X pins σ H s) (h : SqL X.K H a xs) : ∃ its : List Value, Vals xs its ∧ PlainL s.heap a its.toArray ∧ xs.length ≤ sizeLine := by
  rcases h with h | ⟨o, its, n, hk, hc, hd, hs, hz, r⟩
  · obtain ⟨z, its, n, r, e⟩ := h.ok I.hok
    exact ⟨its, r, ⟨_, n, e, rfl, rfl, rfl⟩, z⟩
  · refine ⟨its.toList, r, ⟨o, n, I.kIn a o hk, hc, hd, by simpa using hs⟩, ?_⟩
    have e := r.length
    simp only [Array.length_toList] at e
    omega
theorem Inv.tuple (I : Inv X pins σ H s) (h : SqT X.K H a xs) : ∃ its : List Value, Vals xs its ∧ IsTup s.heap a its.toArray ∧ xs.length ≤ sizeLine := by
  rcases h with h | ⟨o, its, n, hk, hc, hs, hz, r⟩
  · obtain ⟨z, its, r, p⟩ := h.ok I.hok
    exact ⟨its, r, p, z⟩
  · refine ⟨its.toList, r, ⟨o, I.kIn a o hk, hc, n, by simpa using hs⟩, ?_⟩
    have e := r.length
    simp only [Array.length_toList] at e
    omega
theorem Inv.list_inj (I : Inv X pins σ H s) (h : SqL X.K H a xs) (h' : SqL X.K H a ys) : xs = ys := by
  obtain ⟨its, r, ⟨o, n, e, _, _, d⟩, _⟩ := I.list h
  obtain ⟨its', r', ⟨o', n', e', _, _, d'⟩, _⟩ := I.list h'
  rw [e] at e'; cases e'
  rw [d] at d'
  injection d' with d1 _
  have : its = its' := by simpa using congrArg Array.toList d1
  subst this
  exact r.inj r'
theorem Inv.tuple_inj (I : Inv X pins σ H s) (h : SqT X.K H a xs) (h' : SqT X.K H a ys) : xs = ys := by
  obtain ⟨its, r, ⟨o, e, _, n, d⟩, _⟩ := I.tuple h
  obtain ⟨its', r', ⟨o', e', _, n', d'⟩, _⟩ := I.tuple h'
  rw [e] at e'; cases e'
  rw [d] at d'
  injection d' with d1 _
  have : its = its' := by simpa using congrArg Array.toList d1
  subst this
  exact r.inj r'
end
noncomputable abbrev Cx.wish (X : Cx) (E : Value → Shared → Prop) : Cx := { X with xe := E }
noncomputable abbrev Cx.nox (X : Cx) : Cx := X.wish fun _ _ => False
theorem Cx.Ok.wish {X : Cx} (ok : X.Ok) (E : Value → Shared → Prop) : (X.wish E).Ok :=
  ⟨ok.mod, ok.kind, ok.glob, ok.blt, ok.above, ok.inj, ok.has, ok.cab, ok.hd, ok.frames, ok.stk, ok.exf, ok.bs, ok.bsz, ok.noex, ok.exfs, ok.funs, ok.frf⟩
theorem Cx.Ok.unwish {X : Cx} {E : Value → Shared → Prop} (ok : (X.wish E).Ok) : X.Ok :=
  ⟨ok.mod, ok.kind, ok.glob, ok.blt, ok.above, ok.inj, ok.has, ok.cab, ok.hd, ok.frames, ok.stk, ok.exf, ok.bs, ok.bsz, ok.noex, ok.exfs, ok.funs, ok.frf⟩
section
variable {X : Cx} {pins : List (Addr × Obj)} {σ : St} {H : Hp} {s : Shared} {E : Value → Shared → Prop}
theorem Inv.wish (I : Inv X pins σ H s) (E : Value → Shared → Prop) : Inv (X.wish E) pins σ H s := ⟨I.ok.wish E, I.os, I.bare, I.base, I.loc, I.cell, I.free, I.freeC, I.pin, I.hok, I.len⟩
theorem Inv.unwish (I : Inv (X.wish E) pins σ H s) : Inv X pins σ H s := ⟨I.ok.unwish, I.os, I.bare, I.base, I.loc, I.cell, I.free, I.freeC, I.pin, I.hok, I.len⟩
theorem SP.unwish {D : Ends} {f : Flow} {s' : Shared} (h : SP (X.wish E) pins D f s') : SP X pins D f s' := by
  cases f with
  | next => obtain ⟨σ', H', I, q⟩ := h; exact ⟨σ', H', I.unwish, q⟩
  | brk => obtain ⟨σ', H', I, q⟩ := h; exact ⟨σ', H', I.unwish, q⟩
  | cont => obtain ⟨σ', H', I, q⟩ := h; exact ⟨σ', H', I.unwish, q⟩
  | ret u => obtain ⟨v, σ', H', I, r, q⟩ := h; exact ⟨v, σ', H', I.unwish, r, q⟩
theorem PSs.nox {st : List Stmt} {t : TS} (h : PSs X.nox st t) : PSs X st t := fun pins s σ H D I hw =>
  wpAny_mono (h pins s σ H D (I.wish _) hw) (fun _ _ q => q.unwish) fun _ _ z => False.elim z
end
section
variable {X : Cx} {st : Stmt} {rest : List Stmt} {t u : TS} {e : Expr} {te : TE} {pos : Pos}
noncomputable def tNext : TS := fun D σ H => D.nx σ H
noncomputable def tSeq (t u : TS) : TS := fun D σ H => t { D with nx := u D } σ H
theorem pss_nil : PSs X [] tNext := fun _ _ σ H _ I h => wpAny_execs_nil ⟨σ, H, I, h⟩
theorem pss_cons (h1 : PS X st t) (h2 : PSs X rest u) : PSs X (st :: rest) (tSeq t u) := by
  intro pins s σ H D I h
  refine wpAny_execs_cons (thn (h1 pins s σ H { D with nx := u D } I h) fun f s1 q => ?_)
  cases f with
  | next =>
    obtain ⟨σ', H', I', q⟩ := q
    exact h2 pins s1 σ' H' D I' q
  | ret v => exact q
  | brk => exact q
  | cont => exact q
theorem pss_one (h1 : PS X st t) : PSs X [st] t := by
  intro pins s σ H D I h
  refine wpAny_execs_cons (thn (h1 pins s σ H D I h) fun f s1 q => ?_)
  cases f with
  | next => exact wpAny_execs_nil q
  | ret v => exact q
  | brk => exact q
  | cont => exact q
theorem Inv.quiet {pins : List (Addr × Obj)} {σ : St} {H : Hp} {s : Shared} (I : Inv X pins σ H s) : interactive X.env = false := by simp [interactive, I.ok.kind]
noncomputable def tDrop (te : TE) : TS := fun D σ H => te σ H fun _ H1 => D.nx σ H1
theorem ps_expr (he : PE X e te) (hs : swapsWith e none pos.line X.env = pure false := by rfl) : PS X (.Expr e pos) (tDrop te) := by
  intro pins s σ H D I h
  exact wpAny_Expr_any (thn (he pins s σ H _ I h) fun v s1 zq0 => by obtain ⟨x, H1, I1, r1, q1⟩ := zq0; exact (⟨σ, H1, I1, q1⟩)) I.quiet hs
noncomputable def tRet (te : TE) : TS := fun D σ H => te σ H D.rt
theorem ps_ret (he : PE X e te) : PS X (.Return (some e) pos) (tRet te) := by
  intro pins s σ H D I h
  exact wpAny_Return_some (thn (he pins s σ H _ I h) fun v s1 zq1 => by obtain ⟨x, H1, I1, r1, q1⟩ := zq1; exact (⟨x, σ, H1, I1, r1, q1⟩))
noncomputable def tIfS (c : TT) (t u : TS) : TS := fun D σ H => c σ H fun b H1 => if b = true then t D σ H1 else u D σ H1
theorem ps_if {c : Expr} {a b : List Stmt} {tc : TT} (hc : PT X c tc) (ha : PSs X a t) (hb : PSs X b u) : PS X (.If c a b pos) (tIfS tc t u) := by
  intro pins s σ H D I h
  refine wpAny_If (thn (hc pins s σ H _ I h) fun d s1 zr968 => ?_)
  obtain ⟨H1, I1, q1⟩ := zr968
  cases d with
  | true => exact ha pins s1 σ H1 D I1 q1
  | false => exact hb pins s1 σ H1 D I1 q1
noncomputable def tNever : TS := fun _ _ _ => False
theorem ps_never : PS X st tNever := fun _ _ _ _ _ _ h => h.elim
end
noncomputable abbrev TG := V → St → Hp → (St → Hp → Prop) → Prop
noncomputable abbrev TGs := List V → St → Hp → (St → Hp → Prop) → Prop
noncomputable def PG (X : Cx) (target : Expr) (t : TG) : Prop :=
  ∀ (pins : List (Addr × Obj)) (s : Shared) (σ : St) (H : Hp) (v : V) (u : Value) (Q : St → Hp → Prop), Inv X pins σ H s → RelV v u → t v σ H Q →
    wpAny (model X.prog X.w) X.A (assign target X.env u) (fun _ s' => ∃ σ' H', Inv X pins σ' H' s' ∧ Q σ' H') X.xe s
noncomputable def PGs (X : Cx) (ts : List Expr) (t : TGs) : Prop :=
  ∀ (pins : List (Addr × Obj)) (s : Shared) (σ : St) (H : Hp) (vs : List V) (us : List Value) (Q : St → Hp → Prop), Inv X pins σ H s → Vals vs us → t vs σ H Q →
    wpAny (model X.prog X.w) X.A (assignInOrder ((assignEach ts X.env).map (·.2)) us) (fun _ s' => ∃ σ' H', Inv X pins σ' H' s' ∧ Q σ' H') X.xe s
noncomputable abbrev TSet := V → V → V → Hp → (Hp → Prop) → Prop
noncomputable def PSet (X : Cx) (t : TSet) : Prop :=
  ∀ (pins : List (Addr × Obj)) (s : Shared) (σ : St) (H : Hp) (o i v : V) (ov iv u : Value) (Q : Hp → Prop), Inv X pins σ H s → RelV o ov → RelV i iv → RelV v u → t o i v H Q →
    wpAny (model X.prog X.w) X.A (setItem ov iv u) (fun _ s' => ∃ H', Inv X pins σ H' s' ∧ Q H') X.xe s
section
variable {X : Cx} {pos : Pos}
noncomputable def gName (i : Nat) : TG := fun v σ H Q => Q (σ.set i (some v)) H
theorem pg_name {i : Nat} {x : Str} (hN : X.N.Nodup) (hi : X.N[i]? = some x) (hx : Loc X.env.scope x) (hf : X.fn x = true ∨ X.env.scope.names.lookup x = some .local := by first | exact .inl rfl | exact .inr rfl | assumption) : PG X (.Name x pos) (gName i) := by
  intro pins s σ H v u Q I r h
  exact wpAny_assign_Name (store_ok I hN hi hx r (fun s' I' => ⟨_, H, I', h⟩) hf)
noncomputable def gNil : TGs := fun vs σ H Q => vs = [] ∧ Q σ H
noncomputable def gCons (t : TG) (u : TGs) : TGs := fun vs σ H Q => ∃ v r, vs = v :: r ∧ t v σ H fun σ' H' => u r σ' H' Q
theorem pgs_nil : PGs X [] gNil := by
  intro pins s σ H vs us Q I r h
  obtain ⟨e, h⟩ := h
  subst e
  cases r
  exact assignInOrder_nil ⟨σ, H, I, h⟩
theorem pgs_cons {e : Expr} {es : List Expr} {t : TG} {u : TGs} (h1 : PG X e t) (h2 : PGs X es u)
    (hs : (assignEach (e :: es) X.env).map (·.2) = assign e X.env :: (assignEach es X.env).map (·.2) := by rfl) : PGs X (e :: es) (gCons t u) := by
  intro pins s σ H vs us Q I r h
  obtain ⟨v, vr, e1, h⟩ := h
  subst e1
  cases r with
  | cons r rr =>
    rw [hs]
    refine assignInOrder_cons (thn (h1 pins s σ H _ _ _ I r h) fun _ s1 zr1009 => ?_)
    obtain ⟨σ1, H1, I1, q1⟩ := zr1009
    exact h2 pins s1 σ1 H1 _ _ Q I1 rr q1
noncomputable def gTup (K : PySem.W.Frag) (n : Nat) (t : TGs) : TG := fun v σ H Q => ∃ a xs, v = .ref a ∧ SqT K H a xs ∧ xs.length = n ∧ t xs σ H Q
theorem pg_tup {es : List Expr} {k : Nat} {t : TGs} {n : Nat} (hc : X.calm = true) (h : PGs X es t)
    (hn : (assignEach es X.env).length = n := by rfl) (hst : (assignEach es X.env).findIdx? (·.1) = none := by rfl) : PG X (.Tuple es k pos) (gTup X.K n t) := by
  intro pins s σ H v u Q I r hw
  obtain ⟨a, xs, e1, hq, hl, hw⟩ := hw
  subst e1
  cases r
  obtain ⟨its, rv, ht, hz⟩ := I.tuple hq
  refine assign_Tuple_tuple (I.ok.hd hc) ht (by simp [hn, ← hl, rv.length]) hst fun h' hx => ?_
  have I1 : Inv X pins σ H { s with heap := h' } := I.kept (t' := s.toks) fun b o e => hx b o (Nat.ne_of_lt (Heap.lt_size e)) e
  exact h pins _ σ H xs _ Q I1 (by simpa using rv) hw
noncomputable def gSub (to ti : TE) (t : TSet) : TG := fun v σ H Q => to σ H fun o H1 => ti σ H1 fun i H2 => t o i v H2 fun H3 => Q σ H3
theorem pg_sub {o i : Expr} {to ti : TE} {t : TSet} (ho : PE X o to) (hi : PE X i ti) (hs : PSet X t)
    (ha : ∀ v, assign (.Subscript o i pos) X.env v = (do
      let ov ← holding [v] (eval o X.env)
      let iv ← holding [v, ov] (eval i X.env)
      standAt pos
      holding [v, ov, iv] (setItem ov iv v)
      release [v, ov, iv] []) := by intro _; rfl) : PG X (.Subscript o i pos) (gSub to ti t) := by
  intro pins s σ H v u Q I r h
  rw [ha]
  refine wpAny_bind (wpAny_holding (thn (ho pins s σ H _ I h) fun ov s1 zr1032 => ?_))
  obtain ⟨x, H1, I1, r1, q1⟩ := zr1032
  refine wpAny_bind (wpAny_holding (thn (hi pins s1 σ H1 _ I1 q1) fun iv s2 zr1033 => ?_))
  obtain ⟨y, H2, I2, r2, q2⟩ := zr1033
  refine wpAny_bind (wpAny_standAt (wpAny_bind (wpAny_holding (thn (hs pins s2 σ H2 x y v ov iv u _ I2 r1 r2 r q2) fun _ s3 zr1034 => ?_))))
  obtain ⟨H3, I3, q3⟩ := zr1034
  exact wpAny_release ⟨σ, H3, I3, q3⟩
noncomputable def tAsg (te : TE) (g : TG) : TS := fun D σ H => te σ H fun x H1 => g x σ H1 D.nx
theorem ps_asg {tg e : Expr} {te : TE} {g : TG} (he : PE X e te) (hg : PG X tg g) (hs : swapsWithSole [tg] e pos.line X.env = pure false := by rfl) (hw : swappedStores [tg] e X.env = pure none := by rfl)
    (h1 : (assignEach [tg] X.env).map (·.2) = [assign tg X.env] := by rfl) : PS X (.Assign [tg] e pos) (tAsg te g) := by
  intro pins s σ H D I h
  refine wpAny_Assign_stores (thn (he pins s σ H _ I h) fun v s1 zr1040 => ?_) hs hw
  obtain ⟨x, H1, I1, r1, q1⟩ := zr1040
  rw [h1]
  exact thn (hg pins s1 σ H1 x v _ I1 r1 q1) fun _ s2 q => q
theorem ps_set {i : Nat} {x : Str} {e : Expr} {te : TE} {pos' : Pos} (hN : X.N.Nodup) (hi : X.N[i]? = some x) (hx : Loc X.env.scope x) (he : PE X e te) (hs : swapsWith e (some (.Name x pos')) pos.line X.env = pure false := by rfl) (hf : X.fn x = true ∨ X.env.scope.names.lookup x = some .local := by first | exact .inl rfl | exact .inr rfl | assumption) :
    PS X (.Assign [.Name x pos'] e pos) (tAsg te (gName i)) := by
  intro pins s σ H D I h
  refine wpAny_Assign_Name (thn (he pins s σ H _ I h) fun v s1 zr1046 => ?_) hs
  obtain ⟨y, H1, I1, r1, q1⟩ := zr1046
  exact store_ok I1 hN hi hx r1 (fun s2 I2 => ⟨_, H1, I2, q1⟩) hf
end
section
variable {X : Cx} {pos : Pos}
noncomputable def tWhile (c : TT) (tb : TS) : TS := fun D σ H => ∃ W : Nat → St → Hp → Prop, (∃ m, W m σ H) ∧ ∀ m σ H, W m σ H →
  c σ H fun b H1 => if b = true then ∃ N : St → Hp → Prop, (∀ σ' H', N σ' H' → ∃ m', m' < m ∧ W m' σ' H') ∧ tb { D with nx := N, ct := N, bk := D.nx } σ H1 else D.nx σ H1
theorem ps_while {c : Expr} {body : List Stmt} {tc : TT} {tb : TS} (hp : PassesOwn (model X.prog X.w) X.A X.env X.xe) (hc : PT X c tc) (hb : PSs X body tb) : PS X (.While c body [] pos) (tWhile tc tb) := by
  intro pins s σ H D I h
  obtain ⟨W, ⟨m0, w0⟩, turn⟩ := h
  refine wpAny_While (codeAny_whileLoop (fun n s' => ∃ σ' H', Inv X pins σ' H' s' ∧ W n σ' H') ?_ m0 ⟨σ, H, I, w0⟩)
  rintro n s1 ⟨σ1, H1, I1, w1⟩
  refine wpAny_passesOwn hp (thn (hc pins s1 σ1 H1 _ I1 (turn n σ1 H1 w1)) fun b s2 zr1058 => ?_)
  obtain ⟨H2, I2, q2⟩ := zr1058
  cases b with
  | true =>
    obtain ⟨N, hN, q2⟩ := q2
    rw [if_pos rfl]
    refine wpAny_passesOwn hp (thn (hb pins s2 σ1 H2 _ I2 q2) fun f s3 q3 => ?_)
    cases f with
    | next =>
      obtain ⟨σ3, H3, I3, n3⟩ := q3
      obtain ⟨m', hm, w3⟩ := hN σ3 H3 n3
      exact ⟨m', hm, σ3, H3, I3, w3⟩
    | cont =>
      obtain ⟨σ3, H3, I3, n3⟩ := q3
      obtain ⟨m', hm, w3⟩ := hN σ3 H3 n3
      exact ⟨m', hm, σ3, H3, I3, w3⟩
    | brk => exact q3
    | ret v => exact q3
  | false =>
    rw [if_neg Bool.false_ne_true]
    exact wpAny_execs_nil ⟨σ1, H2, I2, q2⟩
end
structure It where
  go : Nat → Hp → Prop
  yld : Nat → Hp → V → Hp → Prop
  stop : Nat → Hp → Prop
noncomputable def FpOk (X : Cx) (pins : List (Addr × Obj)) (H : Hp) (b : Addr) : Prop :=
  H b = none ∧ b ≠ X.env.locals ∧ b ∉ X.fs ∧ (b ∈ X.ex ∨ X.s₀.heap.objs.size ≤ b) ∧ (∀ x c, X.env.cells.lookup x = some c → c ≠ b) ∧ ∀ p ∈ X.pn ++ pins, p.1 ≠ b
theorem Inv.fpOk {X : Cx} {pins : List (Addr × Obj)} {σ : St} {H H' : Hp} {s : Shared} {b : Addr} (I : Inv X pins σ H s) (hb : s.heap.objs.size ≤ b) (hn : H' b = none) : FpOk X pins H' b := by
  refine ⟨hn, Nat.ne_of_gt (Nat.lt_of_lt_of_le I.lt hb), I.nofs hb, .inr (Nat.le_trans I.sz hb), fun x c e z => ?_, fun p hp z => ?_⟩
  · obtain ⟨v, q⟩ := I.cell x c e
    exact absurd (Nat.lt_of_lt_of_le q.lt (by rw [z]; exact hb)) (Nat.lt_irrefl _)
  · exact absurd (Nat.lt_of_lt_of_le (Heap.lt_size (I.pin p hp).1) (by rw [z]; exact hb)) (Nat.lt_irrefl _)
structure Turn (P : Program) (w : World) (K : PySem.W.Frag) (tg : Expr) (J : It) (fp : List Addr) (it : Addr) (tn : Nat → Heap → Prop) : Prop where
  mem : it ∈ fp
  obj : ∀ i h, tn i h → ∀ b ∈ fp, ∃ o, h.get? b = some o ∧ ∀ v, o.data ≠ .cell v
  keep : ∀ i h h', tn i h → (∀ b ∈ fp, ∀ o, h.get? b = some o → h'.get? b = some o) → tn i h'
  item : ∀ (X : Cx), X.prog = P → X.w = w → X.K = K → X.calm = true → ∀ (i : Nat) (pins : List (Addr × Obj)) (s : Shared) (σ : St) (H : Hp) (E : Value → Shared → Prop), Inv X pins σ H s → (∀ b ∈ fp, FpOk X pins H b) → tn i s.heap → J.go i H →
    wpAny (model P w) X.A (pyNext (.ref it)) (fun r s1 => ∃ u, r = some u ∧
      wpAny (model P w) X.A (letOwnedTupleGo tg (.ref it) u) (fun _ s2 => ∃ x H', Inv X pins σ H' s2 ∧ RelV x u ∧ J.yld i H x H' ∧ tn (i + 1) s2.heap ∧ ∀ b ∈ fp, H' b = none) E s1) E s
  done : ∀ (X : Cx), X.prog = P → X.w = w → X.K = K → X.calm = true → ∀ (i : Nat) (pins : List (Addr × Obj)) (s : Shared) (σ : St) (H : Hp) (E : Value → Shared → Prop), Inv X pins σ H s → (∀ b ∈ fp, FpOk X pins H b) → tn i s.heap → J.stop i H →
    wpAny (model P w) X.A (pyNext (.ref it)) (fun r s1 => r = none ∧ Inv X pins σ H s1) E s
  self : ∀ (A : Around) (i : Nat) (s : Shared) (Q : Value → Shared → Prop) (E : Value → Shared → Prop), tn i s.heap → Q (.ref it) s → wpAny (model P w) A (pyIter (.ref it)) Q E s
noncomputable abbrev TI := St → Hp → (It → Hp → Prop) → Prop
noncomputable def PIE (X : Cx) (pins : List (Addr × Obj)) (σ : St) (tg : Expr) (R : It → Hp → Prop) (itv : Value) (s2 : Shared) : Prop :=
  ∃ (it : Addr) (fp : List Addr) (tn : Nat → Heap → Prop) (J : It) (H' : Hp), itv = .ref it ∧ Inv X pins σ H' s2 ∧ Turn X.prog X.w X.K tg J fp it tn ∧ tn 0 s2.heap ∧ (∀ b ∈ fp, FpOk X pins H' b) ∧ R J H'
noncomputable def PI (X : Cx) (tg iter : Expr) (wi : TI) : Prop :=
  ∀ (pins : List (Addr × Obj)) (s : Shared) (σ : St) (H : Hp) (R : It → Hp → Prop), Inv X pins σ H s → wi σ H R →
    wpAny (model X.prog X.w) X.A (eval iter X.env) (fun v s1 => wpAny (model X.prog X.w) X.A (pyIter v) (PIE X pins σ tg R) X.xe s1) X.xe s
theorem go_of {M : Model} {A : Around} {E : Value → Shared → Prop} {s : Shared} {tg : Expr} {it : Addr} {u : Value} {o : Obj} {n : String} {vs : Array Value} {Q : Unit → Shared → Prop} (ho : s.heap.get? it = some o) (hc : o.cls = .type n) (hd : o.data = .fields vs)
    (hn : ["enumerate", "zip", "dict_itemiterator", "dict_reverseitemiterator", "odict_iterator", "itertools.zip_longest", "itertools.pairwise"].contains n = false) (hQ : Q () s) : wpAny M A (letOwnedTupleGo tg (.ref it) u) Q E s := by
  unfold letOwnedTupleGo
  cases tg <;> first
    | exact wpAny_pure hQ
    | (cases u <;> first
        | exact wpAny_pure hQ
        | (refine wpAny_bind (wpAny_load ho ?_)
           rw [hc, hd]
           show wpAny M A (if (["enumerate", "zip", "dict_itemiterator", "dict_reverseitemiterator", "odict_iterator", "itertools.zip_longest", "itertools.pairwise"].contains n && vs[0]? == some (rawInt _)) = true then _ else _) Q E s
           rw [if_neg (by intro h; rw [hn, Bool.false_and] at h; cases h)]
           exact wpAny_pure hQ))
noncomputable def Itl (K : PySem.W.Frag) (a : Addr) : It :=
  ⟨fun i H => ∃ xs x, SqL K H a xs ∧ xs[i]? = some x, fun i H x H' => H' = H ∧ ∀ xs, SqL K H a xs → xs[i]? = some x, fun i H => ∃ xs, SqL K H a xs ∧ xs.length ≤ i⟩
noncomputable def Itt (K : PySem.W.Frag) (a : Addr) : It :=
  ⟨fun i H => ∃ xs x, SqT K H a xs ∧ xs[i]? = some x, fun i H x H' => H' = H ∧ ∀ xs, SqT K H a xs → xs[i]? = some x, fun i H => ∃ xs, SqT K H a xs ∧ xs.length ≤ i⟩
noncomputable def Itr (lo : Int) (n : Nat) : It := ⟨fun i _ => i < n, fun i H x H' => H' = H ∧ x = .int (lo + i), fun i _ => n ≤ i⟩
theorem turn_list {P : Program} {w : World} {K : PySem.W.Frag} {tg : Expr} (a it : Addr) : Turn P w K tg (Itl K a) [it] it (fun i h => h.IsListIter it a i) where
  mem := by simp
  obj := fun i h st b hb => by
    have e : b = it := by simpa using hb
    subst e
    obtain ⟨o, e, c, d⟩ := st
    exact ⟨o, e, fun v z => by rw [d] at z; cases z⟩
  keep := fun i h h' st k => st.at fun o e => k it (by simp) o e
  item := by
    intro X hP hw hK hc i pins s σ H E I hf st hg
    subst hP hw hK
    obtain ⟨xs, x, hq, hx⟩ := hg
    obtain ⟨its, rv, p, hz⟩ := I.list hq
    obtain ⟨u, hu, ru⟩ := rv.get hx
    obtain ⟨f0, f1, f2, f3, f4, f5⟩ := hf it (by simp)
    refine wpAny_pyNext_list_item st p.isList (x := u) (by simpa using hu) fun h' st' sb => ?_
    have I1 : Inv X pins σ H { s with heap := h' } := I.turned (t' := s.toks) (fun b o hb e => (sb.2 b hb).trans e) f0 f1 f3 f4 f5
    obtain ⟨o, e, c, d⟩ := id st'
    exact ⟨u, rfl, go_of (s := { s with heap := h' }) e c d (by decide) ⟨x, H, I1, ru, ⟨rfl, fun ys hy => by rw [I.list_inj hy hq]; exact hx⟩, st', fun b hb => (hf b hb).1⟩⟩
  done := by
    intro X hP hw hK hc i pins s σ H E I hf st hg
    subst hP hw hK
    obtain ⟨xs, hq, hx⟩ := hg
    obtain ⟨its, rv, p, hz⟩ := I.list hq
    obtain ⟨f0, f1, f2, f3, f4, f5⟩ := hf it (by simp)
    have hl := rv.length
    exact wpAny_pyNext_list_end (I.ok.hd hc) st p.isList (by simp; omega) fun h' eb => ⟨rfl, I.turned (t' := s.toks) (fun b o hb e => eb b o hb e) f0 f1 f3 f4 f5⟩
  self := fun _ _ _ _ _ st h => wpAny_pyIter_listiter st h
theorem turn_tuple {P : Program} {w : World} {K : PySem.W.Frag} {tg : Expr} (a it : Addr) : Turn P w K tg (Itt K a) [it] it (fun i h => h.IsTupleIter it a i) where
  mem := by simp
  obj := fun i h st b hb => by
    have e : b = it := by simpa using hb
    subst e
    obtain ⟨o, e, c, d⟩ := st
    exact ⟨o, e, fun v z => by rw [d] at z; cases z⟩
  keep := fun i h h' st k => st.at fun o e => k it (by simp) o e
  item := by
    intro X hP hw hK hc i pins s σ H E I hf st hg
    subst hP hw hK
    obtain ⟨xs, x, hq, hx⟩ := hg
    obtain ⟨its, rv, p, hz⟩ := I.tuple hq
    obtain ⟨u, hu, ru⟩ := rv.get hx
    obtain ⟨f0, f1, f2, f3, f4, f5⟩ := hf it (by simp)
    refine wpAny_pyNext_tuple_item st (show s.heap.IsTuple a its.toArray from p) (x := u) (by simpa using hu) fun h' st' sb => ?_
    have I1 : Inv X pins σ H { s with heap := h' } := I.turned (t' := s.toks) (fun b o hb e => (sb.2 b hb).trans e) f0 f1 f3 f4 f5
    obtain ⟨o, e, c, d⟩ := id st'
    exact ⟨u, rfl, go_of (s := { s with heap := h' }) e c d (by decide) ⟨x, H, I1, ru, ⟨rfl, fun ys hy => by rw [I.tuple_inj hy hq]; exact hx⟩, st', fun b hb => (hf b hb).1⟩⟩
  done := by
    intro X hP hw hK hc i pins s σ H E I hf st hg
    subst hP hw hK
    obtain ⟨xs, hq, hx⟩ := hg
    obtain ⟨its, rv, p, hz⟩ := I.tuple hq
    obtain ⟨f0, f1, f2, f3, f4, f5⟩ := hf it (by simp)
    have hl := rv.length
    exact wpAny_pyNext_tuple_end (I.ok.hd hc) st (show s.heap.IsTuple a its.toArray from p) (by simp; omega) fun h' eb => ⟨rfl, I.turned (t' := s.toks) (fun b o hb e => eb b o hb e) f0 f1 f3 f4 f5⟩
  self := fun _ _ _ _ _ st h => wpAny_pyIter_tupleiter st h
theorem turn_range {P : Program} {w : World} {K : PySem.W.Frag} {tg : Expr} (it : Addr) (lo : Int) (n : Nat) : Turn P w K tg (Itr lo n) [it] it (fun i h => IsRangeIter h it (lo + (i : Nat) * 1) ((n : Int) - (i : Nat)) 1) where
  mem := by simp
  obj := fun i h st b hb => by
    have e : b = it := by simpa using hb
    subst e
    exact ⟨_, st, fun v z => by
      have z' : Data.fields _ = Data.cell v := z
      cases z'⟩
  keep := fun i h h' st k => k it (by simp) _ st
  item := by
    intro X hP hw hK hc i pins s σ H E I hf st hg
    subst hP hw hK
    obtain ⟨f0, f1, f2, f3, f4, f5⟩ := hf it (by simp)
    have W := Walks.range (prog := X.prog) (w := X.w) (I.ok.hd hc) it lo 1 n
    refine W.item i s _ _ hg st fun v h' tk hv st' kk => ?_
    obtain ⟨t, rfl⟩ := hv
    have I1 : Inv X pins σ H { s with heap := h', toks := tk } := I.turned (fun b o hb e => kk b o (by simpa using hb) e) f0 f1 f3 f4 f5
    refine ⟨_, rfl, go_of (s := { s with heap := h', toks := tk }) (n := "range_iterator") st' rfl rfl (by decide) ⟨.int (lo + i), H, I1, ⟨t, ?_⟩, ⟨rfl, rfl⟩, st', fun b hb => (hf b hb).1⟩⟩
    rw [Int.mul_one]
  done := by
    intro X hP hw hK hc i pins s σ H E I hf st hg
    subst hP hw hK
    obtain ⟨f0, f1, f2, f3, f4, f5⟩ := hf it (by simp)
    exact wpAny_pyNext_range_end (I.ok.hd hc) st (by have : n ≤ i := hg; omega) fun h' eb => ⟨rfl, I.turned (t' := s.toks) (fun b o hb e => eb b o hb e) f0 f1 f3 f4 f5⟩
  self := fun _ _ _ _ _ st h => wpAny_pyIter_rangeiter st h
end L2
namespace L2
open PySem PySem.Spec PyProof.Rows
section
variable {X : Cx} {tg : Expr}
theorem range_it {pins : List (Addr × Obj)} {σ : St} {H : Hp} {s : Shared} {R : It → Hp → Prop} {E : Value → Shared → Prop} {lo hi : Int} {t u v : Tok} {tk : Nat} (I : Inv X pins σ H s) (h1 : -(2 ^ 62) ≤ lo) (h2 : lo < 2 ^ 62) (h3 : -(2 ^ 62) ≤ hi) (h4 : hi < 2 ^ 62)
    (q : R (Itr lo (hi - lo).toNat) H) : wpAny (model X.prog X.w) X.A (pyIter (.ref s.heap.objs.size)) (PIE X pins σ tg R) E { s with heap := s.heap.push { cls := .type "range", data := .fields #[.int lo t, .int hi u, .int 1 v] }, toks := tk } := by
  refine wpAny_pyIter_range (IsRange.new ..) (small_one h1 h2 h3 h4) ?_
  have I1 : Inv X pins σ H { s with heap := s.heap.push { cls := .type "range", data := .fields #[.int lo t, .int hi u, .int 1 v] }, toks := tk } := I.kept fun b o e => Heap.get?_push_of_some _ e
  refine ⟨(s.heap.push { cls := .type "range", data := .fields #[.int lo t, .int hi u, .int 1 v] }).objs.size, [(s.heap.push { cls := .type "range", data := .fields #[.int lo t, .int hi u, .int 1 v] }).objs.size], _, _, H, rfl,
    I1.kept (t' := tk) fun b o e => Heap.get?_push_of_some _ e, turn_range _ lo (hi - lo).toNat, ?_, fun b hb => ?_, q⟩
  · have e1 : lo + ((0 : Nat) : Int) * 1 = lo := by simp
    have e2 : (((hi - lo).toNat : Nat) : Int) - ((0 : Nat) : Int) = Builtin.Range.rangeSize lo hi 1 := by rw [rangeSize_one]; split <;> omega
    show IsRangeIter _ _ (lo + ((0 : Nat) : Int) * 1) ((((hi - lo).toNat : Nat) : Int) - ((0 : Nat) : Int)) 1
    rw [e1, e2]
    exact Heap.get?_push_size _ rfl
  · have e : b = (s.heap.push { cls := .type "range", data := .fields #[.int lo t, .int hi u, .int 1 v] }).objs.size := by simpa using hb
    subst e
    exact I1.fpOk (Nat.le_refl _) (I1.hok.fresh (Nat.le_refl _))
noncomputable def iRng1 (ta : TA) : TI := fun σ H R => ta σ H fun vs H1 => ∃ j : Int, vs = [.int j] ∧ -(2 ^ 62) ≤ j ∧ j < 2 ^ 62 ∧ R (Itr 0 j.toNat) H1
theorem pi_range1 {a : Expr} {ta : TA} {p pos : Pos} (hg : Gl X "range") (hm : X.mg "range" = none) (ha : PA X [a] ta) (hs : starEach [a] X.env = [(false, eval a X.env)] := by rfl) : PI X tg (.Call (.Name "range" p) [a] [] pos) (iRng1 ta) := by
  intro pins s σ H R I h
  refine Call_ (ld_blt I hg hm boot_range (PyProof.Rows.callWith_type1 (thn (ha pos pins s σ H _ I h) fun us s1 zr1226 => ?_) hs rfl))
  obtain ⟨vs, H1, I1, r1, q1⟩ := zr1226
  obtain ⟨j, e, q1, q2, q⟩ := q1
  subst e
  cases r1 with
  | cons r rr =>
    cases rr
    obtain ⟨t, rfl⟩ := r
    exact call_range_1 (range_it I1 (by omega) (by omega) q1 q2 (by simpa using q))
noncomputable def tFor (wi : TI) (g : TG) (tb : TS) : TS := fun D σ H => wi σ H fun J H1 => ∃ W : Nat → Nat → St → Hp → Prop, (∃ m, W 0 m σ H1) ∧ ∀ i m σ H, W i m σ H →
  (J.stop i H ∧ D.nx σ H) ∨ (J.go i H ∧ ∃ N : St → Hp → Prop, (∀ σ' H', N σ' H' → ∃ m', m' < m ∧ W (i + 1) m' σ' H') ∧ ∀ x H', J.yld i H x H' → g x σ H' fun σ2 H2 => tb { D with nx := N, ct := N, bk := D.nx } σ2 H2)
noncomputable def pinsAt (fp : List Addr) (h : Heap) : List (Addr × Obj) := fp.filterMap fun b => (h.get? b).map fun o => (b, o)
theorem mem_pinsAt {fp : List Addr} {h : Heap} {b : Addr} {o : Obj} (hb : b ∈ fp) (e : h.get? b = some o) : (b, o) ∈ pinsAt fp h := List.mem_filterMap.mpr ⟨b, hb, by rw [e]; rfl⟩
theorem of_pinsAt {fp : List Addr} {h : Heap} {p : Addr × Obj} (hp : p ∈ pinsAt fp h) : p.1 ∈ fp ∧ h.get? p.1 = some p.2 := by
  obtain ⟨b, hb, e⟩ := List.mem_filterMap.mp hp
  cases q : h.get? b with
  | none => rw [q] at e; cases e
  | some o =>
    rw [q] at e
    have e' : (b, o) = p := Option.some.inj e
    subst e'
    exact ⟨hb, q⟩
theorem Inv.pinned {pins : List (Addr × Obj)} {σ : St} {H : Hp} {s : Shared} {fp : List Addr} (I : Inv X pins σ H s) (hf : ∀ b ∈ fp, FpOk X pins H b) (ho : ∀ b ∈ fp, ∃ o, s.heap.get? b = some o ∧ ∀ v, o.data ≠ .cell v) : Inv X (pins ++ pinsAt fp s.heap) σ H s :=
  I.pins_of fun p hp => (List.mem_append.mp hp).elim (fun z => I.pin p (List.mem_append_right _ z)) fun z => by
    obtain ⟨hb, e⟩ := of_pinsAt z
    obtain ⟨f0, f1, f2, _⟩ := hf p.1 hb
    obtain ⟨o, e', d⟩ := ho p.1 hb
    rw [e] at e'; cases e'
    exact ⟨e, f0, f1, f2, d⟩
theorem Inv.unpinned {pins pl : List (Addr × Obj)} {σ : St} {H : Hp} {s : Shared} (I : Inv X (pins ++ pl) σ H s) : Inv X pins σ H s := I.pins_of fun p hp => I.pin p (List.mem_append_right _ (List.mem_append_left _ hp))
theorem ps_for {iter : Expr} {body : List Stmt} {wi : TI} {g : TG} {tb : TS} {pos : Pos} (hp : PassesOwn (model X.prog X.w) X.A X.env X.xe) (hc : X.calm = true) (hi : PI X tg iter wi) (hg : PG X tg g) (hb : PSs X body tb)
    (hs : ∀ x, foldedSetIterable iter X.env x = pure x := by intro _; rfl) : PS X (.For tg iter body [] pos) (tFor wi g tb) := by
  intro pins s σ H D I h
  refine wpAny_For (thn (hi pins s σ H _ I h) fun v s1 h1 => thn h1 fun itv s2 h2 => ?_) hs
  obtain ⟨it, fp, tn, J, H2, e, I2, T, st2, f2, W, ⟨m0, w0⟩, turn⟩ := h2
  subst e
  -- what stays true of the iterator's objects through the loop
  have stat : ∀ {H' : Hp}, (∀ b ∈ fp, H' b = none) → ∀ b ∈ fp, FpOk X pins H' b := fun hn b hb => ⟨hn b hb, (f2 b hb).2⟩
  refine codeAny_forLoop_any (fun n s' => ∃ i σ' H', Inv X pins σ' H' s' ∧ tn i s'.heap ∧ (∀ b ∈ fp, H' b = none) ∧ W i n σ' H') ?_ m0 ⟨0, σ, H2, I2, st2, fun b hb => (f2 b hb).1, w0⟩
  rintro n s3 ⟨i, σ3, H3, I3, st3, fr3, w3⟩
  rcases turn i n σ3 H3 w3 with ⟨stop, qn⟩ | ⟨go, N, hN, step⟩
  · refine wpAny_passesOwn hp (thn (T.done X rfl rfl rfl hc i pins s3 σ3 H3 X.xe I3 (stat fr3) st3 stop) fun r s4 zr1266 => ?_)
    obtain ⟨hr, I4⟩ := zr1266
    subst hr
    exact wpAny_execs_nil ⟨σ3, H3, I4, qn⟩
  · refine wpAny_passesOwn hp (thn (T.item X rfl rfl rfl hc i pins s3 σ3 H3 X.xe I3 (stat fr3) st3 go) fun r s4 zr1269 => ?_)
    obtain ⟨u, hr, h4⟩ := zr1269
    subst hr
    refine wpAny_passesOwn hp (thn h4 fun _ s5 zr1271 => ?_)
    obtain ⟨x, H5, I5, r5, y5, st5, fr5⟩ := zr1271
    have I5' := I5.pinned (stat fr5) (T.obj _ _ st5)
    refine wpAny_passesOwn hp (thn (hg _ s5 σ3 H5 x u _ I5' r5 (step x H5 y5)) fun _ s6 zr1273 => ?_)
    obtain ⟨σ6, H6, I6, q6⟩ := zr1273
    refine wpAny_passesOwn hp (thn (hb _ s6 σ6 H6 _ I6 q6) fun f s7 q7 => ?_)
    have again : ∀ {σ7 : St} {H7 : Hp}, Inv X (pins ++ pinsAt fp s5.heap) σ7 H7 s7 → N σ7 H7 → ∃ m, m < n ∧ ∃ i σ' H', Inv X pins σ' H' s7 ∧ tn i s7.heap ∧ (∀ b ∈ fp, H' b = none) ∧ W i m σ' H' := fun {σ7 H7} I7 n7 => by
      obtain ⟨m', hm, w7⟩ := hN σ7 H7 n7
      refine ⟨m', hm, i + 1, σ7, H7, I7.unpinned, T.keep _ _ _ st5 fun b hb o e => (I7.pin (b, o) (List.mem_append_right _ (List.mem_append_right _ (mem_pinsAt hb e)))).1, fun b hb => ?_, w7⟩
      obtain ⟨o, e, d⟩ := T.obj _ _ st5 b hb
      exact (I7.pin (b, o) (List.mem_append_right _ (List.mem_append_right _ (mem_pinsAt hb e)))).2.1
    cases f with
    | next => obtain ⟨σ7, H7, I7, n7⟩ := q7; exact again I7 n7
    | cont => obtain ⟨σ7, H7, I7, n7⟩ := q7; exact again I7 n7
    | brk => obtain ⟨σ7, H7, I7, q7⟩ := q7; exact ⟨σ7, H7, I7.unpinned, q7⟩
    | ret v => obtain ⟨x7, σ7, H7, I7, r7, q7⟩ := q7; exact ⟨x7, σ7, H7, I7.unpinned, r7, q7⟩
end
end L2
namespace L2
open PySem PySem.Spec PyProof.Rows
noncomputable abbrev R2 := V → V → Hp → VK → Prop
noncomputable def OpR (X : Cx) (f : Value → Value → Sem Value) (r : R2) : Prop :=
  ∀ (pins : List (Addr × Obj)) (s : Shared) (σ : St) (H : Hp) (x y : V) (v u : Value) (Q : VK), Inv X pins σ H s → RelV x v → RelV y u → r x y H Q →
    wpAny (model X.prog X.w) X.A (f v u) (EP X pins σ Q) X.xe s
noncomputable def UnR (X : Cx) (f : Value → Sem Value) (r : V → Hp → VK → Prop) : Prop :=
  ∀ (pins : List (Addr × Obj)) (s : Shared) (σ : St) (H : Hp) (x : V) (v : Value) (Q : VK), Inv X pins σ H s → RelV x v → r x H Q →
    wpAny (model X.prog X.w) X.A (f v) (EP X pins σ Q) X.xe s
noncomputable def CallR (X : Cx) (f : Value) (r : List V → Hp → VK → Prop) : Prop :=
  ∀ (pins : List (Addr × Obj)) (s : Shared) (σ : St) (H : Hp) (xs : List V) (us : List Value) (Q : VK), Inv X pins σ H s → Vals xs us → r xs H Q →
    wpAny (model X.prog X.w) X.A (call f us) (EP X pins σ Q) X.xe s
noncomputable def tOp (r : R2) (ta tb : TE) : TE := fun σ H Q => ta σ H fun x H1 => tb σ H1 fun y H2 => r x y H2 Q
noncomputable def tUn (r : V → Hp → VK → Prop) (ta : TE) : TE := fun σ H Q => ta σ H fun x H1 => r x H1 Q
noncomputable def rI (C : Int → Int → Prop) (g : Int → Int → V) : R2 := fun x y H Q => ∃ i j, x = .int i ∧ y = .int j ∧ C i j ∧ Q (g i j) H
noncomputable def rI0 (g : Int → Int → V) : R2 := fun x y H Q => ∃ i j, x = .int i ∧ y = .int j ∧ Q (g i j) H
noncomputable def rU (g : Int → V) : V → Hp → VK → Prop := fun x H Q => ∃ i, x = .int i ∧ Q (g i) H
section
variable {X : Cx} {a b c : Expr} {ta tb tc : TE} {pos : Pos}
theorem binT (ha : PE X a ta) (hb : PE X b tb) {pins : List (Addr × Obj)} {s : Shared} {σ : St} {H : Hp} {R : V → V → Hp → Prop} (I : Inv X pins σ H s)
    (h : ta σ H fun x H1 => tb σ H1 fun y H2 => R x y H2) {Q : Value → Shared → Prop} {f : Value → Value → Sem Value}
    (hf : ∀ v u s2 x y H2, Inv X pins σ H2 s2 → RelV x v → RelV y u → R x y H2 → wpAny (model X.prog X.w) X.A (f v u) Q X.xe s2) :
    wpAny (model X.prog X.w) X.A (eval a X.env) (fun v s₁ => wpAny (model X.prog X.w) X.A (eval b X.env) (fun u s₂ => wpAny (model X.prog X.w) X.A (f v u) Q X.xe s₂) X.xe s₁) X.xe s := by
  refine thn (ha pins s σ H _ I h) fun v s1 zr1310 => ?_
  obtain ⟨x, H1, I1, r1, q1⟩ := zr1310
  refine thn (hb pins s1 σ H1 _ I1 q1) fun u s2 zr1311 => ?_
  obtain ⟨y, H2, I2, r2, q2⟩ := zr1311
  exact hf v u s2 x y H2 I2 r1 r2 q2
theorem pe_op {op : Operator} {r : R2} (ho : OpR X (binaryOp op) r) (ha : PE X a ta) (hb : PE X b tb) : PE X (.BinOp a op b pos) (tOp r ta tb) := by
  intro pins s σ H Q I h
  exact wpAny_BinOp (binT ha hb I h fun v u s2 x y H2 I2 rx ry q => ho pins s2 σ H2 x y v u Q I2 rx ry q)
theorem pe_un {op : UnaryOp} {r : V → Hp → VK → Prop} (ho : UnR X (unaryOp op) r) (ha : PE X a ta) : PE X (.UnaryOp op a pos) (tUn r ta) := by
  intro pins s σ H Q I h
  exact UnaryOp_ (thn (ha pins s σ H _ I h) fun v s1 zq2 => by obtain ⟨x, H1, I1, r1, q1⟩ := zq2; exact (ho pins s1 σ H1 x v Q I1 r1 q1))
theorem opI {f : Value → Value → Sem Value} {C : Int → Int → Prop} {g : Int → Int → Int}
    (rule : ∀ (i j : Int) (t u : Tok) (s : Shared) (Q : Value → Shared → Prop) (E : Value → Shared → Prop), C i j → Q (.int (g i j) s.toks) { s with toks := s.toks + 1 } → wpAny (model X.prog X.w) X.A (f (.int i t) (.int j u)) Q E s) :
    OpR X f (rI C fun i j => .int (g i j)) := by
  intro pins s σ H x y v u Q I rx ry h
  obtain ⟨i, j, rfl, rfl, hc, q⟩ := h
  obtain ⟨t, rfl⟩ := rx
  obtain ⟨t', rfl⟩ := ry
  exact rule i j t t' s _ _ hc ⟨.int (g i j), H, I.tok _, ⟨_, rfl⟩, q⟩
theorem opI0 {f : Value → Value → Sem Value} {g : Int → Int → Int}
    (rule : ∀ (i j : Int) (t u : Tok) (s : Shared) (Q : Value → Shared → Prop) (E : Value → Shared → Prop), Q (.int (g i j) s.toks) { s with toks := s.toks + 1 } → wpAny (model X.prog X.w) X.A (f (.int i t) (.int j u)) Q E s) :
    OpR X f (rI0 fun i j => .int (g i j)) := by
  intro pins s σ H x y v u Q I rx ry h
  obtain ⟨i, j, rfl, rfl, q⟩ := h
  obtain ⟨t, rfl⟩ := rx
  obtain ⟨t', rfl⟩ := ry
  exact rule i j t t' s _ _ ⟨.int (g i j), H, I.tok _, ⟨_, rfl⟩, q⟩
theorem opB0 {f : Value → Value → Sem Value} {g : Int → Int → Bool}
    (rule : ∀ (i j : Int) (t u : Tok) (s : Shared) (Q : Value → Shared → Prop) (E : Value → Shared → Prop), Q (.bool (g i j)) s → wpAny (model X.prog X.w) X.A (f (.int i t) (.int j u)) Q E s) :
    OpR X f (rI0 fun i j => .bl (g i j)) := by
  intro pins s σ H x y v u Q I rx ry h
  obtain ⟨i, j, rfl, rfl, q⟩ := h
  obtain ⟨t, rfl⟩ := rx
  obtain ⟨t', rfl⟩ := ry
  exact rule i j t t' s _ _ ⟨.bl (g i j), H, I, rfl, q⟩
noncomputable def CPow (i j : Int) : Prop := 0 ≤ j ∧ j ≤ 1000000 ∧ i.natAbs < 2 ^ 64
noncomputable def CMul (i j : Int) : Prop := (-(2 ^ 64) < i ∧ i < 2 ^ 64) ∨ (-(2 ^ 64) < j ∧ j < 2 ^ 64)
theorem CMul.ok {i j : Int} (h : CMul i j) : IntMulOk i j := by
  rcases h with ⟨h1, h2⟩ | ⟨h1, h2⟩
  · exact .of_left (intBits_le_64 h1 h2)
  · exact .of_right (intBits_le_64 h1 h2)
theorem op_add : OpR X (binaryOp .Add) (rI0 fun i j => .int (i + j)) := opI0 fun _ _ _ _ _ _ _ q => add_int q
theorem op_sub : OpR X (binaryOp .Sub) (rI0 fun i j => .int (i - j)) := opI0 fun _ _ _ _ _ _ _ q => sub_int q
theorem op_mul : OpR X (binaryOp .Mult) (rI CMul fun i j => .int (i * j)) := opI fun _ _ _ _ _ _ _ hc q => mul_int q hc.ok
theorem op_mod : OpR X (binaryOp .Mod) (rI (fun _ j => 0 < j) fun i j => .int (i % j)) := opI fun i j _ _ _ _ _ hc q => by
  have h1 : (0 : Int) < j := hc
  exact mod_int' (by omega) (by rw [Int.fmod_eq_emod_of_nonneg i (by omega)]; exact q)
theorem op_pow : OpR X (binaryOp .Pow) (rI CPow fun i j => .int (i ^ j.toNat)) := opI fun _ _ _ _ _ _ _ hc q => pow_int_small hc.1 hc.2.1 hc.2.2 q
theorem unI {f : Value → Sem Value} {g : Int → Int}
    (rule : ∀ (i : Int) (t : Tok) (s : Shared) (Q : Value → Shared → Prop) (E : Value → Shared → Prop), Q (.int (g i) s.toks) { s with toks := s.toks + 1 } → wpAny (model X.prog X.w) X.A (f (.int i t)) Q E s) :
    UnR X f (rU fun i => .int (g i)) := by
  intro pins s σ H x v Q I rx h
  obtain ⟨i, rfl, q⟩ := h
  obtain ⟨t, rfl⟩ := rx
  exact rule i t s _ _ ⟨.int (g i), H, I.tok _, ⟨_, rfl⟩, q⟩
theorem un_neg : UnR X (unaryOp .USub) (rU fun i => .int (-i)) := unI fun _ _ _ _ _ q => neg_int q
end
noncomputable def scal : V → V → Bool
  | .non, .non => true | .non, .int _ => true | .int _, .non => true | .non, .bl _ => true | .bl _, .non => true | .non, .str _ => true | .str _, .non => true
  | .int _, .int _ => true | .bl _, .bl _ => true | .str _, .str _ => true | .byt _, .byt _ => true
  | .int _, .str _ => true | .str _, .int _ => true | .bl _, .str _ => true | .str _, .bl _ => true
  | _, _ => false
noncomputable def rEq : R2 := fun x y H Q => scal x y = true ∧ Q (.bl (decide (x = y))) H
noncomputable def rNe : R2 := fun x y H Q => scal x y = true ∧ Q (.bl (!decide (x = y))) H
theorem dec_int {i j : Int} : decide (V.int i = V.int j) = (i == j) := by
  rw [Bool.eq_iff_iff]
  simp
theorem dec_bl {i j : Bool} : decide (V.bl i = V.bl j) = (i == j) := by
  rw [Bool.eq_iff_iff]
  simp
theorem dec_str {i j : Str} : decide (V.str i = V.str j) = (i == j) := by
  rw [Bool.eq_iff_iff]
  simp
theorem dec_byt {i j : Array UInt8} : decide (V.byt i = V.byt j) = (i.toList == j.toList) := by
  rw [Bool.eq_iff_iff]
  cases i
  cases j
  simp
section
variable {X : Cx} {a b c : Expr} {ta tb tc : TE} {pos : Pos}
theorem fin_bl {pins : List (Addr × Obj)} {σ : St} {H : Hp} {s : Shared} {Q : VK} {k k' : Bool} (I : Inv X pins σ H s) (q : Q (.bl k) H) (e : k = k') : EP X pins σ Q (.bool k') s := by
  subst e
  exact ⟨.bl k, H, I, rfl, q⟩
theorem op_eq : OpR X (compareOp .Eq) rEq := by
  intro pins s σ H x y v u Q I rx ry h
  obtain ⟨hs, q⟩ := h
  cases x with
  | non =>
    cases rx
    cases y with
    | non => cases ry; exact PySem.EqNone.eq_none_none (fin_bl I q (by simp))
    | bl j => cases ry; exact PySem.EqNone.eq_none_bool (fin_bl I q (by simp))
    | int j => obtain ⟨t', rfl⟩ := ry; exact PySem.EqNone.eq_none_int (fin_bl I q (by simp))
    | str j => obtain ⟨t', rfl⟩ := ry; exact PySem.EqNone.eq_none_str (fin_bl I q (by simp))
    | _ => exact absurd (show false = true from hs) Bool.false_ne_true
  | bl i =>
    cases rx
    cases y with
    | non => cases ry; exact PySem.EqNone.eq_bool_none (fin_bl I q (by simp))
    | bl j => cases ry; exact eq_bool (fin_bl I q dec_bl)
    | str j => obtain ⟨t', rfl⟩ := ry; exact PySem.EqMixed.eq_bool_str (fin_bl I q (by simp))
    | _ => exact absurd (show false = true from hs) Bool.false_ne_true
  | int i =>
    obtain ⟨t, rfl⟩ := rx
    cases y with
    | non => cases ry; exact PySem.EqNone.eq_int_none (fin_bl I q (by simp))
    | int j => obtain ⟨t', rfl⟩ := ry; exact eq_int (fin_bl I q dec_int)
    | str j => obtain ⟨t', rfl⟩ := ry; exact PySem.EqMixed.eq_int_str (fin_bl I q (by simp))
    | _ => exact absurd (show false = true from hs) Bool.false_ne_true
  | str i =>
    obtain ⟨t, rfl⟩ := rx
    cases y with
    | non => cases ry; exact PySem.EqNone.eq_str_none (fin_bl I q (by simp))
    | bl j => cases ry; exact PySem.EqMixed.eq_str_bool (fin_bl I q (by simp))
    | int j => obtain ⟨t', rfl⟩ := ry; exact PySem.EqMixed.eq_str_int (fin_bl I q (by simp))
    | str j => obtain ⟨t', rfl⟩ := ry; exact eq_str (fin_bl I q dec_str)
    | _ => exact absurd (show false = true from hs) Bool.false_ne_true
  | byt i =>
    obtain ⟨t, rfl⟩ := rx
    cases y with
    | byt j => obtain ⟨t', rfl⟩ := ry; exact PySem.W.eq_bytes (fin_bl I q dec_byt)
    | _ => exact absurd (show false = true from hs) Bool.false_ne_true
  | _ => cases y <;> exact absurd (show false = true from hs) Bool.false_ne_true
theorem op_ne : OpR X (compareOp .NotEq) rNe := by
  intro pins s σ H x y v u Q I rx ry h
  obtain ⟨hs, q⟩ := h
  cases x with
  | non =>
    cases rx
    cases y with
    | non => cases ry; exact PySem.EqNone.ne_none_none (fin_bl I q (by simp))
    | bl j => cases ry; exact PySem.EqNone.ne_none_bool (fin_bl I q (by simp))
    | int j => obtain ⟨t', rfl⟩ := ry; exact PySem.EqNone.ne_none_int (fin_bl I q (by simp))
    | str j => obtain ⟨t', rfl⟩ := ry; exact PySem.EqNone.ne_none_str (fin_bl I q (by simp))
    | _ => exact absurd (show false = true from hs) Bool.false_ne_true
  | bl i =>
    cases rx
    cases y with
    | non => cases ry; exact PySem.EqNone.ne_bool_none (fin_bl I q (by simp))
    | bl j => cases ry; exact ne_bool (fin_bl I q (congrArg not dec_bl))
    | str j => obtain ⟨t', rfl⟩ := ry; exact PySem.EqMixed.ne_bool_str (fin_bl I q (by simp))
    | _ => exact absurd (show false = true from hs) Bool.false_ne_true
  | int i =>
    obtain ⟨t, rfl⟩ := rx
    cases y with
    | non => cases ry; exact PySem.EqNone.ne_int_none (fin_bl I q (by simp))
    | int j => obtain ⟨t', rfl⟩ := ry; exact ne_int (fin_bl I q (congrArg not dec_int))
    | str j => obtain ⟨t', rfl⟩ := ry; exact PySem.EqMixed.ne_int_str (fin_bl I q (by simp))
    | _ => exact absurd (show false = true from hs) Bool.false_ne_true
  | str i =>
    obtain ⟨t, rfl⟩ := rx
    cases y with
    | non => cases ry; exact PySem.EqNone.ne_str_none (fin_bl I q (by simp))
    | bl j => cases ry; exact PySem.EqMixed.ne_str_bool (fin_bl I q (by simp))
    | int j => obtain ⟨t', rfl⟩ := ry; exact PySem.EqMixed.ne_str_int (fin_bl I q (by simp))
    | str j => obtain ⟨t', rfl⟩ := ry; exact ne_str (fin_bl I q (congrArg not dec_str))
    | _ => exact absurd (show false = true from hs) Bool.false_ne_true
  | byt i =>
    obtain ⟨t, rfl⟩ := rx
    cases y with
    | byt j => obtain ⟨t', rfl⟩ := ry; exact PySem.W.ne_bytes (fin_bl I q (congrArg not dec_byt))
    | _ => exact absurd (show false = true from hs) Bool.false_ne_true
  | _ => cases y <;> exact absurd (show false = true from hs) Bool.false_ne_true
theorem op_le : OpR X (compareOp .LtE) (rI0 fun i j => .bl (decide (i ≤ j))) := opB0 fun _ _ _ _ _ _ _ q => le_int q
theorem op_gt : OpR X (compareOp .Gt) (rI0 fun i j => .bl (decide (j < i))) := opB0 fun _ _ _ _ _ _ _ q => gt_int q
theorem nomark (b : Expr) {op : CmpOp} (h : op ≠ .In := by decide) (h2 : op ≠ .NotIn := by decide) : behindInMarks op b = false := by
  have e1 : (op == CmpOp.In) = false := by cases op <;> first | rfl | exact absurd rfl h
  have e2 : (op == CmpOp.NotIn) = false := by cases op <;> first | rfl | exact absurd rfl h2
  cases b <;> simp [behindInMarks, e1, e2]
theorem pe_cmpR {op : CmpOp} {r : R2} (ho : OpR X (compareOp op) r) (ha : PE X a ta) (hb : PE X b tb) (hm : behindInMarks op b = false) : PE X (.Compare a [op] [b] pos) (tOp r ta tb) := by
  intro pins s σ H Q I h
  exact wpAny_Compare1 (binT ha hb I h fun v u s2 x y H2 I2 rx ry q => ho pins s2 σ H2 x y v u Q I2 rx ry q) hm
noncomputable def tTest (t : TE) : TT := fun σ H Q => t σ H fun x H' => ∃ k, x = .bl k ∧ Q k H'
theorem pt_cmpR {op : CmpOp} {r : R2} (ho : OpR X (compareOp op) r) (ha : PE X a ta) (hb : PE X b tb) (hm : behindInMarks op b = false) : PT X (.Compare a [op] [b] pos) (tTest (tOp r ta tb)) := by
  intro pins s σ H Q I h
  refine wpAny_isTrue_Compare1 (thn (ha pins s σ H _ I h) fun v s1 ⟨x, H1, I1, r1, q1⟩ => thn (hb pins s1 σ H1 _ I1 q1) fun u s2 ⟨y, H2, I2, r2, q2⟩ =>
    thn (ho pins s2 σ H2 x y v u _ I2 r1 r2 q2) fun c s3 ⟨z, H3, I3, r3, k, e, q3⟩ => ?_) hm
  subst e
  cases r3
  exact wpAny_truthy_bool ⟨H3, I3, q3⟩
noncomputable def tChain (r r' : R2) (ta tb tc : TE) : TE := fun σ H Q => ta σ H fun x H1 => tb σ H1 fun y H2 => r x y H2 fun z H3 => ∃ k, z = .bl k ∧
  (if k = true then tc σ H3 fun w' H4 => r' y w' H4 Q else Q (.bl false) H3)
theorem pe_chain {op op' : CmpOp} {r r' : R2} (ho : OpR X (compareOp op) r) (ho' : OpR X (compareOp op') r') (ha : PE X a ta) (hb : PE X b tb) (hc : PE X c tc)
    (hm : lastMarks [op, op'] [b, c] = false := by with_unfolding_all rfl) : PE X (.Compare a [op, op'] [b, c] pos) (tChain r r' ta tb tc) := by
  intro pins s σ H Q I h
  refine Compare_chain (thn (ha pins s σ H _ I h) fun v s1 ⟨x, H1, I1, r1, q1⟩ => chain_link (thn (hb pins s1 σ H1 _ I1 q1) fun u s2 ⟨y, H2, I2, r2, q2⟩ =>
    thn (ho pins s2 σ H2 x y v u _ I2 r1 r2 q2) fun d s3 ⟨z, H3, I3, r3, k, e, q3⟩ => ?_)) hm
  subst e
  cases r3
  refine wpAny_truthy_bool ?_
  cases k with
  | false => exact ite_ff ⟨.bl false, H3, I3, rfl, q3⟩
  | true => exact ite_tt (chain_last (thn (hc pins s3 σ H3 _ I3 q3) fun w' s4 zq3 => by obtain ⟨z', H4, I4, r4, q4⟩ := zq3; exact (ho' pins s4 σ H4 y z' u w' Q I4 r2 r4 q4)))
theorem pt_chain {op op' : CmpOp} {r r' : R2} (ho : OpR X (compareOp op) r) (ho' : OpR X (compareOp op') r') (ha : PE X a ta) (hb : PE X b tb) (hc : PE X c tc)
    (hm : lastMarks [op, op'] [b, c] = false := by with_unfolding_all rfl) : PT X (.Compare a [op, op'] [b, c] pos) (tTest (tChain r r' ta tb tc)) := by
  intro pins s σ H Q I h
  refine isTrue_chain (thn (ha pins s σ H _ I h) fun v s1 ⟨x, H1, I1, r1, q1⟩ => test_link (thn (hb pins s1 σ H1 _ I1 q1) fun u s2 ⟨y, H2, I2, r2, q2⟩ =>
    thn (ho pins s2 σ H2 x y v u _ I2 r1 r2 q2) fun d s3 ⟨z, H3, I3, r3, k, e, q3⟩ => ?_)) hm
  subst e
  cases r3
  refine wpAny_truthy_bool ?_
  cases k with
  | false =>
    obtain ⟨k', e', q'⟩ := q3
    cases e'
    exact ite_ff ⟨H3, I3, q'⟩
  | true =>
    refine ite_tt (test_last (thn (hc pins s3 σ H3 _ I3 q3) fun w' s4 ⟨z', H4, I4, r4, q4⟩ => thn (ho' pins s4 σ H4 y z' u w' _ I4 r2 r4 q4) fun d' s5 zr1515 => ?_))
    obtain ⟨z2, H5, I5, r5, k2, e2, q5⟩ := zr1515
    subst e2
    cases r5
    exact wpAny_truthy_bool ⟨H5, I5, q5⟩
theorem line63 : (sizeLine : Nat) < 2 ^ 63 := by rw [sizeLine_eq]; decide
theorem op_add_str : OpR X (binaryOp .Add) (fun x y H Q => ∃ i j, x = .str i ∧ y = .str j ∧ i.length + j.length ≤ sizeLine ∧ Q (.str (i ++ j)) H) := by
  intro pins s σ H x y v u Q I rx ry h
  obtain ⟨i, j, rfl, rfl, hz, q⟩ := h
  obtain ⟨t, rfl⟩ := rx
  obtain ⟨t', rfl⟩ := ry
  exact add_str (fun t' tk => ⟨.str (i ++ j), H, I.tok _, ⟨_, rfl⟩, q⟩) hz
theorem vals1 {x : V} {us : List Value} (r : Vals [x] us) : ∃ u, us = [u] ∧ RelV x u := by
  cases r with
  | cons r1 r2 => cases r2; exact ⟨_, rfl, r1⟩
theorem vals2 {x y : V} {us : List Value} (r : Vals [x, y] us) : ∃ u w', us = [u, w'] ∧ RelV x u ∧ RelV y w' := by
  cases r with
  | cons r1 r2 =>
    cases r2 with
    | cons r3 r4 => cases r4; exact ⟨_, _, rfl, r1, r3⟩
theorem call_abs : CallR X (.builtin "abs") (fun xs H Q => ∃ i, xs = [.int i] ∧ Q (.int (if i < 0 then -i else i)) H) := by
  intro pins s σ H xs us Q I r h
  obtain ⟨i, rfl, q⟩ := h
  obtain ⟨u, rfl, t, rfl⟩ := vals1 r
  exact call_abs_int fun u tk => ⟨.int (if i < 0 then -i else i), H, I.tok _, ⟨_, rfl⟩, q⟩
theorem call_max2 (hc : X.calm = true) : CallR X (.builtin "max") (fun xs H Q => ∃ i j, xs = [.int i, .int j] ∧ Q (.int (if j > i then j else i)) H) := by
  intro pins s σ H xs us Q I r h
  obtain ⟨i, j, rfl, q⟩ := h
  obtain ⟨u, w', rfl, ⟨t, rfl⟩, ⟨t', rfl⟩⟩ := vals2 r
  refine max_two_ints (I.ok.hd hc) fun h' tk k => ⟨_, H, I.kept k, ?_, q⟩
  by_cases hj : j > i
  · rw [if_pos hj, if_pos hj]; exact ⟨_, rfl⟩
  · rw [if_neg hj, if_neg hj]; exact ⟨_, rfl⟩
theorem call_min2 (hc : X.calm = true) : CallR X (.builtin "min") (fun xs H Q => ∃ i j, xs = [.int i, .int j] ∧ Q (.int (if j < i then j else i)) H) := by
  intro pins s σ H xs us Q I r h
  obtain ⟨i, j, rfl, q⟩ := h
  obtain ⟨u, w', rfl, ⟨t, rfl⟩, ⟨t', rfl⟩⟩ := vals2 r
  refine min_two_ints (I.ok.hd hc) fun h' tk k => ⟨_, H, I.kept k, ?_, q⟩
  by_cases hj : j < i
  · rw [if_pos hj, if_pos hj]; exact ⟨_, rfl⟩
  · rw [if_neg hj, if_neg hj]; exact ⟨_, rfl⟩
theorem call_int1 : CallR X (.type "int") (fun xs H Q => (∃ i, xs = [.int i] ∧ Q (.int i) H) ∨ ∃ k, xs = [.bl k] ∧ Q (.int (if k then 1 else 0)) H) := by
  intro pins s σ H xs us Q I r h
  rcases h with ⟨i, rfl, q⟩ | ⟨k, rfl, q⟩
  · obtain ⟨u, rfl, t, rfl⟩ := vals1 r
    exact call_int_int ⟨.int i, H, I, ⟨_, rfl⟩, q⟩
  · obtain ⟨u, rfl, r1⟩ := vals1 r
    cases r1
    exact call_int_bool ⟨.int (if k then 1 else 0), H, I.tok _, ⟨_, rfl⟩, q⟩
end
end L2
namespace L2
open PySem PySem.Spec PyProof.Rows
structure ObjM (h : Heap) (x dx C : Addr) (mA : Str → Option Value) : Prop where
  obj : h.get? x = some (PySem.W.instObj C dx)
  ns : h.Ns1 dx mA
  ne : dx ≠ x
theorem lookIn_ns {h : Heap} {dx : Addr} {mA : Str → Option Value} (n : h.Ns1 dx mA) : ∃ od, h.get? dx = some od ∧ ∀ name, PySem.W.lookIn name od = some (mA name) := by
  obtain ⟨o, es, ep, ho, hd, hk, _, hm⟩ := n
  refine ⟨o, ho, fun name => ?_⟩
  have e := hm name
  unfold nsFind findBy at e
  rw [← Array.find?_toList] at e
  unfold PySem.W.lookIn
  rw [hd]
  dsimp only
  split
  · rename_i y q
    rw [q] at e
    exact congrArg some e
  · rename_i q
    rw [q] at e
    have a : es.toList.any (·.refKey) = false := by
      rw [List.any_eq_false]
      intro y hy
      obtain ⟨z, t, hkey⟩ := hk y (Array.mem_toList_iff.mp hy)
      simp [DictEntry.refKey, hkey]
    have a' : ¬ es.toList.any (·.refKey) = true := by rw [a]; exact Bool.false_ne_true
    rw [if_neg a']
    exact congrArg some e
theorem ObjM.look {h : Heap} {x dx C : Addr} {mA : Str → Option Value} (I : ObjM h x dx C mA) : ∃ od, PySem.W.InstAt h x (PySem.W.instObj C dx) C (some od) ∧ ∀ name, PySem.W.lookIn name od = some (mA name) :=
  let ⟨od, ho, hl⟩ := lookIn_ns I.ns
  ⟨od, ⟨I.obj, rfl, rfl, ho⟩, hl⟩
theorem RelO.some_of {v : V} {o : Option Value} (r : RelO (some v) o) : ∃ u, o = some u ∧ RelV v u := by
  cases o with
  | none => exact (show False from r).elim
  | some u => exact ⟨u, rfl, r⟩
section
variable {P : Program} {w : World} {H H' : Hp} {h h' : Heap} {a C dx : Addr} {fs fs' : List (Str × V)}
theorem ins_get (hok : HOk P w H h) (e : H a = some (.ins C dx fs)) : ∃ mA, ObjM h a dx C mA ∧ (∀ f, RelO (fs.lookup f) (mA f)) ∧ PySem.Within mA (fs.map (·.1)) ∧ fs.length ≤ 1000 ∧ H dx = some (.own a) := by
  obtain ⟨d, z, ne, ob, mA, n, r, q⟩ := (show ObjOk P w H h a (.ins C dx fs) from hok a _ e)
  exact ⟨mA, ⟨ob, n, ne⟩, r, q, z, d⟩
end
structure Cls (K : PySem.W.Frag) (C : Addr) : Prop where
  pg : PySem.W.plainGet K C Str.empty = true
  hd : PySem.W.hasDictIn K C = true
  po : PySem.W.plainOver K C = true
  sa : PySem.W.findIn K (.ref C) "__setattr__" = some (some (.builtin "object.__setattr__"))
theorem Cls.get {K : PySem.W.Frag} {C : Addr} (c : Cls K C) (f : Str) : PySem.W.plainGet K C f = true := c.pg
section
variable {X : Cx} {pins : List (Addr × Obj)} {σ : St} {H : Hp} {s : Shared} {A : Around} {E : Value → Shared → Prop} {Q : Value → Shared → Prop} {c : Value} {b : Bool}
inductive TyOf (K : PySem.W.Frag) (H : Hp) : V → Value → Prop where
  | non : TyOf K H .non (.type "NoneType")
  | bl (x : Bool) : TyOf K H (.bl x) (.type "bool")
  | int (i : Int) : TyOf K H (.int i) (.type "int")
  | str (x : Str) : TyOf K H (.str x) (.type "str")
  | flt (x : UInt64) : TyOf K H (.flt x) (.type "float")
  | lst {a : Addr} {xs : List V} (e : H a = some (.lst xs)) : TyOf K H (.ref a) (.type "list")
  | frz {a : Addr} {o : Obj} {xs : List V} (e : H a = some (.frz o (.lst xs))) : TyOf K H (.ref a) (.type "list")
  | tup {a : Addr} {xs : List V} (e : H a = some (.tup xs)) : TyOf K H (.ref a) (.type "tuple")
  | dK {a : Addr} {kvs : List (Key × V)} (e : H a = some (.dK kvs)) : TyOf K H (.ref a) (.type "dict")
  | dT {a : Addr} {kvs : List (List Key × V)} (e : H a = some (.dT kvs)) : TyOf K H (.ref a) (.type "dict")
  | ins {a C dx : Addr} {fs : List (Str × V)} (e : H a = some (.ins C dx fs)) (cl : Cls K C) (ha : PySem.W.findIn K (.ref C) "__class__" = some (some (.builtin "object.__class__")))
      (hn : PySem.W.specialIn K (.builtin "object.__class__") "__get__" = some (some (.builtin "getset_descriptor.__get__"))) (htk : PySem.W.takesIn K (.builtin "object.__class__") = some true)
      (hm : PySem.W.mroIn K C (.type "object") = some true) : TyOf K H (.ref a) (.ref C)
theorem isinst_ok {x : V} {u t : Value} (I : Inv X pins σ H s) (rx : RelV x u) (ty : TyOf X.K H x t) (e : PySem.W.kitOne X.K t c = some b) (h : ∀ tk, Q (.bool b) { s with toks := tk }) :
    wpAny (model X.prog X.w) A (call (.builtin "isinstance") [u, c]) Q E s := by
  cases ty with
  | non => cases (show u = Value.none from rx); exact PySem.W.kia_one PySem.W.kitx_none I.kIn True.intro e (fun z => nomatch z) h
  | bl y => cases (show u = Value.bool y from rx); exact PySem.W.kia_one PySem.W.kitx_bool I.kIn True.intro e (fun z => nomatch z) h
  | int i => obtain ⟨t, q⟩ := (show ∃ t, u = Value.int i t from rx); cases q; exact PySem.W.kia_one PySem.W.kitx_int I.kIn True.intro e (fun z => nomatch z) h
  | str y => obtain ⟨t, q⟩ := (show ∃ t, u = Value.str y t from rx); cases q; exact PySem.W.kia_one PySem.W.kitx_str I.kIn True.intro e (fun z => nomatch z) h
  | flt y => obtain ⟨t, q⟩ := (show ∃ t, u = Value.float y t from rx); cases q; exact PySem.W.kia_one PySem.W.kitx_float I.kIn True.intro e (fun z => nomatch z) h
  | @lst a xs ea =>
    cases (show u = Value.ref a from rx)
    obtain ⟨_, _, n, _, h1⟩ := (show ObjOk X.prog X.w H s.heap a (.lst xs) from I.hok a _ ea)
    exact PySem.W.kia_one PySem.W.kitx_list I.kIn ⟨_, h1, rfl⟩ e (fun z => nomatch z) h
  | @frz a ob xs ea =>
    cases (show u = Value.ref a from rx)
    obtain ⟨_, _, _, n, _, h1⟩ := (show ObjOk X.prog X.w H s.heap a (.frz ob (.lst xs)) from I.hok a _ ea)
    exact PySem.W.kia_one PySem.W.kitx_list I.kIn ⟨_, h1, rfl⟩ e (fun z => nomatch z) h
  | @tup a xs ea =>
    cases (show u = Value.ref a from rx)
    obtain ⟨_, _, _, p⟩ := (show ObjOk X.prog X.w H s.heap a (.tup xs) from I.hok a _ ea)
    obtain ⟨o, h1, h2, _⟩ := p
    exact PySem.W.kia_one PySem.W.kitx_tuple I.kIn ⟨o, h1, h2⟩ e (fun z => nomatch z) h
  | @dK a kvs ea =>
    cases (show u = Value.ref a from rx)
    obtain ⟨_, _, vs, _, p⟩ := (show ObjOk X.prog X.w H s.heap a (.dK kvs) from I.hok a _ ea)
    obtain ⟨o, es, ep, h1, h2, _⟩ := p
    exact PySem.W.kia_one PySem.W.kitx_dict I.kIn ⟨o, h1, h2.1⟩ e (fun z => nomatch z) h
  | @dT a kvs ea =>
    cases (show u = Value.ref a from rx)
    obtain ⟨_, _, xs, _, o, es, ep, h1, h2, _⟩ := (show ObjOk X.prog X.w H s.heap a (.dT kvs) from I.hok a _ ea)
    exact PySem.W.kia_one PySem.W.kitx_dict I.kIn ⟨o, h1, h2.1⟩ e (fun z => nomatch z) h
  | @ins a C dx fs ea cl ha hn htk hm =>
    cases (show u = Value.ref a from rx)
    obtain ⟨mA, O, _⟩ := ins_get I.hok ea
    obtain ⟨od, J, _⟩ := O.look
    exact PySem.W.kia_one (PySem.W.kitx_own (cl.get _) cl.hd ha hn htk hm) I.kIn J e (fun z => nomatch z) h
end
end L2
namespace L2
open PySem PySem.Spec PyProof.Rows
structure Room (k : Nat) (A : Around) : Prop where
  hd : A.handled = none
  dp : A.depth + 3 * k + 5 < recursionLimit
  un : A.units + 16 * k + 200 < cLine
theorem Room.mono {j k : Nat} {A : Around} (r : Room k A) (h : j ≤ k) : Room j A := ⟨r.hd, by have := r.dp; omega, by have := r.un; omega⟩
theorem Room.deeper {k : Nat} {A : Around} (r : Room (k + 1) A) (env : Env) : Room k (A.deeper env) :=
  ⟨r.hd, by have := r.dp; show A.depth + 1 + 3 * k + 5 < _; omega, by have := r.un; show A.units + 3 + 16 * k + 200 < _; omega⟩
theorem Room.depth {k : Nat} {A : Around} (r : Room k A) : A.depth < recursionLimit := by have := r.dp; omega
theorem Room.units {k : Nat} {A : Around} (r : Room k A) : A.units + 64 < cLine := by have := r.un; omega
noncomputable def tNil : TA := fun _ H Q => Q [] H
noncomputable def tCons (ta : TE) (tr : TA) : TA := fun σ H Q => ta σ H fun x H1 => tr σ H1 fun xs H2 => Q (x :: xs) H2
section
variable {X : Cx} {e : Expr} {es : List Expr} {te : TE} {t : TA} {pos : Pos}
theorem pa_nil : PA X [] tNil := fun _ _ _ _ H Q I h => Calls.spliced_nil ⟨[], H, I, .nil, h⟩
theorem pa_cons (ha : PE X e te) (hr : PA X es t) (hs : starEach (e :: es) X.env = (false, eval e X.env) :: starEach es X.env := by rfl) : PA X (e :: es) (tCons te t) := by
  intro pos pins s σ H Q I h
  rw [hs]
  show wpAny _ _ (spliced ((false, eval e X.env) :: backTo pos (starEach es X.env))) _ _ s
  refine Calls.spliced_cons (thn (ha pins s σ H _ I h) fun u s1 zr1686 => ?_)
  obtain ⟨x, H1, I1, r1, q1⟩ := zr1686
  exact thn (hr pos pins s1 σ H1 _ I1 q1) fun us s2 zq4 => by obtain ⟨xs, H2, I2, r2, q2⟩ := zq4; exact (⟨x :: xs, H2, I2, .cons r1 r2, q2⟩)
noncomputable def tTup (t : TA) : TE := fun σ H Q => t σ H fun xs H1 => xs.length ≤ sizeLine ∧ ∀ p, H1 p = none → Q (.ref p) (upd H1 p (.tup xs))
noncomputable def tLst (t : TA) : TE := fun σ H Q => t σ H fun xs H1 => xs.length ≤ sizeLine ∧ ∀ p, H1 p = none → Q (.ref p) (upd H1 p (.lst xs))
theorem pe_tup {x1} (h : PA X es t) : PE X (.Tuple es x1 pos) (tTup t) := by
  intro pins s σ H Q I hq
  refine wpAny_Tuple_spliced (thn (h pos pins s σ H _ I hq) fun us s1 ⟨xs, H1, I1, r, z, q⟩ => ⟨by rw [← r.length]; exact z, ?_⟩)
  have hf : H1 s1.heap.objs.size = none := I1.hok.fresh (Nat.le_refl _)
  refine ⟨.ref s1.heap.objs.size, upd H1 s1.heap.objs.size (.tup xs), I1.laid (t' := s1.toks) (fun b u e => Heap.get?_push_of_some _ e) (Nat.le_refl _) ?_, rfl, q _ hf⟩
  exact ⟨z, us, r, ⟨_, Heap.get?_push_size _ rfl, rfl, _, rfl⟩⟩
theorem pe_lst (h : PA X es t) : PE X (.List es pos) (tLst t) := by
  intro pins s σ H Q I hq
  refine wpAny_List_spliced (thn (h pos pins s σ H _ I hq) fun us s1 ⟨xs, H1, I1, r, z, q⟩ => ⟨by rw [← r.length]; exact z, ?_⟩)
  have hf : H1 s1.heap.objs.size = none := I1.hok.fresh (Nat.le_refl _)
  refine ⟨.ref s1.heap.objs.size, upd H1 s1.heap.objs.size (.lst xs), I1.laid (t' := s1.toks) (fun b u e => Heap.get?_push_of_some _ e) (Nat.le_refl _) ?_, rfl, q _ hf⟩
  exact ⟨z, us, 0, r, Heap.get?_push_size _ rfl⟩
end
noncomputable abbrev Sp := List V → Hp → VK → XK → Prop
noncomputable abbrev CXT := List Env → Hp → Shared → XK → Value → Shared → Prop
structure Env0 (P : Program) (w : World) (K : PySem.W.Frag) (mg : Str → Option Value) (base : Heap) (A : Around) (outer : List Env) (s : Shared) (H : Hp) : Prop where
  frames : A.frames = some outer
  mod : Mod K mg base
  bs : ∀ b o, base.get? b = some o → s.heap.get? b = some o ∧ H b = none
  bsz : base.objs.size ≤ s.heap.objs.size
  funs : s.heap.FunFrames base outer
  frf : ∀ b ∈ frs outer, H b = none
  hok : HOk P w H s.heap
  bare : AllBare s.gens
noncomputable def CE (outer : List Env) (P : Program) (w : World) (H : Hp) (s : Shared) (Q : VK) (u : Value) (s' : Shared) : Prop :=
  ∃ v H', s'.os = s.os ∧ AllBare s'.gens ∧ Un (frs outer) [] H H' s.heap s'.heap ∧ HOk P w H' s'.heap ∧ RelV v u ∧ Q v H'
noncomputable def CR (CX : CXT) (outer : List Env) (P : Program) (w : World) (H : Hp) (s : Shared) (Q : VK) (E : XK) (r : Result) (s' : Shared) : Prop :=
  match r with
  | .ok (.ret u) => CE outer P w H s Q u s'
  | .ok _ => False
  | .error e => CX outer H s E e s'
structure FnOk (P : Program) (w : World) (K : PySem.W.Frag) (mg : Str → Option Value) (base : Heap) (CX : CXT) (k : Nat) (f : Addr) (fd : FuncData) (ps : List Str) (sp : Sp) : Prop where
  len : ∀ vs H Q E, sp vs H Q E → vs.length = ps.length
  run : ∀ (A : Around) (outer : List Env) (s : Shared) (H : Hp) (args : Args) (us : List Value) (vs : List V) (Q : VK) (E : XK), Room k A → Env0 P w K mg base A outer s H → BindsTo s fd args (ps.zip us) → Vals vs us → sp vs H Q E →
    codeAny (model P w) A (.call (.ref f) args) (CR CX outer P w H s Q E) s
theorem FnOk.mono {P : Program} {w : World} {K : PySem.W.Frag} {mg : Str → Option Value} {base : Heap} {CX : CXT} {j k : Nat} {f : Addr} {fd : FuncData} {ps : List Str} {sp : Sp} (F : FnOk P w K mg base CX j f fd ps sp) (h : j ≤ k) :
    FnOk P w K mg base CX k f fd ps sp := ⟨F.len, fun A outer s H args us vs Q E hr => F.run A outer s H args us vs Q E (hr.mono h)⟩
theorem FnOk.imp {P : Program} {w : World} {K : PySem.W.Frag} {mg : Str → Option Value} {base : Heap} {CX : CXT} {k : Nat} {f : Addr} {fd : FuncData} {ps : List Str} {sp sp' : Sp} (F : FnOk P w K mg base CX k f fd ps sp)
    (h : ∀ vs H Q E, sp' vs H Q E → sp vs H Q E) : FnOk P w K mg base CX k f fd ps sp' :=
  ⟨fun vs H Q E q => F.len vs H Q E (h _ _ _ _ q), fun A outer s H args us vs Q E hr he hb hv hs => F.run A outer s H args us vs Q E hr he hb hv (h _ _ _ _ hs)⟩
section
variable {X : Cx} {pins : List (Addr × Obj)} {σ : St} {H : Hp} {s s' : Shared}
theorem Inv.env0 (I : Inv X pins σ H s) : Env0 X.prog X.w X.K X.mg X.base X.A X.stack s H :=
  ⟨I.ok.frames, I.ok.mod, I.bs, Nat.le_trans I.ok.bsz I.sz, I.stack, I.stkFree, I.hok, I.bare⟩
theorem Inv.after {Q : VK} {u : Value} (I : Inv X pins σ H s) (h : CE X.stack X.prog X.w H s Q u s') : EP X pins σ Q u s' := by
  obtain ⟨v, H', os, bare, un, hok, r, q⟩ := h
  obtain ⟨hh, g, d, t, os'⟩ := s'
  obtain rfl : os' = s.os := os
  exact ⟨v, H', I.call (h' := hh) (g' := g) (d' := d) (t' := t) (ch := []) un hok bare (fun b z => absurd z (by simp)), r, q⟩
end
noncomputable def tCall (sp : Sp) (dvs : List V) (E : XK) (t : TA) : TE := fun σ H Q => t σ H fun vs H1 => sp (vs ++ dvs) H1 Q E
noncomputable def Binds (K : PySem.W.Frag) (fd : FuncData) (ps : List Str) (ds : List Value) : Prop :=
  ∀ (s : Shared) (us : List Value), K.In s.heap → (us ++ ds).length = ps.length → BindsTo s fd ⟨us, []⟩ (ps.zip (us ++ ds))
theorem Binds.all {K : PySem.W.Frag} {fd : FuncData} {ps : List Str} (h : ∀ us : List Value, us.length = ps.length → bindArgs fd ⟨us, []⟩ = pure (ps.zip us)) : Binds K fd ps [] := fun s us _ hl => by
  rw [List.append_nil] at hl ⊢
  exact .of_eq (h us hl)
noncomputable def Passes (CX : CXT) (X : Cx) (E : XK) : Prop := ∀ (pins : List (Addr × Obj)) (σ : St) (H : Hp) (s : Shared) (e : Value) (s' : Shared), Inv X pins σ H s → CX X.stack H s E e s' → X.xe e s'
section
variable {X : Cx} {CX : CXT} {k : Nat} {f C : Addr} {fd : FuncData} {ps : List Str} {sp : Sp} {dvs : List V} {ds : List Value} {E : XK} {x m : Str} {p pos apos : Pos} {e o : Expr} {es : List Expr} {ta : TE} {t : TA}
theorem run_fn {pins : List (Addr × Obj)} {σ : St} {H : Hp} {s : Shared} {Q : VK} {us : List Value} {vs : List V} (F : FnOk X.prog X.w X.K X.mg X.base CX k f fd ps sp) (hr : Room k X.A) (hb : Binds X.K fd ps ds) (hd : Vals dvs ds) (hx : Passes CX X E)
    (I : Inv X pins σ H s) (r : Vals vs us) (h : sp (vs ++ dvs) H Q E) : wpAny (model X.prog X.w) X.A (call (.ref f) us) (EP X pins σ Q) X.xe s := by
  have r2 : Vals (vs ++ dvs) (us ++ ds) := r.append hd
  have hl : (us ++ ds).length = ps.length := by rw [← r2.length]; exact F.len _ _ _ _ h
  refine wpAny_call (codeAny_mono (F.run X.A X.stack s H ⟨us, []⟩ (us ++ ds) (vs ++ dvs) Q E hr I.env0 (hb s us I.kIn hl) r2 h) fun r s' hq => ?_)
  cases r with
  | error e => exact hx pins σ H s e s' I hq
  | ok fl =>
    cases fl with
    | ret u => exact I.after hq
    | next => exact False.elim hq
    | brk => exact False.elim hq
    | cont => exact False.elim hq
theorem pe_call (F : FnOk X.prog X.w X.K X.mg X.base CX k f fd ps sp) (hr : Room k X.A) (hg : Gl X x) (hm : X.mg x = some (.ref f)) (hk : PySem.W.keepIn X.K (.ref f) = true) (hb : Binds X.K fd ps ds) (hd : Vals dvs ds) (hx : Passes CX X E)
    (ha : PA X (e :: es) t) (hdb : (x == ("__debug__" : Str)) = false := by decide) (he : starEach (e :: es) X.env = (false, eval e X.env) :: starEach es X.env := by rfl) (hpl : (backTo pos (starEach es X.env)).any (·.1) = false := by rfl) :
    PE X (.Call (.Name x p) (e :: es) [] pos) (tCall sp dvs E t) := by
  intro pins s σ H Q I h
  refine wpAny_Call_Name_kw (ld_glob I hg hm ?_ hdb)
  refine PySem.W.callWith_K (h₀ := X.base) I.ok.mod.kin hk (thn (ha pos pins s σ H _ I h) fun us s1 ⟨vs, H1, I1, r, q⟩ => ⟨I1.kIn, ?_⟩) he hpl
  exact run_fn F hr hb hd hx I1 r q
end
structure FnScope (N P : List Str) (sc : Scope) : Prop where
  kind : sc.kind = .function
  co : sc.isCoroutine = false
  gen : sc.isGenerator = false
  nd : N.Nodup
  pre : N.take P.length = P
  par : ∀ x ∈ P, sc.names.lookup x = some .local ∨ sc.names.lookup x = some .cell
  nofree : ∀ y ∈ sc.names, y.2 ≠ .free
theorem bindL_out {kindOf : Str → Option NameKind} {x : Str} : ∀ {binds : List (Str × Value)} {m : Str → Option Value}, (∀ v, (x, v) ∉ binds) → bindL kindOf binds m x = m x
  | [], _, _ => rfl
  | (n, v) :: r, m, h => by
    unfold bindL
    rw [bindL_out fun w hw => h w (List.mem_cons_of_mem _ hw)]
    split
    · have : x ≠ n := by rintro rfl; exact h v List.mem_cons_self
      simp [this]
    · rfl
theorem bindC_out {kindOf : Str → Option NameKind} {x : Str} : ∀ {binds : List (Str × Value)} {m : Str → Option Value}, (∀ v, (x, v) ∉ binds) → bindC kindOf binds m x = m x
  | [], _, _ => rfl
  | (n, v) :: r, m, h => by
    unfold bindC
    rw [bindC_out fun w hw => h w (List.mem_cons_of_mem _ hw)]
    split
    · rfl
    · have : x ≠ n := by rintro rfl; exact h v List.mem_cons_self
      simp [this]
theorem bindL_get {kindOf : Str → Option NameKind} {x : Str} {v : Value} : ∀ {P : List Str} {vs : List Value} {i : Nat} {m : Str → Option Value}, P.Nodup → P[i]? = some x → vs[i]? = some v → kindOf x = some .local →
    bindL kindOf (P.zip vs) m x = some v
  | [], _, _, _, _, h, _, _ => by simp at h
  | _ :: _, [], _, _, _, _, h, _ => by simp at h
  | p :: P, w :: vs, 0, m, nd, h1, h2, hk => by
    simp at h1 h2; subst h1; subst h2
    show bindL kindOf ((p, w) :: P.zip vs) m p = _
    unfold bindL
    rw [bindL_out fun v hv => (List.nodup_cons.mp nd).1 (List.of_mem_zip hv).1, if_pos hk]
    simp
  | p :: P, w :: vs, i + 1, m, nd, h1, h2, hk => by
    show bindL kindOf ((p, w) :: P.zip vs) m x = _
    unfold bindL
    exact bindL_get (i := i) (List.nodup_cons.mp nd).2 (by simpa using h1) (by simpa using h2) hk
theorem bindC_get {kindOf : Str → Option NameKind} {x : Str} {v : Value} : ∀ {P : List Str} {vs : List Value} {i : Nat} {m : Str → Option Value}, P.Nodup → P[i]? = some x → vs[i]? = some v → kindOf x ≠ some .local →
    bindC kindOf (P.zip vs) m x = some v
  | [], _, _, _, _, h, _, _ => by simp at h
  | _ :: _, [], _, _, _, _, h, _ => by simp at h
  | p :: P, w :: vs, 0, m, nd, h1, h2, hk => by
    simp at h1 h2; subst h1; subst h2
    show bindC kindOf ((p, w) :: P.zip vs) m p = _
    unfold bindC
    rw [bindC_out fun v hv => (List.nodup_cons.mp nd).1 (List.of_mem_zip hv).1, if_neg hk]
    simp
  | p :: P, w :: vs, i + 1, m, nd, h1, h2, hk => by
    show bindC kindOf ((p, w) :: P.zip vs) m x = _
    unfold bindC
    exact bindC_get (i := i) (List.nodup_cons.mp nd).2 (by simpa using h1) (by simpa using h2) hk
noncomputable def start (N : List Str) (vs : List V) : St := vs.map some ++ List.replicate (N.length - vs.length) none
noncomputable def cxOf (CX : CXT) (P : Program) (w : World) (K : PySem.W.Frag) (mg : Str → Option Value) (base : Heap) (N : List Str) (qual : Str) (scope : Scope) (f : Addr) (cd : Value) (A : Around) (outer : List Env) (s : Shared) (H : Hp) (E : XK) : Cx where
  prog := P
  w := w
  K := K
  mg := mg
  base := base
  A := A.deeper (envOfC qual scope s.heap.objs.size f cd)
  N := N
  s₀ := s
  H₀ := H
  env := envOfC qual scope s.heap.objs.size f cd
  outer := outer
  stack := envOfC qual scope s.heap.objs.size f cd :: outer
  ex := []
  calm := true
  fn := fun _ => true
  pn := []
  xe := fun e s' => wpAny (model P w) (A.deeper (envOfC qual scope s.heap.objs.size f cd)) (leaving (envOfC qual scope s.heap.objs.size f cd) e) (fun _ s'' => CX outer H s E e s'') (fun e' s'' => CX outer H s E e' s'') s'
theorem cell_has {sc : Scope} {n : Nat} {x : Str} (h : sc.names.lookup x = some .cell) : ∃ c, (cellsFrom n sc.names []).lookup x = some c := by
  have q := PySem.W.cellsFrom_some sc.names n [] (.inl h)
  exact Option.isSome_iff_exists.mp q
theorem inv_start {CX : CXT} {P : Program} {w : World} {K : PySem.W.Frag} {mg : Str → Option Value} {base : Heap} {N ps : List Str} {qual : Str} {scope : Scope} {f : Addr} {cd : Value} {A : Around} {outer : List Env} {s s1 : Shared} {H : Hp} {E : XK} {us : List Value} {vs : List V}
    (S : FnScope N ps scope) (hd : A.handled = none) (e0 : Env0 P w K mg base A outer s H) (hl : vs.length = ps.length) (r : Vals vs us)
    (x : InCallC s s.heap.objs.size (bindL (envOfC qual scope s.heap.objs.size f cd).kindOf (ps.zip us) fun _ => none) (cellsFrom (s.heap.objs.size + 1) scope.names []) (bindC (envOfC qual scope s.heap.objs.size f cd).kindOf (ps.zip us) fun _ => none) s1) :
    Inv (cxOf CX P w K mg base N qual scope f cd A outer s H E) [] (start N vs) H s1 := by
  have hpl : ps.length ≤ N.length := by have := congrArg List.length S.pre; rw [List.length_take] at this; omega
  obtain ⟨h1, tk, rfl, hk⟩ := x.done
  have noA : ∀ b : Addr, b ∉ (cxOf CX P w K mg base N qual scope f cd A outer s H E).ex := fun b z => absurd (show b ∈ ([] : List Addr) from z) (by simp)
  refine ⟨⟨e0.mod, S.kind, rfl, rfl, Nat.le_refl _, fun y z c h1 h2 => ?_, fun y hy => ?_, fun y c _ h => ?_, fun _ => hd, Around.frames_deeper e0.frames, .inr ⟨rfl, rfl⟩, fun b z => absurd z (noA b), e0.bs, e0.bsz, fun b _ _ => noA b, fun b z => absurd z (noA b), e0.funs, e0.frf⟩,
    rfl, e0.bare, Un.kept hk, ⟨_, x.toInCall.ns, fun i y v h1 h2 h3 => ?_⟩, fun y c h => ⟨_, x.cell y c h⟩, e0.hok.fresh (Nat.le_refl _), fun y c h => ?_, fun p hp => absurd (show p ∈ ([] : List (Addr × Obj)) from hp) (by simp), e0.hok.kept hk, ?_⟩
  · exact name_of_addr x.apart (PySem.mem_of_lookup h1) (PySem.mem_of_lookup h2)
  · have hy : scope.names.lookup y = some .cell ∨ scope.names.lookup y = some .free := hy
    rcases hy with hy | hy
    · exact cell_has hy
    · exact absurd rfl (S.nofree _ (PySem.mem_of_lookup hy))
  · exact Nat.le_of_lt (x.above y c (PySem.mem_of_lookup h))
  · have hi : i < vs.length := by
      unfold start at h2
      by_cases hi : i < vs.length
      · exact hi
      · rw [List.getElem?_append_right (by simpa using hi)] at h2
        rw [List.getElem?_replicate] at h2
        split at h2 <;> cases h2
    have ha : vs[i]? = some v := by
      unfold start at h2
      rw [List.getElem?_append_left (by simpa using hi), List.getElem?_map] at h2
      cases e : vs[i]? with
      | none => rw [e] at h2; cases h2
      | some a => rw [e] at h2; cases h2; rfl
    obtain ⟨u, hu, rv⟩ := r.get ha
    have hp : ps[i]? = some y := by
      rw [← S.pre, List.getElem?_take_of_lt (by omega)]; exact h1
    have ndP : ps.Nodup := by rw [← S.pre]; exact S.nd.sublist (List.take_sublist _ _)
    refine ⟨u, rv, ?_⟩
    rcases S.par y (List.mem_of_getElem? hp) with k | k
    · exact .inl ⟨k, bindL_get ndP hp hu k⟩
    · obtain ⟨c, e⟩ := cell_has (n := s.heap.objs.size + 1) k
      refine .inr ⟨.inl k, c, e, ?_⟩
      have q := x.cell y c e
      rw [bindC_get ndP hp hu (by show scope.names.lookup y ≠ _; rw [k]; decide)] at q
      exact q
  · exact e0.hok.fresh (Nat.le_of_lt (x.above y c (PySem.mem_of_lookup h)))
  · unfold start
    show _ = N.length
    rw [List.length_append, List.length_map, List.length_replicate]
    omega
theorem fn_of {CX : CXT} {P : Program} {w : World} {K : PySem.W.Frag} {mg : Str → Option Value} {base : Heap} {k : Nat} {f : Addr} {name qual : Str} {params : Arguments} {body : List Stmt} {scope : Scope} {dV kV doc pm cdv ct oc : Value} {an od : Option Addr}
    {osl : Array (Option Value)} {N ps : List Str} {sp : Sp} (lk : K.lookup f = some ⟨oc, od, .func (PySem.W.fnOf name qual params body scope dV kV doc pm an cdv ct), osl⟩) (hcd : PySem.W.codeIn K cdv qual = true) (S : FnScope N ps scope)
    (len : ∀ vs H Q E, sp vs H Q E → vs.length = ps.length)
    (hbody : ∀ (A : Around) (outer : List Env) (s : Shared) (H : Hp) (vs : List V) (Q : VK) (E : XK), Room k (A.deeper (envOfC qual scope s.heap.objs.size f cdv)) → sp vs H Q E →
      ∃ t, PSs (cxOf CX P w K mg base N qual scope f cdv A outer s H E) body t ∧ t { nx := fun _ H' => Q .non H', rt := Q } (start N vs) H) :
    FnOk P w K mg base CX (k + 1) f (PySem.W.fnOf name qual params body scope dV kV doc pm an cdv ct) ps sp := by
  refine ⟨len, fun A outer s H args us vs Q E hr e0 hb r hsp => ?_⟩
  have hl := len _ _ _ _ hsp
  have KX : K.In s.heap := e0.mod.kin.keeps fun b o e => (e0.bs b o e).1
  have lim : s.heap.NoLimit := e0.mod.nolimit.keeps fun b o e => (e0.bs b o e).1
  have hkind : ∀ y ∈ ps.zip us, scope.names.lookup y.1 = some .local ∨ (scope.names.lookup y.1 = some .cell ∧ ((cellsFrom (s.heap.objs.size + 1) scope.names []).lookup y.1).isSome = true) := fun ⟨n, v⟩ hy => by
    rcases S.par n (List.of_mem_zip hy).1 with q | q
    · exact .inl q
    · exact .inr ⟨q, PySem.W.cellsFrom_some _ _ _ (.inl q)⟩
  refine codeAny_call_function hr.depth (KX _ _ lk) rfl S.co S.gen rfl (PySem.W.codeRec_of KX hcd) (hb _ _ _ _ ?_)
  refine wpAny_newFunctionEnv_cells S.kind hkind fun env he s1 x => ?_
  subst he
  refine ⟨lim.keeps x.toInCall.keep, codeAny_func ?_⟩
  obtain ⟨t, ht, hq⟩ := hbody A outer s H vs Q E (hr.deeper _) hsp
  have I : Inv (cxOf CX P w K mg base N qual scope f cdv A outer s H E) [] (start N vs) H s1 := inv_start S hr.hd e0 hl r x
  refine wpAny_mono (ht [] s1 (start N vs) H _ I hq) (fun fl s' hs => ?_) fun e s' hs => hs
  have fin : ∀ {σ' : St} {H' : Hp} {v : V} {u : Value}, Inv (cxOf CX P w K mg base N qual scope f cdv A outer s H E) [] σ' H' s' → RelV v u → Q v H' → CE outer P w H s Q u s' :=
    fun {σ' H' v u} J rv q => ⟨v, H', J.os, J.bare, J.base, J.hok, rv, q⟩
  cases fl with
  | ret u =>
    obtain ⟨v, σ', H', J, rv, q⟩ := hs
    exact fin J rv q
  | next =>
    obtain ⟨σ', H', J, q⟩ := hs
    exact fin (v := V.non) (u := Value.none) J rfl q
  | brk =>
    obtain ⟨_, _, _, q⟩ := hs
    exact False.elim q
  | cont =>
    obtain ⟨_, _, _, q⟩ := hs
    exact False.elim q
end L2
namespace L2
open PySem PySem.Spec PyProof.Rows
section
variable {X : Cx} {x : Str} {p pos : Pos} {e : Expr} {es : List Expr} {t : TA} {id T : String} {r : List V → Hp → VK → Prop}
noncomputable def tCB (r : List V → Hp → VK → Prop) (t : TA) : TE := fun σ H Q => t σ H fun vs H1 => r vs H1 Q
theorem pe_callB (hc : CallR X (.builtin id) r) (hg : Gl X x) (hm : X.mg x = none) (hv : bootBuiltins x = some (.builtin id)) (ha : PA X (e :: es) t) (hn : x ≠ "__name__" := by decide) (hdb : (x == ("__debug__" : Str)) = false := by decide)
    (he : starEach (e :: es) X.env = (false, eval e X.env) :: starEach es X.env := by rfl) (hpl : (backTo pos (starEach es X.env)).any (·.1) = false := by rfl) : PE X (.Call (.Name x p) (e :: es) [] pos) (tCB r t) := by
  intro pins s σ H Q I h
  refine wpAny_Call_Name_kw (ld_blt I hg hm hv ?_ hn hdb)
  exact PyProof.Rows.callWith_builtin1 (thn (ha pos pins s σ H _ I h) fun us s1 zq5 => by obtain ⟨vs, H1, I1, r1, q1⟩ := zq5; exact (hc pins s1 σ H1 vs us Q I1 r1 q1)) he hpl
theorem pe_callTy (hc : CallR X (.type T) r) (hg : Gl X x) (hm : X.mg x = none) (hv : bootBuiltins x = some (.type T)) (ha : PA X (e :: es) t) (hn : x ≠ "__name__" := by decide) (hdb : (x == ("__debug__" : Str)) = false := by decide)
    (he : starEach (e :: es) X.env = (false, eval e X.env) :: starEach es X.env := by rfl) (hpl : (backTo pos (starEach es X.env)).any (·.1) = false := by rfl) : PE X (.Call (.Name x p) (e :: es) [] pos) (tCB r t) := by
  intro pins s σ H Q I h
  refine wpAny_Call_Name_kw (ld_blt I hg hm hv ?_ hn hdb)
  exact PyProof.Rows.callWith_type1 (thn (ha pos pins s σ H _ I h) fun us s1 zq6 => by obtain ⟨vs, H1, I1, r1, q1⟩ := zq6; exact (hc pins s1 σ H1 vs us Q I1 r1 q1)) he hpl
end
end L2
namespace HT
open PySem PyProof.Rows
section
variable {prog : Program} {w : World} {A : Around} {E : Value → Shared → Prop} {s : Shared}
theorem cat_tup {t b : Addr} {vs ws : List Value} {Q : Value → Shared → Prop} (ht : IsTup s.heap t vs.toArray) (hb : IsTup s.heap b ws.toArray) (hv : vs ≠ [])
    (h1 : ws = [] → Q (.ref t) s) (h2 : ws ≠ [] → Q (.ref s.heap.objs.size) { s with heap := s.heap.push { cls := .type "tuple", data := .seq (vs ++ ws).toArray } })
    (hsz : vs.length + ws.length ≤ sizeLine) : wpAny (model prog w) A (binaryOp .Add (.ref t) (.ref b)) Q E s := by
  obtain ⟨⟨cls, dd, data, sl⟩, ho, hc, n, hd⟩ := id ht
  obtain ⟨⟨cls2, dd2, data2, sl2⟩, ho2, hc2, n2, hd2⟩ := id hb
  simp only at hc hd hc2 hd2
  subst hc hd hc2 hd2
  have e : vs.toArray ++ ws.toArray = (vs ++ ws).toArray := by simp
  by_cases hw : ws = []
  · exact concat_meets ⟨_, ho, rfl⟩ ⟨_, ho2, rfl⟩ noFill_tuple_add seq_tuple_add PySem.F.slot_tuple_add PySem.F.entry_tuple_add (PySem.F.args_tuple_add_2 _ _)
      (tuple_addW1 t b vs.toArray ws.toArray n n2 dd dd2 sl sl2 (by simpa using hv) (by simp [hw])) ⟨ho, ho2, h1 hw⟩
  · refine concat_meets ⟨_, ho, rfl⟩ ⟨_, ho2, rfl⟩ noFill_tuple_add seq_tuple_add PySem.F.slot_tuple_add PySem.F.entry_tuple_add (PySem.F.args_tuple_add_2 _ _)
      (tuple_addW2 t b vs.toArray ws.toArray n n2 dd dd2 sl sl2 (by simpa using hv) (by simpa using hw) (by rw [List.size_toArray, List.size_toArray]; exact hsz)) ⟨ho, ho2, ?_⟩
    rw [e]
    exact h2 hw
noncomputable def sIx (n d : Nat) : Option Int → Nat
  | none => d
  | some v => if v < 0 then (v + (n : Int)).toNat else min v.toNat n
theorem sIx_none (n d : Nat) : sIx n d none = d := rfl
theorem sIx_nat (n d k : Nat) : sIx n d (some (k : Int)) = min k n := by
  show (if (k : Int) < 0 then ((k : Int) + (n : Int)).toNat else min (k : Int).toNat n) = min k n
  rw [if_neg (by omega), Int.toNat_natCast]
theorem sIx_le (n d : Nat) (hd : d ≤ n) (o : Option Int) : sIx n d o ≤ n := by
  cases o with
  | none => exact hd
  | some v =>
    show (if v < 0 then (v + (n : Int)).toNat else min v.toNat n) ≤ n
    by_cases hv : v < 0
    · rw [if_pos hv]; omega
    · rw [if_neg hv]; exact Nat.min_le_right _ _
theorem clip_eq (v : Int) (n d : Nat) : (if v < 0 then max (v + (n : Int)) 0 else min v (n : Int)) = ((sIx n d (some v) : Nat) : Int) := by
  show (if v < 0 then max (v + (n : Int)) 0 else min v (n : Int)) = (((if v < 0 then (v + (n : Int)).toNat else min v.toNat n) : Nat) : Int)
  by_cases hv : v < 0
  · simp only [if_pos hv]; omega
  · simp only [if_neg hv]; omega
theorem adjust_gen (lo hi : Option Int) (n : Nat) : Builtin.Slice.sliceAdjust lo hi 1 (n : Int) = (((sIx n 0 lo : Nat) : Int), ((sIx n n hi : Nat) : Int)) := by
  have h1 : ¬ ((1 : Int) < 0) := by omega
  unfold Builtin.Slice.sliceAdjust
  simp only [h1, if_false]
  refine Prod.ext ?_ ?_
  · cases lo with
    | none => rfl
    | some v => exact clip_eq v n 0
  · cases hi with
    | none => rfl
    | some v => exact clip_eq v n n
theorem places_gen (i j : Nat) : Builtin.Slice.slicePlaces (i : Int) (j : Int) 1 = j - i := by
  unfold Builtin.Slice.slicePlaces
  have h1 : (1 : Int) > 0 := by omega
  simp only [h1, if_true, Int.ediv_one]
  split <;> omega
theorem slicePart_ {v : Value} {o : Option Int} {Q : Option Int → Shared → Prop} (p : IsPart v o) (h : Q o s) : wpAny (model prog w) A (Builtin.Slice.slicePartIndex v) Q E s := by
  cases p with
  | none => exact slicePart_none h
  | int i t => exact slicePart_int h
theorem sliceApplied_gen {sl : Addr} {vl vu : Value} {lo hi : Option Int} {n : Nat} {Q : Int × Int × Nat → Shared → Prop} (hs : s.heap.IsSliceOf sl vl vu .none) (pl : IsPart vl lo) (pu : IsPart vu hi)
    (h : Q (((sIx n 0 lo : Nat) : Int), 1, sIx n n hi - sIx n 0 lo) s) : wpAny (model prog w) A (Builtin.Slice.sliceApplied (.ref sl) (pure (n : Int))) Q E s := by
  obtain ⟨os, hos, hcs, hds⟩ := id hs
  unfold Builtin.Slice.sliceApplied Builtin.Slice.sliceFields
  refine wpAny_bind (wpAny_bind (wpAny_field hos hds (x := vl) rfl (wpAny_bind (wpAny_field hos hds (x := vu) rfl (wpAny_bind (wpAny_field hos hds (x := .none) rfl (wpAny_pure ?_)))))))
  refine wpAny_bind (slicePart_none ?_)
  show wpAny _ _ (if ((1 : Int) == 0) = true then _ else _) _ _ s
  rw [if_neg (by decide)]
  refine wpAny_bind (slicePart_ pl (wpAny_bind (slicePart_ pu (wpAny_bind (wpAny_pure ?_)))))
  show wpAny _ _ (match Builtin.Slice.sliceAdjust lo hi 1 (n : Int) with | (lo, hi) => pure (lo, (1 : Int), Builtin.Slice.slicePlaces lo hi 1)) _ _ s
  rw [adjust_gen lo hi n]
  show wpAny _ _ (pure (((sIx n 0 lo : Nat) : Int), (1 : Int), Builtin.Slice.slicePlaces ((sIx n 0 lo : Nat) : Int) ((sIx n n hi : Nat) : Int) 1)) _ _ s
  rw [places_gen]
  exact wpAny_pure h
theorem pick_gen (xs : Array Value) (i k : Nat) : ((List.range k).filterMap fun (m : Nat) => xs[((i : Int) + (m : Int) * 1).toNat]?).toArray = ((xs.toList.drop i).take k).toArray := by
  have e : (fun (m : Nat) => xs[((i : Int) + (m : Int) * 1).toNat]?) = fun m => xs[i + m]? := by
    funext m
    have : ((i : Int) + (m : Int) * 1).toNat = i + m := by omega
    rw [this]
  rw [e]
  have := pick_run xs i k
  rw [List.filterMap_map] at this
  have e2 : ((fun x => xs[x]?) ∘ fun x => i + x) = fun m => xs[i + m]? := rfl
  rw [e2] at this
  rw [this]
theorem getItem_tuple_cut {t sl : Addr} {items : Array Value} {vl vu : Value} {lo hi : Option Int} {Q : Value → Shared → Prop} (ht : IsTup s.heap t items) (hs : s.heap.IsSliceOf sl vl vu .none) (pl : IsPart vl lo) (pu : IsPart vu hi)
    (hw : ¬ (sIx items.size 0 lo = 0 ∧ sIx items.size items.size hi = items.size))
    (h : Q (.ref s.heap.objs.size) { s with heap := s.heap.push { cls := .type "tuple", data := .seq ((items.toList.drop (sIx items.size 0 lo)).take (sIx items.size items.size hi - sIx items.size 0 lo)).toArray } })
    (hsz : items.size ≤ sizeLine) : wpAny (model prog w) A (getItem (.ref t) (.ref sl)) Q E s := by
  have htake : sizeOk (.seq ((items.toList.drop (sIx items.size 0 lo)).take (sIx items.size items.size hi - sIx items.size 0 lo)).toArray) := by
    show ((items.toList.drop (sIx items.size 0 lo)).take (sIx items.size items.size hi - sIx items.size 0 lo)).toArray.size ≤ sizeLine
    rw [List.size_toArray, List.length_take, List.length_drop, Array.length_toList]
    omega
  have hj : sIx items.size items.size hi ≤ items.size := sIx_le _ _ (Nat.le_refl _) hi
  obtain ⟨os, hos, hcs, hds⟩ := id hs
  have hTs : s.TypeIs (.ref sl) "slice" := ⟨os, hos, hcs⟩
  unfold getItem
  try with_reducible refine wpAny_holding ?_
  first | refine wpAny_bind (wpAny_pure ?_) | skip
  refine wpAny_bind (wpAny_sequenceKey ht.typeIs (by decide) ?_)
  refine wpAny_bind (wpAny_callSpecial?_slot (name := Str.ofString "__getitem__") ht.typeIs PyProof.Rows.slot_tuple_getitem
    (wpAny_call_entry PyProof.Rows.slot_tuple_getitem ht.typeIs entry_tuple_getitem ?_ (args_tuple_getitem _ _)))
  show wpAny _ _ (Builtin.Tuple.tupleItemsOf (.ref t) >>= _) _ _ s
  refine wpAny_bind (tupleItemsOf_ ht ?_)
  refine wpAny_bind (wpAny_typeOf hTs ?_)
  rw [if_pos (by decide)]
  refine wpAny_bind (sliceApplied_gen hs pl pu ?_)
  have hno : ¬ ((((sIx items.size 0 lo : Nat) : Int) == 0 && (1 : Int) == 1 && (sIx items.size items.size hi - sIx items.size 0 lo) == items.size) = true) := by
    intro q
    rw [Bool.and_eq_true, Bool.and_eq_true] at q
    have q1 : ((sIx items.size 0 lo : Nat) : Int) = 0 := eq_of_beq q.1.1
    have q2 : sIx items.size items.size hi - sIx items.size 0 lo = items.size := eq_of_beq q.2
    exact hw ⟨by omega, by omega⟩
  show wpAny _ _ (if (((sIx items.size 0 lo : Nat) : Int) == 0 && (1 : Int) == 1 && (sIx items.size items.size hi - sIx items.size 0 lo) == items.size) = true then _ else _) _ _ s
  rw [if_neg hno, pick_gen]
  first
    | exact wpAny_bind (m := Builtin.Tuple.tupleExact _) (wpAny_newObj_type (wpAny_pure ⟨_, rfl, wpAny_pure h⟩) htake)
    | exact wpAny_bind (m := Builtin.Tuple.tupleExact _) (wpAny_newObj_type (wpAny_bind (wpAny_pure (wpAny_pure ⟨_, rfl, wpAny_pure h⟩))) htake)
    | exact wpAny_bind (wpAny_bind (m := Builtin.Tuple.tupleExact _) (wpAny_newObj_type (wpAny_pure (wpAny_pure ⟨_, rfl, wpAny_pure h⟩)) htake))
    | exact wpAny_bind (wpAny_bind (m := Builtin.Tuple.tupleExact _) (wpAny_newObj_type (wpAny_pure ⟨_, rfl, wpAny_pure h⟩) htake))
end
end HT
namespace L2
open PySem PySem.Spec PyProof.Rows
noncomputable abbrev TO := St → Hp → (Option Int → Hp → Prop) → Prop
noncomputable def PO (X : Cx) (e : Option Expr) (t : TO) : Prop :=
  ∀ (pins : List (Addr × Obj)) (s : Shared) (σ : St) (H : Hp) (Q : Option Int → Hp → Prop), Inv X pins σ H s → t σ H Q →
    wpAny (model X.prog X.w) X.A (evalPart e X.env) (fun u s' => ∃ o H', Inv X pins σ H' s' ∧ IsPart u o ∧ Q o H') X.xe s
noncomputable def tNoPart : TO := fun _ H Q => Q none H
noncomputable def tPart (t : TE) : TO := fun σ H Q => t σ H fun x H1 => ∃ i, x = .int i ∧ Q (some i) H1
section
variable {X : Cx} {e : Expr} {te : TE} {lo hi : Option Expr} {tl th : TO} {pos p2 : Pos}
theorem po_none : PO X none tNoPart := by
  intro pins s σ H Q I h
  rw [evalPart_none]
  exact wpAny_pure ⟨none, H, I, .none, h⟩
theorem po_some (h : PE X e te) : PO X (some e) (tPart te) := by
  intro pins s σ H Q I hw
  rw [evalPart_some]
  refine thn (h pins s σ H _ I hw) fun u s1 zr2083 => ?_
  obtain ⟨x, H1, I1, r1, q1⟩ := zr2083
  obtain ⟨i, rfl, q⟩ := q1
  obtain ⟨t, rfl⟩ := r1
  exact ⟨some i, H1, I1, .int i t, q⟩
noncomputable def SlR (X : Cx) (r : V → Option Int → Option Int → Hp → VK → Prop) : Prop :=
  ∀ (pins : List (Addr × Obj)) (s : Shared) (σ : St) (H : Hp) (x : V) (v vl vu : Value) (lo hi : Option Int) (sl : Addr) (Q : VK), Inv X pins σ H s → RelV x v → s.heap.IsSliceOf sl vl vu .none → IsPart vl lo → IsPart vu hi → r x lo hi H Q →
    ∃ T id, typeLookup (.type T) "__getitem__" = pure (some (.builtin id)) ∧ s.TypeIs v T ∧ wpAny (model X.prog X.w) X.A (getItem v (.ref sl)) (EP X pins σ Q) X.xe s
noncomputable def tSl (r : V → Option Int → Option Int → Hp → VK → Prop) (te : TE) (tl th : TO) : TE := fun σ H Q => te σ H fun x H1 => tl σ H1 fun l H2 => th σ H2 fun u H3 => r x l u H3 Q
theorem pe_slice {r : V → Option Int → Option Int → Hp → VK → Prop} (hr : SlR X r) (he : PE X e te) (hl : PO X lo tl) (hu : PO X hi th) : PE X (.Subscript e (.Slice lo hi none p2) pos) (tSl r te tl th) := by
  intro pins s σ H Q I h
  refine Subscript_ (thn (he pins s σ H _ I h) fun v s1 zr2093 => ?_)
  obtain ⟨x, H1, I1, r1, q1⟩ := zr2093
  refine wpAny_Slice (thn (hl pins s1 σ H1 _ I1 q1) fun vl s2 ⟨l, H2, I2, pl, q2⟩ => thn (hu pins s2 σ H2 _ I2 q2) fun vu s3 zr2094 => ?_)
  obtain ⟨u, H3, I3, pu, q3⟩ := zr2094
  rw [evalPart_none]
  refine wpAny_pure ?_
  have I4 : Inv X pins σ H3 { s3 with heap := s3.heap.push { cls := .type "slice", data := .fields #[vl, vu, .none] } } := I3.kept (t' := s3.toks) fun b ob q => Heap.get?_push_of_some _ q
  obtain ⟨T, id, hT, ht, hg⟩ := hr pins { s3 with heap := s3.heap.push { cls := .type "slice", data := .fields #[vl, vu, .none] } } σ H3 x v vl vu l u s3.heap.objs.size Q I4 r1 (Heap.IsSliceOf.new ..) pl pu q3
  show wpAny (model X.prog X.w) X.A (subscriptTail e (.Slice lo hi none p2) v (.ref s3.heap.objs.size)) (EP X pins σ Q) X.xe { s3 with heap := s3.heap.push { cls := .type "slice", data := .fields #[vl, vu, .none] } }
  exact tail_any (ops := [.ref s3.heap.objs.size, v]) ht hT hg (by with_unfolding_all rfl)
noncomputable def cutV (xs : List V) (lo hi : Option Int) : List V := (xs.drop (HT.sIx xs.length 0 lo)).take (HT.sIx xs.length xs.length hi - HT.sIx xs.length 0 lo)
theorem cutV_length (xs : List V) (lo hi : Option Int) : (cutV xs lo hi).length ≤ xs.length := by
  unfold cutV
  rw [List.length_take, List.length_drop]
  omega
noncomputable def rSlT (K : PySem.W.Frag) : V → Option Int → Option Int → Hp → VK → Prop := fun x lo hi H Q => ∃ a xs, x = .ref a ∧ SqT K H a xs ∧
  ¬ (HT.sIx xs.length 0 lo = 0 ∧ HT.sIx xs.length xs.length hi = xs.length) ∧ ∀ p, H p = none → Q (.ref p) (upd H p (.tup (cutV xs lo hi)))
theorem sl_tup : SlR X (rSlT X.K) := by
  intro pins s σ H x v vl vu lo hi sl Q I rx hs pl pu h
  obtain ⟨a, xs, rfl, hx, hw, q⟩ := h
  cases rx
  obtain ⟨its, r, ht, hz⟩ := I.tuple hx
  have hlen : its.toArray.size = xs.length := by rw [List.size_toArray]; exact r.length.symm
  refine ⟨"tuple", _, PyProof.Rows.slot_tuple_getitem.lookup, ht.typeIs, ?_⟩
  refine HT.getItem_tuple_cut ht hs pl pu (by rw [hlen]; exact hw) ?_ (by rw [hlen]; exact hz)
  rw [hlen]
  refine ⟨.ref s.heap.objs.size, _, I.laid (t' := s.toks) (o := .tup (cutV xs lo hi)) (fun b ob q => Heap.get?_push_of_some _ q) (Nat.le_refl _) ?_, rfl, q _ (I.hok.fresh (Nat.le_refl _))⟩
  exact ⟨Nat.le_trans (cutV_length xs lo hi) hz, _, (r.drop (HT.sIx xs.length 0 lo)).take (HT.sIx xs.length xs.length hi - HT.sIx xs.length 0 lo), IsTup.new _ _⟩
noncomputable def rCatT (K : PySem.W.Frag) : R2 := fun x y H Q => ∃ a b xs ys, x = .ref a ∧ y = .ref b ∧ SqT K H a xs ∧ SqT K H b ys ∧ xs ≠ [] ∧ xs.length + ys.length ≤ sizeLine ∧
  (ys = [] → Q (.ref a) H) ∧ (ys ≠ [] → ∀ p, H p = none → Q (.ref p) (upd H p (.tup (xs ++ ys))))
theorem Vals.nil_iff {xs : List V} {us : List Value} (r : Vals xs us) : us = [] ↔ xs = [] := by
  cases r with
  | nil => simp
  | cons _ _ => simp
theorem op_catT : OpR X (binaryOp .Add) (rCatT X.K) := by
  intro pins s σ H x y v u Q I rx ry h
  obtain ⟨a, b, xs, ys, rfl, rfl, ha, hb, hx, hz, q1, q2⟩ := h
  cases rx
  cases ry
  obtain ⟨its, r1, p1, _⟩ := I.tuple ha
  obtain ⟨its2, r2, p2, _⟩ := I.tuple hb
  refine HT.cat_tup p1 p2 (fun z => hx (r1.nil_iff.mp z)) (fun z => ⟨.ref a, H, I, rfl, q1 (r2.nil_iff.mp z)⟩) (fun z => ?_) (by rw [← r1.length, ← r2.length]; exact hz)
  refine ⟨.ref s.heap.objs.size, _, I.laid (t' := s.toks) (o := .tup (xs ++ ys)) (fun b ob q => Heap.get?_push_of_some _ q) (Nat.le_refl _) ?_, rfl, q2 (fun w => z (r2.nil_iff.mpr w)) _ (I.hok.fresh (Nat.le_refl _))⟩
  exact ⟨by rw [List.length_append]; exact hz, _, r1.append r2, IsTup.new _ _⟩
end
end L2
namespace L2
open PySem PySem.Spec PyProof.Rows
noncomputable def ixN (n : Nat) (i : Int) : Option Nat := if 0 ≤ i then (if i < n then some i.toNat else none) else if -(n : Int) ≤ i then some (i + n).toNat else none
noncomputable def atI {α : Type} (xs : List α) (i : Int) : Option α := (ixN xs.length i).bind fun j => xs[j]?
theorem ixN_seq {n : Nat} {i : Int} {j : Nat} (h : ixN n i = some j) : seqIndex? i n = some j ∧ j < n ∧ -(n : Int) ≤ i ∧ i < n := by
  unfold ixN at h
  by_cases h0 : 0 ≤ i
  · rw [if_pos h0] at h
    by_cases h1 : i < n
    · rw [if_pos h1] at h
      have e : i.toNat = j := Option.some.inj h
      exact ⟨by rw [seqIndex_of h0 h1, e], by omega, by omega, h1⟩
    · rw [if_neg h1] at h; cases h
  · rw [if_neg h0] at h
    by_cases h1 : -(n : Int) ≤ i
    · rw [if_pos h1] at h
      have e : (i + n).toNat = j := Option.some.inj h
      exact ⟨by rw [seqIndex_neg (by omega) h1, e], by omega, h1, by omega⟩
    · rw [if_neg h1] at h; cases h
theorem atI_get {α : Type} {xs : List α} {i : Int} {v : α} (h : atI xs i = some v) : ∃ j, seqIndex? i xs.length = some j ∧ xs[j]? = some v ∧ j < xs.length ∧ -(xs.length : Int) ≤ i ∧ i < xs.length := by
  unfold atI at h
  cases e : ixN xs.length i with
  | none => rw [e] at h; cases h
  | some j =>
    rw [e] at h
    obtain ⟨h1, h2, h3, h4⟩ := ixN_seq e
    exact ⟨j, h1, h, h2, h3, h4⟩
theorem atI_nat {α : Type} {xs : List α} {j : Nat} {v : α} (h : xs[j]? = some v) : atI xs (j : Int) = some v := by
  have hj : j < xs.length := (List.getElem?_eq_some_iff.mp h).1
  have e : ixN xs.length (j : Int) = some j := by
    unfold ixN
    rw [if_pos (by omega), if_pos (by omega)]; simp
  unfold atI; rw [e]; exact h
theorem atI_last {α : Type} (xs : List α) (v : α) : atI (xs ++ [v]) (-1) = some v := by
  have hl : (xs ++ [v]).length = xs.length + 1 := by simp
  have e : ixN (xs ++ [v]).length (-1) = some xs.length := by
    unfold ixN
    rw [hl, if_neg (by decide), if_pos (by omega)]
    congr 1
    omega
  unfold atI
  rw [e]
  show (xs ++ [v])[xs.length]? = some v
  simp
noncomputable def PlainIx (b : Expr) : Prop := ∀ o i, subscripted b false o i = operate [o, i] (getItem o i)
noncomputable def IxR (X : Cx) (r : R2) : Prop :=
  ∀ (value slice : Expr) (pins : List (Addr × Obj)) (s : Shared) (σ : St) (H : Hp) (x y : V) (v u : Value) (Q : VK), Inv X pins σ H s → RelV x v → RelV y u → r x y H Q →
    subscripted slice false v u = operate [v, u] (getItem v u) → wpAny (model X.prog X.w) X.A (subscriptTail value slice v u) (EP X pins σ Q) X.xe s
noncomputable def MtR (X : Cx) (id : String) (r : V → List V → Hp → VK → Prop) : Prop :=
  ∀ (pins : List (Addr × Obj)) (s : Shared) (σ : St) (H : Hp) (x : V) (xs : List V) (v : Value) (us : List Value) (Q : VK), Inv X pins σ H s → RelV x v → Vals xs us → r x xs H Q →
    wpAny (model X.prog X.w) X.A (call (.builtin id) (v :: us)) (EP X pins σ Q) X.xe s
section
variable {X : Cx} {a b : Expr} {ta tb : TE} {pos : Pos}
theorem pe_ix {r : R2} (hr : IxR X r) (ha : PE X a ta) (hb : PE X b tb) (hs : PlainIx b) : PE X (.Subscript a b pos) (tOp r ta tb) := by
  intro pins s σ H Q I h
  exact Subscript_ (binT ha hb I h fun v u s2 x y H2 I2 rx ry q => hr a b pins s2 σ H2 x y v u Q I2 rx ry q (hs _ _))
noncomputable def rIxL (K : PySem.W.Frag) : R2 := fun x y H Q => ∃ p xs i v, x = .ref p ∧ y = .int i ∧ SqL K H p xs ∧ atI xs i = some v ∧ Q v H
noncomputable def rIxT (K : PySem.W.Frag) : R2 := fun x y H Q => ∃ p xs i v, x = .ref p ∧ y = .int i ∧ SqT K H p xs ∧ atI xs i = some v ∧ Q v H
noncomputable def rIxS : R2 := fun x y H Q => ∃ z i c, x = .str z ∧ y = .int i ∧ z.length ≤ sizeLine ∧ atI z.cps.toList i = some c ∧ Q (.str ⟨#[c]⟩) H
theorem ix_list : IxR X (rIxL X.K) := by
  intro value slice pins s σ H x y v u Q I rx ry h hs
  obtain ⟨p, xs, i, z, rfl, rfl, hq, he, q⟩ := h
  cases rx
  obtain ⟨t, rfl⟩ := ry
  obtain ⟨its, r, pl, hz⟩ := I.list hq
  obtain ⟨j, h1, h2, h3, h4, h5⟩ := atI_get he
  obtain ⟨w, ew, rw'⟩ := r.get h2
  have hl := r.length
  have hn := line63
  have fin : EP X pins σ Q w s := ⟨z, H, I, rw', q⟩
  by_cases h0 : 0 ≤ i
  · have hj : i.toNat = j := by
      rw [seqIndex_of h0 h5] at h1
      exact Option.some.inj h1
    exact item_listR pl.isList h0 (by omega) (by rw [hj]; simpa using ew) fin hs
  · have hj : (i + (its.toArray.size : Int)).toNat = j := by
      rw [seqIndex_neg (by omega) h4] at h1
      rw [List.size_toArray, ← hl]
      exact Option.some.inj h1
    exact subscriptTail_builtinR (x := w) pl.isList.typeIs slot_list_getitem.lookup
      (wpAny_getItem_list_neg (Q := fun r s' => r = w ∧ EP X pins σ Q r s') pl.isList (by omega) (by rw [List.size_toArray] <;> omega) (by omega) (by rw [hj]; simpa using ew) ⟨rfl, fin⟩) hs
theorem ix_tup : IxR X (rIxT X.K) := by
  intro value slice pins s σ H x y v u Q I rx ry h hs
  obtain ⟨p, xs, i, z, rfl, rfl, hq, he, q⟩ := h
  cases rx
  obtain ⟨t, rfl⟩ := ry
  obtain ⟨its, r, pl, hz⟩ := I.tuple hq
  obtain ⟨j, h1, h2, h3, h4, h5⟩ := atI_get he
  obtain ⟨w, ew, rw'⟩ := r.get h2
  have hl := r.length
  have hn := line63
  have fin : EP X pins σ Q w s := ⟨z, H, I, rw', q⟩
  exact subscriptTail_builtinR (x := w) pl.typeIs slot_tuple_getitem.lookup
    (getItem_tuple (j := j) (Q := fun r s' => r = w ∧ EP X pins σ Q r s') pl (by omega) (by omega) (by rw [List.size_toArray, ← hl]; exact h1) (by simpa using ew) ⟨rfl, fin⟩) hs
theorem ix_str : IxR X rIxS := by
  intro value slice pins s σ H x y v u Q I rx ry h hs
  obtain ⟨z, i, c, rfl, rfl, hz, he, q⟩ := h
  obtain ⟨t, rfl⟩ := rx
  obtain ⟨t', rfl⟩ := ry
  obtain ⟨j, h1, h2, h3, h4, h5⟩ := atI_get he
  have hl : z.cps.toList.length = z.length := by simp [Str.length]
  rw [hl] at h1 h4 h5
  have hn := line63
  exact tail_any (typeIs_str s z t) slot_str_getitem.lookup (getItem_str (c := c) (by
    have e1 : decide (i < -(2 ^ 63 : Int)) = false := decide_eq_false (by omega)
    have e2 : decide (i ≥ 2 ^ 63) = false := decide_eq_false (by omega)
    rw [e1, e2, Bool.or_false]) (by rw [h1]; simpa using h2) ⟨.str ⟨#[c]⟩, H, I.tok _, ⟨_, rfl⟩, q⟩) hs
theorem mapSeq_set (its : List Value) (n j : Nat) (u : Value) : Obj.mapSeq (·.setIfInBounds j u) { cls := .type "list", data := .seq its.toArray n } = { cls := .type "list", data := .seq (its.set j u).toArray n } := by
  simp [Obj.mapSeq]
theorem Inv.lst {pins : List (Addr × Obj)} {σ : St} {H : Hp} {s : Shared} {p : Addr} {xs : List V} (I : Inv X pins σ H s) (h : H p = some (.lst xs)) :
    ∃ (its : List Value) (n : Nat), Vals xs its ∧ s.heap.get? p = some { cls := .type "list", data := .seq its.toArray n } ∧ xs.length ≤ sizeLine := by
  obtain ⟨z, its, n, r, e⟩ := I.hok p _ h
  exact ⟨its, n, r, e, z⟩
theorem Inv.lstUpd {pins : List (Addr × Obj)} {σ : St} {H : Hp} {s : Shared} {p : Addr} {xs ys : List V} {its its' : List Value} {n n' : Nat} {f : Obj → Obj} (I : Inv X pins σ H s) (h : H p = some (.lst xs))
    (ho : s.heap.get? p = some { cls := .type "list", data := .seq its.toArray n }) (hf : f { cls := .type "list", data := .seq its.toArray n } = { cls := .type "list", data := .seq its'.toArray n' }) (r : Vals ys its') (hz : ys.length ≤ sizeLine) (t : Nat) :
    Inv X pins σ (upd H p (.lst ys)) { s with heap := s.heap.update p f, toks := t } := by
  have e : (s.heap.update p f).get? p = some { cls := .type "list", data := .seq its'.toArray n' } := by
    rw [Heap.get?_update_self f ho (by rw [hf] <;> rfl), hf]
  refine I.write (x := p) (e := p) (by rw [h]; trivial) (.inl rfl) (fun b u hb q => (Heap.get?_update_other _ _ (Ne.symm hb)).trans q) ⟨_, e⟩ ?_
  exact ⟨hz, its', n', r, e⟩
noncomputable def rSetL : V → V → V → Hp → (Hp → Prop) → Prop := fun o i v H Q => ∃ p xs k j, o = .ref p ∧ i = .int k ∧ H p = some (.lst xs) ∧ ixN xs.length k = some j ∧ Q (upd H p (.lst (xs.set j v)))
theorem set_list : PSet X rSetL := by
  intro pins s σ H o i v ov iv u Q I ro ri rv h
  obtain ⟨p, xs, k, j, rfl, rfl, hp, hj, q⟩ := h
  cases ro
  obtain ⟨t, rfl⟩ := ri
  obtain ⟨its, n, r, ho, hz⟩ := I.lst hp
  obtain ⟨h1, h2, h3, h4⟩ := ixN_seq hj
  have hl := r.length
  have hn := line63
  have I' : Inv X pins σ (upd H p (.lst (xs.set j v))) { s with heap := s.heap.update p (Obj.mapSeq (·.setIfInBounds j u)) } :=
    I.lstUpd hp ho (mapSeq_set its n j u) (r.set rv j) (by rw [List.length_set]; exact hz) s.toks
  by_cases h0 : 0 ≤ k
  · have hk : k.toNat = j := by
      rw [seqIndex_of h0 h4] at h1
      exact Option.some.inj h1
    exact PySem.W.ki_setAt ho h0 (by omega) (by rw [List.size_toArray, ← hl]; exact h4) (by rw [hk]; exact ⟨_, I', q⟩)
  · have hk : (k + (its.toArray.size : Int)).toNat = j := by
      rw [seqIndex_neg (by omega) h3] at h1
      rw [List.size_toArray, ← hl]
      exact Option.some.inj h1
    exact PySem.W.ki_setBack ho (by omega) (by rw [List.size_toArray, ← hl]; exact h3) (by omega) (by rw [hk]; exact ⟨_, I', q⟩)
theorem slice_bounds (lo hi : Option Int) (n : Nat) : (sliceBounds lo hi none n).1 = ((HT.sIx n 0 lo : Nat) : Int) ∧ (sliceBounds lo hi none n).2.1 = ((HT.sIx n n hi : Nat) : Int) ∧ (sliceBounds lo hi none n).2.2 = 1 := by
  refine ⟨?_, ?_, rfl⟩
  · cases lo with
    | none => simp [sliceBounds, HT.sIx]
    | some i =>
      simp only [sliceBounds, HT.sIx, Option.getD_none, show (1 : Int) > 0 by decide, if_true]
      by_cases h : i < 0
      · simp only [h, if_true] <;> omega
      · simp only [h, if_false] <;> omega
  · cases hi with
    | none => simp [sliceBounds, HT.sIx]
    | some i =>
      simp only [sliceBounds, HT.sIx, Option.getD_none, show (1 : Int) > 0 by decide, if_true]
      by_cases h : i < 0
      · simp only [h, if_true] <;> omega
      · simp only [h, if_false] <;> omega
theorem slicePick_cut (its : List Value) (lo hi : Option Int) : slicePick its.toArray lo hi none = ((its.drop (HT.sIx its.length 0 lo)).take (HT.sIx its.length its.length hi - HT.sIx its.length 0 lo)).toArray := by
  obtain ⟨h1, h2, h3⟩ := slice_bounds lo hi its.toArray.size
  unfold slicePick
  rw [h1, h2, h3]
  simp only [sliceRange_one, pick_run, List.size_toArray] <;> rfl
noncomputable def rSlL (K : PySem.W.Frag) : V → Option Int → Option Int → Hp → VK → Prop := fun x lo hi H Q => ∃ a xs, x = .ref a ∧ SqL K H a xs ∧ ∀ p, H p = none → Q (.ref p) (upd H p (.lst (cutV xs lo hi)))
theorem sl_list : SlR X (rSlL X.K) := by
  intro pins s σ H x v vl vu lo hi sl Q I rx hs pl pu h
  obtain ⟨a, xs, rfl, hx, q⟩ := h
  cases rx
  obtain ⟨its, r, ht, hz⟩ := I.list hx
  have hlen := r.length
  refine ⟨"list", _, slot_list_getitem.lookup, ht.isList.typeIs, ?_⟩
  refine wpAny_getItem_list_slice ht.isList hs pl pu .none (by simp) ?_ (by rw [List.size_toArray] <;> omega)
  rw [slicePick_cut, ← hlen]
  refine ⟨.ref s.heap.objs.size, _, I.laid (t' := s.toks) (o := .lst (cutV xs lo hi)) (fun b ob q => Heap.get?_push_of_some _ q) (Nat.le_refl _) ?_, rfl, q _ (I.hok.fresh (Nat.le_refl _))⟩
  exact ⟨Nat.le_trans (cutV_length xs lo hi) hz, _, 0, (r.drop (HT.sIx xs.length 0 lo)).take (HT.sIx xs.length xs.length hi - HT.sIx xs.length 0 lo), Heap.get?_push_size _ rfl⟩
noncomputable def flatV : V → Bool
  | .non => true
  | .bl _ => true
  | .int _ => true
  | .str _ => true
  | _ => false
noncomputable def eqV : V → V → Bool
  | .non, .non => true
  | .bl a, .bl b => a == b
  | .bl a, .int b => (if a then 1 else 0) == b
  | .int a, .bl b => a == (if b then 1 else 0)
  | .int a, .int b => a == b
  | .str a, .str b => a == b
  | _, _ => false
theorem eqAt_V {A : Around} {s : Shared} {y x : V} {u v : Value} (ry : RelV y u) (rx : RelV x v) (fy : flatV y = true) (fx : flatV x = true) : SeqAt.EqAt A s u v (eqV y x) := by
  cases y with
  | non =>
    cases ry
    cases x with
    | non => cases rx; exact SeqAt.EqAt.same _
    | bl b => cases rx; exact SeqAt.EqAt.none_bool b
    | int b => obtain ⟨t, rfl⟩ := rx; exact SeqAt.EqAt.none_int b t
    | str b => obtain ⟨t, rfl⟩ := rx; exact SeqAt.EqAt.none_str b t
    | _ => exact absurd (show false = true from fx) Bool.false_ne_true
  | bl a =>
    cases ry
    cases x with
    | non => cases rx; exact SeqAt.EqAt.bool_none a
    | bl b => cases rx; exact SeqAt.EqAt.bool_bool a b
    | int b => obtain ⟨t, rfl⟩ := rx; exact SeqAt.EqAt.bool_int a b t
    | str b => obtain ⟨t, rfl⟩ := rx; exact SeqAt.EqAt.bool_str a b t
    | _ => exact absurd (show false = true from fx) Bool.false_ne_true
  | int a =>
    obtain ⟨t', rfl⟩ := ry
    cases x with
    | non => cases rx; exact SeqAt.EqAt.int_none a t'
    | bl b => cases rx; exact SeqAt.EqAt.int_bool a t' b
    | int b => obtain ⟨t, rfl⟩ := rx; exact SeqAt.EqAt.int_int a t' b t
    | str b => obtain ⟨t, rfl⟩ := rx; exact SeqAt.EqAt.int_str a t' b t
    | _ => exact absurd (show false = true from fx) Bool.false_ne_true
  | str a =>
    obtain ⟨t', rfl⟩ := ry
    cases x with
    | non => cases rx; exact SeqAt.EqAt.str_none a t'
    | bl b => cases rx; exact SeqAt.EqAt.str_bool a t' b
    | int b => obtain ⟨t, rfl⟩ := rx; exact SeqAt.EqAt.str_int a t' b t
    | str b => obtain ⟨t, rfl⟩ := rx; exact SeqAt.EqAt.str_str a t' b t
    | _ => exact absurd (show false = true from fx) Bool.false_ne_true
  | _ => exact absurd (show false = true from fy) Bool.false_ne_true
noncomputable def eqU (x : V) (u : Value) : Bool := match u with
  | .none => eqV .non x
  | .bool b => eqV (.bl b) x
  | .int i _ => eqV (.int i) x
  | .str z _ => eqV (.str z) x
  | _ => false
theorem eqU_of {x y : V} {u : Value} (r : RelV y u) (f : flatV y = true) : eqU x u = eqV y x := by
  cases y with
  | non => cases r; rfl
  | bl b => cases r; rfl
  | int i => obtain ⟨t, rfl⟩ := r; rfl
  | str z => obtain ⟨t, rfl⟩ := r; rfl
  | _ => exact absurd (show false = true from f) Bool.false_ne_true
theorem any_eqU {x : V} : ∀ {xs : List V} {us : List Value}, Vals xs us → xs.all flatV = true → us.any (eqU x) = xs.any fun y => eqV y x
  | _, _, .nil, _ => rfl
  | y :: xs, u :: us, .cons r t, f => by
    rw [List.all_cons, Bool.and_eq_true] at f
    rw [List.any_cons, List.any_cons, eqU_of r f.1, any_eqU t f.2]
theorem mem_eqAt {A : Around} {s : Shared} {x : V} {v : Value} (rx : RelV x v) (fx : flatV x = true) : ∀ {xs : List V} {us : List Value}, Vals xs us → xs.all flatV = true → ∀ u ∈ us, SeqAt.EqAt A s u v (eqU x u)
  | _, _, .nil, _ => fun u hu => by cases hu
  | y :: xs, u :: us, .cons r t, f => fun u' hu => by
    rw [List.all_cons, Bool.and_eq_true] at f
    rcases List.mem_cons.mp hu with rfl | hu
    · rw [eqU_of r f.1]; exact eqAt_V r rx f.1 fx
    · exact mem_eqAt rx fx t f.2 u' hu
noncomputable def inV (x : V) (xs : List V) : Bool := xs.any fun y => eqV y x
noncomputable def rIn (K : PySem.W.Frag) (neg : Bool) : R2 := fun x y H Q => ∃ p xs, y = .ref p ∧ (SqL K H p xs ∨ SqT K H p xs) ∧ flatV x = true ∧ xs.all flatV = true ∧ Q (.bl (if neg then !inV x xs else inV x xs)) H
theorem op_in_seq : OpR X (compareOp .In) (rIn X.K false) := by
  intro pins s σ H x y v u Q I rx ry h
  obtain ⟨p, xs, rfl, hq, fx, fs, q⟩ := h
  cases ry
  rcases hq with hq | hq
  · obtain ⟨its, r, pl, hz⟩ := I.list hq
    refine SeqAt.in_listAt (eqU x) pl.isList (fun w hw => mem_eqAt rx fx r fs w (by simpa using hw)) ⟨.bl _, H, I, rfl, ?_⟩
    rw [show its.toArray.any (eqU x) = its.any (eqU x) by simp, any_eqU r fs]
    exact q
  · obtain ⟨its, r, pl, hz⟩ := I.tuple hq
    refine SeqAt.in_tupleAt (eqU x) pl (fun w hw => mem_eqAt rx fx r fs w (by simpa using hw)) ⟨.bl _, H, I, rfl, ?_⟩
    rw [show its.toArray.any (eqU x) = its.any (eqU x) by simp, any_eqU r fs]
    exact q
theorem op_notIn_seq : OpR X (compareOp .NotIn) (rIn X.K true) := by
  intro pins s σ H x y v u Q I rx ry h
  obtain ⟨p, xs, rfl, hq, fx, fs, q⟩ := h
  cases ry
  rcases hq with hq | hq
  · obtain ⟨its, r, pl, hz⟩ := I.list hq
    refine SeqAt.notIn_listAt (eqU x) pl.isList (fun w hw => mem_eqAt rx fx r fs w (by simpa using hw)) ⟨.bl _, H, I, rfl, ?_⟩
    rw [show its.toArray.any (eqU x) = its.any (eqU x) by simp, any_eqU r fs]
    exact q
  · obtain ⟨its, r, pl, hz⟩ := I.tuple hq
    refine SeqAt.notIn_tupleAt (eqU x) pl (fun w hw => mem_eqAt rx fx r fs w (by simpa using hw)) ⟨.bl _, H, I, rfl, ?_⟩
    rw [show its.toArray.any (eqU x) = its.any (eqU x) by simp, any_eqU r fs]
    exact q
theorem call_len_seq : CallR X (.builtin "len") (fun xs H Q => ∃ p ys, xs = [.ref p] ∧ (SqL X.K H p ys ∨ SqT X.K H p ys) ∧ Q (.int ys.length) H) := by
  intro pins s σ H xs us Q I r h
  obtain ⟨p, ys, rfl, hq, q⟩ := h
  obtain ⟨u, rfl, rx⟩ := vals1 r
  cases rx
  have hn := line63
  rcases hq with hq | hq
  · obtain ⟨its, r', pl, hz⟩ := I.list hq
    have hlen := r'.length
    exact Calls.call_len_list pl.isList (by simp only [List.size_toArray] <;> omega) ⟨.int ys.length, H, I.tok _, ⟨s.toks + 1, by rw [List.size_toArray, hlen]⟩, q⟩
  · obtain ⟨its, r', pl, hz⟩ := I.tuple hq
    have hlen := r'.length
    exact len_tuple pl (by simp only [List.size_toArray] <;> omega) ⟨.int ys.length, H, I.tok _, ⟨s.toks + 1, by rw [List.size_toArray, hlen]⟩, q⟩
theorem call_len_str : CallR X (.builtin "len") (fun xs H Q => ∃ z, xs = [.str z] ∧ z.length ≤ sizeLine ∧ Q (.int z.length) H) := by
  intro pins s σ H xs us Q I r h
  obtain ⟨z, rfl, hz, q⟩ := h
  obtain ⟨u, rfl, t, rfl⟩ := vals1 r
  have hn := line63
  exact len_str (by omega) ⟨.int z.length, H, I.tok _, ⟨_, rfl⟩, q⟩
theorem call_tuple_of : CallR X (.type "tuple") (fun xs H Q => ∃ p ys, xs = [.ref p] ∧ ((SqL X.K H p ys ∧ ∀ l, H l = none → Q (.ref l) (upd H l (.tup ys))) ∨ (SqT X.K H p ys ∧ Q (.ref p) H))) := by
  intro pins s σ H xs us Q I r h
  obtain ⟨p, ys, rfl, h⟩ := h
  obtain ⟨u, rfl, rx⟩ := vals1 r
  cases rx
  rcases h with ⟨hq, q⟩ | ⟨hq, q⟩
  · obtain ⟨its, r', pl, hz⟩ := I.list hq
    have hlen := r'.length
    refine call_tuple_list pl.isList (fun h' kp => ?_) (by simp only [List.size_toArray] <;> omega)
    have I1 : Inv X pins σ H { s with heap := h' } := I.kept (t' := s.toks) kp
    have I2 : Inv X pins σ (upd H h'.objs.size (.tup ys)) { s with heap := h'.push { cls := .type "tuple", data := .seq its.toArray } } :=
      I1.laid (t' := s.toks) (fun b o e => Heap.get?_push_of_some _ e) (Nat.le_refl _) (show ObjOk X.prog X.w _ _ _ (.tup ys) from ⟨hz, its, r', IsTup.new _ _⟩)
    exact ⟨.ref h'.objs.size, _, I2, rfl, q _ (I1.hok.fresh (Nat.le_refl _))⟩
  · obtain ⟨its, r', pl, hz⟩ := I.tuple hq
    exact call_tuple_same pl ⟨.ref p, H, I, rfl, q⟩
noncomputable def tyV (K : PySem.W.Frag) (T : String) (x : V) (H : Hp) : Prop := match x with
  | .str _ => T = "str"
  | .int _ => T = "int"
  | .ref p => (T = "list" ∧ ∃ xs, SqL K H p xs) ∨ (T = "tuple" ∧ ∃ o, K.lookup p = some o ∧ o.cls = .type "tuple" ∧ o.dict = none) ∨
      (T = "dict" ∧ ((∃ kvs, H p = some (.dK kvs)) ∨ ∃ kvs, H p = some (.dT kvs))) ∨ (T = "set" ∧ ∃ S n, H p = some (.set S n))
  | _ => False
theorem tyV_is {pins : List (Addr × Obj)} {σ : St} {H : Hp} {s : Shared} {T : String} {x : V} {v : Value} (I : Inv X pins σ H s) (r : RelV x v) (ty : tyV X.K T x H) :
    s.TypeIs v T ∧ ∀ a, v = .ref a → ∃ ob, s.heap.get? a = some ob ∧ ob.dict = none := by
  cases x with
  | str z =>
    obtain ⟨t, rfl⟩ := r
    cases (show T = "str" from ty)
    exact ⟨typeIs_str s z t, fun _ e => nomatch e⟩
  | int i =>
    obtain ⟨t, rfl⟩ := r
    cases (show T = "int" from ty)
    exact ⟨typeIs_int s i t, fun _ e => nomatch e⟩
  | ref p =>
    cases r
    rcases ty with ⟨rfl, xs, hq⟩ | ⟨rfl, o, hk, hc, hd⟩ | ⟨rfl, hk⟩ | ⟨rfl, S, n, hk⟩
    · obtain ⟨its, _, pl, _⟩ := I.list hq
      refine ⟨pl.isList.typeIs, fun a e => ?_⟩
      cases e
      obtain ⟨o, n, e, c, hd, _⟩ := pl
      exact ⟨o, e, hd⟩
    · refine ⟨⟨o, I.kIn p o hk, hc⟩, fun a e => ?_⟩
      cases e
      exact ⟨o, I.kIn _ o hk, hd⟩
    · have z : ∃ o, s.heap.get? p = some o ∧ o.ExactDict := by
        rcases hk with ⟨kvs, hk⟩ | ⟨kvs, hk⟩
        · obtain ⟨_, _, _, _, o, _, _, e, ex, _⟩ := I.hok p _ hk
          exact ⟨o, e, ex⟩
        · obtain ⟨_, _, _, _, o, _, _, e, ex, _⟩ := I.hok p _ hk
          exact ⟨o, e, ex⟩
      obtain ⟨o, e, ex⟩ := z
      refine ⟨⟨o, e, ex.1⟩, fun a e2 => ?_⟩
      cases e2
      exact ⟨o, e, ex.2.1⟩
    · obtain ⟨o, _, _, _, e, ex, _⟩ := I.hok p _ hk
      refine ⟨⟨o, e, ex.1⟩, fun a e2 => ?_⟩
      cases e2
      exact ⟨o, e, ex.2.1⟩
  | _ => exact False.elim ty
variable {o e : Expr} {es : List Expr} {to : TE} {t : TA} {name : Str} {apos cpos : Pos} {T id : String} {r : V → List V → Hp → VK → Prop}
end
end L2
namespace L2
open PySem PySem.Spec PyProof.Rows
noncomputable def MtM (X : Cx) (id : String) (r : V → List V → Hp → VK → Prop) : Prop :=
  ∀ (pins : List (Addr × Obj)) (s : Shared) (σ : St) (H : Hp) (x : V) (xs : List V) (v : Value) (us : List Value) (Q : VK), Inv X pins σ H s → RelV x v → Vals xs us → r x xs H Q →
    wpAny (model X.prog X.w) X.A (call (.builtin id) (v :: us)) (EP X pins σ Q) X.xe s
theorem Vals.one : ∀ {x : V} {us : List Value}, Vals [x] us → ∃ u, us = [u] ∧ RelV x u
  | _, _, .cons r .nil => ⟨_, rfl, r⟩
theorem Vals.zero : ∀ {us : List Value}, Vals [] us → us = []
  | _, .nil => rfl
theorem Vals.dropLast {xs : List V} {us : List Value} (h : Vals xs us) : Vals xs.dropLast us.dropLast := by
  induction h with
  | nil => exact .nil
  | cons r t ih =>
    cases t with
    | nil => exact .nil
    | cons q t' => exact .cons r ih
theorem Vals.reverse {xs : List V} {us : List Value} (h : Vals xs us) : Vals xs.reverse us.reverse := by
  induction h with
  | nil => exact .nil
  | cons r t ih => rw [List.reverse_cons, List.reverse_cons]; exact Vals.append ih (.cons r .nil)
theorem erase_last {α : Type} (l : List α) : l.eraseIdx (l.length - 1) = l.dropLast := by
  induction l with
  | nil => rfl
  | cons a r ih =>
    cases r with
    | nil => rfl
    | cons b r =>
      have e : (a :: b :: r).length - 1 = ((b :: r).length - 1) + 1 := by
        have h1 : (a :: b :: r).length = r.length + 2 := rfl
        have h2 : (b :: r).length = r.length + 1 := rfl
        omega
      rw [e, List.eraseIdx_cons_succ, ih]
      all_goals rfl
section
variable {X : Cx} {pins : List (Addr × Obj)} {σ : St} {H : Hp} {s : Shared} {l b : Addr} {xs ys zs : List V}
theorem Inv.lset {its its' : List Value} {n : Nat} {f : Array Value → Array Value} {t' : Nat} (I : Inv X pins σ H s) (hH : H l = some (.lst xs))
    (e : s.heap.get? l = some { cls := .type "list", data := .seq its.toArray n }) (hf : f its.toArray = its'.toArray) (hv : Vals ys its') (hz : ys.length ≤ sizeLine) :
    Inv X pins σ (upd H l (.lst ys)) { s with heap := s.heap.update l (Obj.mapSeq f), toks := t' } := by
  have q := PySem.IsL.update e f
  rw [hf] at q
  refine I.write (x := l) (e := l) (by rw [hH]; exact trivial) (.inl rfl) (fun b' u hb hu => (Heap.get?_update_other s.heap (Obj.mapSeq f) (Ne.symm hb)).trans hu) ⟨_, q⟩ ?_
  exact ⟨hz, its', _, hv, q⟩
theorem Inv.lstM (I : Inv X pins σ H s) (hH : H l = some (.lst xs)) : xs.length ≤ sizeLine ∧ ∃ (its : List Value) (n : Nat), Vals xs its ∧ xs.length = its.length ∧ s.heap.get? l = some { cls := .type "list", data := .seq its.toArray n } := by
  obtain ⟨z, its, n, r, e⟩ := I.hok l _ hH
  exact ⟨z, its, n, r, r.length, e⟩
end
section
variable {X : Cx}
noncomputable def rAppend : V → List V → Hp → VK → Prop := fun x vs H Q => ∃ l xs y, x = .ref l ∧ vs = [y] ∧ H l = some (.lst xs) ∧ xs.length < sizeLine ∧ Q .non (upd H l (.lst (xs ++ [y])))
theorem mt_append : MtM X "list.append" rAppend := by
  intro pins s σ H x vs v us Q I rx rv h
  obtain ⟨l, xs, y, rfl, rfl, hH, hz, q⟩ := h
  cases rx
  obtain ⟨u, rfl, ru⟩ := rv.one
  obtain ⟨z, its, n, r, hl, e⟩ := I.lstM hH
  refine call_meets F.slot_list_append ⟨_, e, rfl⟩ F.entry_list_append (F.args_list_append_2 _ _) (PySem.list_append l its.toArray n u (by rw [List.size_toArray]; omega)) ⟨e, ?_⟩
  refine ⟨.non, _, I.lset (its' := its ++ [u]) hH e (by simp) (r.append (.cons ru .nil)) ?_, rfl, q⟩
  rw [List.length_append, List.length_singleton]
  omega
noncomputable def rPop : V → List V → Hp → VK → Prop := fun x vs H Q => ∃ l xs y, x = .ref l ∧ vs = [] ∧ H l = some (.lst xs) ∧ xs[xs.length - 1]? = some y ∧ Q y (upd H l (.lst xs.dropLast))
theorem mt_pop : MtM X "list.pop" rPop := by
  intro pins s σ H x vs v us Q I rx rv h
  obtain ⟨l, xs, y, rfl, rfl, hH, hy, q⟩ := h
  cases rx
  have hus := rv.zero
  subst hus
  obtain ⟨z, its, n, r, hl, e⟩ := I.lstM hH
  obtain ⟨u, hu, ru⟩ := r.get hy
  have hy' : its.toArray[its.toArray.size - 1]? = some u := by
    show its.toArray[its.length - 1]? = some u
    rw [← Array.getElem?_toList, ← hl]
    exact hu
  refine call_meets F.slot_list_pop ⟨_, e, rfl⟩ F.entry_list_pop (F.args_list_pop_1 _) (MeetsSeq.list_pop_last l its.toArray n u hy' (by rw [List.size_toArray]; omega)) ⟨e, ?_⟩
  refine ⟨y, _, I.lset (its' := its.dropLast) hH e ?_ r.dropLast ?_, ru, q⟩
  · show its.toArray.eraseIdxIfInBounds (its.toArray.size - 1) = its.dropLast.toArray
    rw [List.size_toArray, List.eraseIdxIfInBounds_toArray, erase_last]
  · rw [List.length_dropLast]
    omega
end
end L2
namespace L2
open PySem PySem.Spec PyProof.Rows
section
variable {κ : Type} [DecidableEq κ]
noncomputable def valV (kvs : List (κ × V)) (k : κ) : Option V := (kvs.find? fun kv => decide (kv.1 = k)).map (·.2)
noncomputable def putK (kvs : List (κ × V)) (k : κ) (v : V) : List (κ × V) :=
  if (kvs.any fun kv => decide (kv.1 = k)) = true then kvs.map (fun kv => if kv.1 = k then (kv.1, v) else kv) else kvs ++ [(k, v)]
theorem valV_nil {k : κ} : valV ([] : List (κ × V)) k = none := rfl
theorem valV_pos {p : κ × V} {r : List (κ × V)} {k : κ} (e : p.1 = k) : valV (p :: r) k = some p.2 := by simp [valV, List.find?_cons, e]
theorem valV_neg {p : κ × V} {r : List (κ × V)} {k : κ} (e : ¬ p.1 = k) : valV (p :: r) k = valV r k := by simp [valV, List.find?_cons, e]
theorem valV_any (k : κ) : ∀ kvs : List (κ × V), (kvs.any fun kv => decide (kv.1 = k)) = (valV kvs k).isSome
  | [] => rfl
  | p :: r => by
    rw [List.any_cons]
    by_cases e : p.1 = k
    · simp only [valV_pos e, decide_eq_true e, Bool.true_or, Option.isSome_some]
    · rw [valV_neg e, decide_eq_false e, Bool.false_or]; exact valV_any k r
theorem length_putK (kvs : List (κ × V)) (k : κ) (v : V) : (putK kvs k v).length ≤ kvs.length + 1 := by
  unfold putK
  split
  · rw [List.length_map]; omega
  · rw [List.length_append, List.length_cons, List.length_nil]; omega
theorem putK_new {kvs : List (κ × V)} {k : κ} (v : V) (h : valV kvs k = none) : putK kvs k v = kvs ++ [(k, v)] := by
  unfold putK
  rw [valV_any, h]
  exact if_neg (by decide)
theorem RelO.isSome_eq {o : Option V} {u : Option Value} (r : RelO o u) : o.isSome = u.isSome := by
  cases o with
  | none => cases u with
    | none => rfl
    | some _ => exact (show False from r).elim
  | some _ => cases u with
    | none => exact (show False from r).elim
    | some _ => rfl
theorem KV.val {kvs : List (κ × V)} {vs : List (κ × Value)} (r : KV kvs vs) (k : κ) : RelO (valV kvs k) (valueAt vs k) := by
  unfold KV at r
  induction r with
  | nil => exact True.intro
  | @cons p q ps qs h t ih =>
    obtain ⟨h1, h2⟩ := h
    by_cases e : p.1 = k
    · have e' : q.1 = k := h1.symm.trans e
      have b : valueAt (q :: qs) k = some q.2 := by simp [valueAt, List.find?_cons, e']
      rw [valV_pos e, b]; exact h2
    · have e' : ¬ q.1 = k := fun z => e (h1.trans z)
      have b : valueAt (q :: qs) k = valueAt qs k := by simp [valueAt, List.find?_cons, e']
      rw [valV_neg e, b]; exact ih
theorem KV.any {kvs : List (κ × V)} {vs : List (κ × Value)} (r : KV kvs vs) (k : κ) : (kvs.any fun kv => decide (kv.1 = k)) = vs.any fun kv => decide (kv.1 = k) := by
  unfold KV at r
  induction r with
  | nil => rfl
  | cons h t ih => rw [List.any_cons, List.any_cons, ih, h.1]
theorem KV.repl {kvs : List (κ × V)} {vs : List (κ × Value)} (r : KV kvs vs) (k : κ) {y : V} {u : Value} (ry : RelV y u) :
    KV (kvs.map fun kv => if kv.1 = k then (kv.1, y) else kv) (vs.map fun kv => if kv.1 = k then (kv.1, u) else kv) := by
  unfold KV at r ⊢
  induction r with
  | nil => exact .nil
  | @cons p q ps qs h t ih =>
    rw [List.map_cons, List.map_cons]
    refine .cons ?_ ih
    obtain ⟨h1, h2⟩ := h
    by_cases e : p.1 = k
    · rw [if_pos e, if_pos (h1.symm.trans e)]; exact ⟨h1, ry⟩
    · rw [if_neg e, if_neg (fun z => e (h1.trans z))]; exact ⟨h1, h2⟩
theorem KV.put {kvs : List (κ × V)} {vs : List (κ × Value)} (r : KV kvs vs) (k : κ) {y : V} {u : Value} (ry : RelV y u) : KV (putK kvs k y) (stored vs k u) := by
  unfold putK stored
  rw [r.any k]
  by_cases e : (vs.any fun kv => decide (kv.1 = k)) = true
  · rw [if_pos e, if_pos e]; exact r.repl k ry
  · rw [if_neg e, if_neg e]; exact Paired.snoc r ⟨rfl, ry⟩
theorem KV.length {kvs : List (κ × V)} {vs : List (κ × Value)} (r : KV kvs vs) : kvs.length = vs.length := Paired.length r
end
theorem kV_is {P : Program} {w : World} {k : Key} {u : Value} (r : RelV (kV k) u) : (mixKind P w).is k u = true := by
  cases k with
  | inl i => obtain ⟨t, e⟩ := (show ∃ t, u = Value.int i t from r); subst e; exact mixKind_int P w i t
  | inr x => obtain ⟨t, e⟩ := (show ∃ t, u = Value.str x t from r); subst e; exact mixKind_str P w x t
theorem items_are {P : Program} {w : World} : ∀ {ks : List Key} {us : List Value}, Vals (ks.map kV) us → ItemsAre (mixKind P w) ks us
  | [], _, r => by rw [List.map_nil] at r; cases r; exact .nil
  | k :: ks, _, r => by
    rw [List.map_cons] at r
    cases r with
    | cons h t => exact .cons (kV_is h) (items_are t)
noncomputable abbrev KT (H : Hp) : List (List Key × V) → List (List Key × Addr × Value) → Prop := Paired fun p q => p.1 = q.1 ∧ H q.2.1 = some (.tup (p.1.map kV)) ∧ RelV p.2 q.2.2
theorem KT.val {H : Hp} {kvs : List (List Key × V)} {xs : List (List Key × Addr × Value)} (r : KT H kvs xs) (k : List Key) : RelO (valV kvs k) ((atKey xs k).map (·.2)) := by
  induction r with
  | nil => exact True.intro
  | @cons p q ps qs h t ih =>
    obtain ⟨h1, _, h2⟩ := h
    by_cases e : p.1 = k
    · have e' : q.1 = k := h1.symm.trans e
      have b : atKey (q :: qs) k = some q.2 := by simp [atKey, List.find?_cons, e']
      rw [valV_pos e, b]; exact h2
    · have e' : ¬ q.1 = k := fun z => e (h1.trans z)
      have b : atKey (q :: qs) k = atKey qs k := by simp [atKey, List.find?_cons, e']
      rw [valV_neg e, b]; exact ih
theorem KT.repl {H : Hp} {kvs : List (List Key × V)} {xs : List (List Key × Addr × Value)} (r : KT H kvs xs) (k : List Key) {y : V} {u : Value} (ry : RelV y u) :
    KT H (kvs.map fun kv => if kv.1 = k then (kv.1, y) else kv) (xs.map (putAt k u)) := by
  induction r with
  | nil => exact .nil
  | @cons p q ps qs h t ih =>
    rw [List.map_cons, List.map_cons]
    refine .cons ?_ ih
    obtain ⟨h1, h2, h3⟩ := h
    unfold putAt
    by_cases e : p.1 = k
    · rw [if_pos e, if_pos (h1.symm.trans e)]; exact ⟨h1, h2, ry⟩
    · rw [if_neg e, if_neg (fun z => e (h1.trans z))]; exact ⟨h1, h2, h3⟩
theorem KT.put {H : Hp} {kvs : List (List Key × V)} {xs : List (List Key × Addr × Value)} (r : KT H kvs xs) (k : List Key) {b : Addr} {y : V} {u : Value} (hb : H b = some (.tup (k.map kV))) (ry : RelV y u) :
    KT H (putK kvs k y) (storedH xs k b u) := by
  have e : (kvs.any fun kv => decide (kv.1 = k)) = (atKey xs k).isSome := by
    rw [valV_any, (r.val k).isSome_eq, Option.isSome_map]
  unfold putK storedH
  rw [e]
  by_cases q : (atKey xs k).isSome = true
  · rw [if_pos q, if_pos q]; exact r.repl k ry
  · rw [if_neg q, if_neg q]; exact Paired.snoc r ⟨rfl, hb, ry⟩
theorem KT.keeps {H H' : Hp} {kvs : List (List Key × V)} {xs : List (List Key × Addr × Value)} (r : KT H kvs xs) (ht : ∀ b ys, H b = some (.tup ys) → H' b = some (.tup ys)) : KT H' kvs xs :=
  Paired.mapP r fun _ _ z => ⟨z.1, ht _ _ z.2.1, z.2.2⟩
section
variable {P : Program} {w : World} {H : Hp} {h : Heap} {a : Addr}
theorem rd_of {u : HO} (ok : HOk P w H h) (e : Rd H a u) : ObjOk P w H h a u := e.ok ok
theorem dk_rd {kvs : List (Key × V)} (ok : HOk P w H h) (e : Rd H a (.dK kvs)) : kvs.length ≤ sizeLine ∧ (a == sysModules) = false ∧ ∃ vs, KV kvs vs ∧ h.DictOf (mixKind P w) a vs :=
  show ObjOk P w H h a (.dK kvs) from rd_of ok e
theorem dk_of {kvs : List (Key × V)} (ok : HOk P w H h) (e : H a = some (.dK kvs)) : kvs.length ≤ sizeLine ∧ (a == sysModules) = false ∧ ∃ vs, KV kvs vs ∧ h.DictOf (mixKind P w) a vs := dk_rd ok (.inl e)
theorem key_of {ks : List Key} (ok : HOk P w H h) (e : H a = some (.tup (ks.map kV))) : (tupleKind (mixKind P w)).is h ks a := by
  obtain ⟨_, its, r, o, h1, h2, n, h3⟩ := (show ObjOk P w H h a (.tup (ks.map kV)) from ok a _ e)
  exact ⟨o, its.toArray, n, h1, h2, h3, by simpa using items_are r⟩
theorem dt_rd {kvs : List (List Key × V)} (ok : HOk P w H h) (e : Rd H a (.dT kvs)) : kvs.length ≤ sizeLine ∧ (a == sysModules) = false ∧
    ∃ xs, KT H kvs xs ∧ h.DictOfH (tupleKind (mixKind P w)) a xs := by
  obtain ⟨z, y, xs, r, o, es, ep, h1, h2, h3, h4, h5⟩ := (show ObjOk P w H h a (.dT kvs) from rd_of ok e)
  refine ⟨z, y, xs, r, o, es, ep, h1, h2, h3, h4, fun x hx => ?_, h5⟩
  have all : ∀ {l : List (List Key × V)} {m : List (List Key × Addr × Value)}, KT H l m → ∀ x ∈ m, (tupleKind (mixKind P w)).is h x.1 x.2.1 := by
    intro l m q
    induction q with
    | nil => intro x hx; exact nomatch hx
    | @cons p q ps qs hq t ih =>
      intro x hx
      rcases List.mem_cons.mp hx with e | hx
      · subst e
        exact key_of ok (by rw [← hq.1]; exact hq.2.1)
      · exact ih x hx
  exact all r x hx
theorem dt_of {kvs : List (List Key × V)} (ok : HOk P w H h) (e : H a = some (.dT kvs)) : kvs.length ≤ sizeLine ∧ (a == sysModules) = false ∧
    ∃ xs, KT H kvs xs ∧ h.DictOfH (tupleKind (mixKind P w)) a xs := dt_rd ok (.inl e)
end
noncomputable def DGet (H : Hp) (a : Addr) (y : V) (r : Option V) : Prop :=
  (∃ kvs k, Rd H a (.dK kvs) ∧ y = kV k ∧ r = valV kvs k) ∨ ∃ kvs k b, Rd H a (.dT kvs) ∧ y = .ref b ∧ H b = some (.tup (k.map kV)) ∧ r = valV kvs k
noncomputable def DPut (H : Hp) (a : Addr) (y v : V) (H' : Hp) : Prop :=
  (∃ kvs k, H a = some (.dK kvs) ∧ y = kV k ∧ kvs.length < sizeLine ∧ H' = upd H a (.dK (putK kvs k v))) ∨
  ∃ kvs k b, H a = some (.dT kvs) ∧ y = .ref b ∧ H b = some (.tup (k.map kV)) ∧ kvs.length < sizeLine ∧ H' = upd H a (.dT (putK kvs k v))
section
variable {X : Cx} {pins : List (Addr × Obj)} {σ : St} {H : Hp} {s : Shared} {a : Addr} {y v : V} {u r : Value} {o : Option V} {A : Around} {E : Value → Shared → Prop}
theorem Inv.big (I : Inv X pins σ H s) : sysModules < s.heap.objs.size := by
  have h : mainGlobals < s.heap.objs.size := (I.mod.glob.keeps I.bk).lt
  exact Nat.lt_trans (by decide) h
theorem d_getItem {Q : Value → Shared → Prop} (hu : A.units + 1 < cLine) (I : Inv X pins σ H s) (g : DGet H a y (some v)) (ry : RelV y u) (h : ∀ w' s', Inv X pins σ H s' → RelV v w' → Q w' s') :
    wpAny (model X.prog X.w) A (getItem (.ref a) u) Q E s := by
  rcases g with ⟨kvs, k, e, ey, l⟩ | ⟨kvs, k, b, e, ey, eb, l⟩
  · subst ey
    obtain ⟨z, hd, vs, rel, dd⟩ := dk_rd I.hok e
    obtain ⟨w', hw, rw'⟩ := RelO.some_of (v := v) (o := valueAt vs k) (by rw [l]; exact rel.val k)
    exact wpAny_getItem_of (kV_is ry) dd.mapOf hw (h w' _ (I.tok _) rw')
  · subst ey
    cases (show u = Value.ref b from ry)
    obtain ⟨z, hd, xs, rel, dd⟩ := dt_rd I.hok e
    obtain ⟨w', hw, rw'⟩ := RelO.some_of (v := v) (o := (atKey xs k).map (·.2)) (by rw [l]; exact rel.val k)
    obtain ⟨p, hp, hp2⟩ := Option.map_eq_some_iff.mp hw
    refine wpAny_getItem_heap (tupleKind_room_in1 hu) (key_of I.hok eb) dd hp ?_
    rw [hp2]
    exact h w' _ (I.tok _) rw'
theorem d_write {h' : Heap} {t' : Nat} {ob : HO} (I : Inv X pins σ H s) (mu : Mut (H a)) (hs : Heap.SameBut a s.heap h') (he : ∃ q, h'.get? a = some q) (new : ObjOk X.prog X.w (upd H a ob) h' a ob) :
    Inv X pins σ (upd H a ob) { s with heap := h', toks := t' } :=
  I.write (x := a) (e := a) mu (.inl rfl) (fun b q hb z => (hs.2 b hb).trans z) he new
theorem dk_new {P : Program} {w : World} {H' : Hp} {h' : Heap} {kvs : List (Key × V)} {vs : List (Key × Value)} (z : kvs.length ≤ sizeLine) (hd : (a == sysModules) = false) (rel : KV kvs vs) (dd : h'.DictOf (mixKind P w) a vs) :
    ObjOk P w H' h' a (.dK kvs) := ⟨z, hd, vs, rel, dd⟩
theorem d_setItem {H' : Hp} {Q : Unit → Shared → Prop} (hu : A.units + 1 < cLine) (I : Inv X pins σ H s) (g : DPut H a y v H') (ry : RelV y u) (rv : RelV v r) (h : ∀ s', Inv X pins σ H' s' → Q () s') :
    wpAny (model X.prog X.w) A (setItem (.ref a) u r) Q E s := by
  rcases g with ⟨kvs, k, e, ey, l, eH⟩ | ⟨kvs, k, b, e, ey, eb, l, eH⟩
  · subst ey eH
    obtain ⟨z, hd, vs, rel, dd⟩ := dk_of I.hok e
    have hz : vs.length ≤ sizeLine := by rw [← rel.length]; exact z
    have hl : (putK kvs k v).length ≤ sizeLine := by have := length_putK kvs k v; omega
    refine wpAny_setItem_pairs (hsz := hz) (kV_is ry) dd fun h' dd' hs => h _ ?_
    have he : ∃ q, h'.get? a = some q := let ⟨q, _, _, hq, _⟩ := dd'; ⟨q, hq⟩
    exact d_write I (by rw [e]; exact True.intro) hs he (dk_new hl hd (rel.put k rv) dd')
  · subst ey eH
    cases (show u = Value.ref b from ry)
    obtain ⟨z, hd, xs, rel, dd⟩ := dt_of I.hok e
    have hz : xs.length ≤ sizeLine := by rw [← Paired.length rel]; exact z
    have hl : (putK kvs k v).length ≤ sizeLine := by have := length_putK kvs k v; omega
    refine wpAny_setItem_heap (hsz := hz) (tupleKind_room_in1 hu) (key_of I.hok eb) dd fun h' dd' hs => h _ ?_
    obtain ⟨q, es, ep, hq, h2, h3, h4, _, h5⟩ := dd'
    refine d_write I (by rw [e]; exact True.intro) hs ⟨q, hq⟩ ⟨hl, hd, _, (rel.put k eb rv).keeps fun c ys ec => ?_, q, es, ep, hq, h2, h3, h4, h5⟩
    rw [upd_ne (ne_of ec e (fun z => nomatch z))]
    exact ec
end
noncomputable def NoSl (i : Expr) : Prop := ∀ ov iv, subscripted i false ov iv = operate [ov, iv] (getItem ov iv)
theorem subD_of {prog : Program} {w : World} {A : Around} {E : Value → Shared → Prop} {s : Shared} {env : Env} {value slice : Expr} {pos : Pos} {T id : String} {Q : Value → Shared → Prop}
    (hl : typeLookup (.type T) "__getitem__" = pure (some (.builtin id))) (hs : NoSl slice)
    (h : wpAny (model prog w) A (eval value env) (fun o s₁ => wpAny (model prog w) A (eval slice env) (fun i s₂ => s₂.TypeIs o T ∧ wpAny (model prog w) A (getItem o i) Q E s₂) E s₁) E s) :
    wpAny (model prog w) A (eval (.Subscript value slice pos) env) Q E s := by
  refine Subscript_ (wpAny_mono h (fun o s₁ h₁ => wpAny_mono h₁ (fun i s₂ h₂ => ?_) fun _ _ x => x) fun _ _ x => x)
  obtain ⟨hT, h₂⟩ := h₂
  unfold subscriptTail
  refine wpAny_bind ?_
  rw [getitemInPython_of_ne hT.not_modules]
  refine wpAny_bind (wpAny_specialOf hT hl ?_)
  have fin : wpAny (model prog w) A (subscripted slice false o i) (fun r s₃ => wpAny (model prog w) A (letTemporaryGo value o r >>= fun _ => pure r) Q E s₃) E s₂ := by
    rw [hs o i]
    exact wpAny_operating (wpAny_mono h₂ (fun r s₃ h₃ => wpAny_bind (wpAny_letTemporaryGo (wpAny_pure h₃))) fun _ _ x => x)
  first
    | exact wpAny_pure (wpAny_bind fin)
    | exact wpAny_bind (wpAny_pure (wpAny_bind fin))
    | exact wpAny_bind fin
theorem dict_typeIs {X : Cx} {pins : List (Addr × Obj)} {σ : St} {H : Hp} {s : Shared} {a : Addr} {y : V} {o : Option V} (I : Inv X pins σ H s) (g : DGet H a y o) : s.TypeIs (.ref a) "dict" := by
  rcases g with ⟨kvs, k, e, _, _⟩ | ⟨kvs, k, b, e, _, _, _⟩
  · obtain ⟨_, _, vs, _, dd⟩ := dk_rd I.hok e
    exact dd.typeIs
  · obtain ⟨_, _, xs, _, dd⟩ := dt_rd I.hok e
    exact dd.typeIs
theorem dk_empty {P : Program} {w : World} {H : Hp} (h : Heap) (hb : sysModules < h.objs.size) : ObjOk P w H (h.push { cls := .type "dict", data := .dict #[] }) h.objs.size (.dK []) :=
  ⟨Nat.zero_le _, beq_eq_false_iff_ne.mpr (Ne.symm (Nat.ne_of_lt hb)), [], .nil, Heap.DictOf.new h⟩
noncomputable def tPairs : List (TE × TE) → St → Hp → (List (V × V) → Hp → Prop) → Prop
  | [], _, H, Q => Q [] H
  | (tk, tv) :: r, σ, H, Q => tk σ H fun x H1 => tv σ H1 fun y H2 => tPairs r σ H2 fun ps H3 => Q ((x, y) :: ps) H3
noncomputable abbrev VV : List (V × V) → List (Value × Value) → Prop := Paired fun p q => RelV p.1 q.1 ∧ RelV p.2 q.2
noncomputable def PPs (X : Cx) (pos : Pos) (keys : List (Option Expr)) (values : List Expr) (trs : List (TE × TE)) : Prop :=
  ∀ (pins : List (Addr × Obj)) (s : Shared) (σ : St) (H : Hp) (Q : List (V × V) → Hp → Prop), Inv X pins σ H s → tPairs trs σ H Q →
    wpAny (model X.prog X.w) X.A (evalPairs (pairTrees keys values X.env pos)) (fun vs s' => ∃ ps H', Inv X pins σ H' s' ∧ VV ps vs ∧ Q ps H') X.xe s
theorem pps_nil {X : Cx} {pos : Pos} : PPs X pos [] [] [] := fun pins s σ H Q I h => pairTrees_nil_walk ⟨[], H, I, .nil, h⟩
theorem pps_cons {X : Cx} {pos : Pos} {k v : Expr} {ks : List (Option Expr)} {vs : List Expr} {tk tv : TE} {trs : List (TE × TE)} (hk : PE X k tk) (hv : PE X v tv) (hr : PPs X pos ks vs trs) :
    PPs X pos (some k :: ks) (v :: vs) ((tk, tv) :: trs) := fun pins s σ H Q I h =>
  pairTrees_cons_walk (thn (hk pins s σ H _ I h) fun u s1 ⟨x, H1, I1, rx, q1⟩ => thn (hv pins s1 σ H1 _ I1 q1) fun w2 s2 ⟨y, H2, I2, ry, q2⟩ =>
    thn (hr pins s2 σ H2 _ I2 q2) fun ws s3 zq7 => by obtain ⟨ps, H3, I3, rel, q3⟩ := zq7; exact (⟨(x, y) :: ps, H3, I3, .cons ⟨rx, ry⟩ rel, q3⟩))
noncomputable def mergeK (kvs more : List (Key × V)) : List (Key × V) := more.foldl (fun acc kv => putK acc kv.1 kv.2) kvs
theorem KV.merge : ∀ {more : List (Key × V)} {rs : List (Key × Value)} {kvs : List (Key × V)} {vs : List (Key × Value)}, KV more rs → KV kvs vs → KV (mergeK kvs more) (merged vs rs) := by
  intro more rs kvs vs r
  unfold KV at r
  induction r generalizing kvs vs with
  | nil => intro q; exact q
  | @cons p q ps qs h t ih =>
    intro r0
    have e : KV (putK kvs p.1 p.2) (stored vs q.1 q.2) := by
      have := r0.put p.1 h.2
      rw [← h.1]; exact this
    exact ih e
theorem length_mergeK : ∀ (more kvs : List (Key × V)), (mergeK kvs more).length ≤ kvs.length + more.length
  | [], kvs => by show kvs.length ≤ kvs.length + 0; omega
  | p :: r, kvs => by
    have h1 := length_mergeK r (putK kvs p.1 p.2)
    have h2 := length_putK kvs p.1 p.2
    show (mergeK (putK kvs p.1 p.2) r).length ≤ _
    rw [List.length_cons]; omega
theorem carries_of {P : Program} {w : World} : ∀ {kvs : List (Key × V)} {ws : List (Value × Value)}, VV (kvs.map fun kv => (kV kv.1, kv.2)) ws → ∃ rs, Carries (mixKind P w) ws rs ∧ KV kvs rs
  | [], _, r => by rw [List.map_nil] at r; cases r; exact ⟨[], True.intro, .nil⟩
  | p :: kvs, _, r => by
    rw [List.map_cons] at r
    cases r with
    | @cons a b as bs h t =>
      obtain ⟨rs, c, q⟩ := carries_of (P := P) (w := w) t
      obtain ⟨b1, b2⟩ := b
      exact ⟨(p.1, b2) :: rs, ⟨kV_is h.1, rfl, c⟩, .cons ⟨rfl, h.2⟩ q⟩
noncomputable def tDisp (trs : List (TE × TE)) : TE := fun σ H Q => ∀ p, H p = none → tPairs trs σ (upd H p (.dK [])) fun ps H2 => H2 p = some (.dK []) ∧ ∃ kvs : List (Key × V), ps = kvs.map (fun kv => (kV kv.1, kv.2)) ∧ kvs.length ≤ 15 ∧ Q (.ref p) (upd H2 p (.dK (mergeK [] kvs)))
theorem pe_disp {X : Cx} {pos : Pos} {keys : List (Option Expr)} {values : List Expr} {trs : List (TE × TE)} (h : PPs X pos keys values trs) (hall : keys.all (·.isSome) = true) (hl : keys.length = values.length) (h0 : keys ≠ [])
    (h15 : keys.length ≤ 15) : PE X (.Dict keys values pos) (tDisp trs) := by
  intro pins s σ H Q I q
  have hn := I.hok.fresh (Nat.le_refl s.heap.objs.size)
  have I1 := I.laid (a := s.heap.objs.size) (o := .dK []) (h' := s.heap.push { cls := .type "dict", data := .dict #[] }) (t' := s.toks) (fun _ _ q => Heap.get?_push_of_some _ q) (Nat.le_refl _) (dk_empty s.heap I.big)
  refine wpAny_Dict_walk (knd := mixKind X.prog X.w) hall hl h0 h15 (thn (h pins _ σ _ _ I1 (q _ hn)) fun ws s2 zr2842 => ?_)
  obtain ⟨ps, H2, I2, rel, e, kvs, ep, lk, q2⟩ := zr2842
  subst ep
  obtain ⟨rs, c, rk⟩ := carries_of (P := X.prog) (w := X.w) rel
  obtain ⟨z, hd, vs0, r0, dd⟩ := dk_of I2.hok e
  cases r0
  refine ⟨rs, c, dd, fun h' dd' hs => ⟨.ref s.heap.objs.size, _, ?_, rfl, q2⟩⟩
  have hz : (mergeK [] kvs).length ≤ sizeLine := by
    have h1 := length_mergeK kvs []
    rw [List.length_nil] at h1
    rw [sizeLine_eq]; omega
  have he : ∃ q, h'.get? s.heap.objs.size = some q := let ⟨q, _, _, hq, _⟩ := dd'; ⟨q, hq⟩
  exact d_write I2 (by rw [e]; exact True.intro) hs he (dk_new hz hd (rk.merge .nil) dd')
structure M1 (X : Cx) (o : Expr) (m : Str) (apos : Pos) (e : Expr) (cpos : Pos) : Prop where
  base : attributeBase o m X.env (eval o X.env) = eval o X.env
  few : ((backTo cpos (starEach [e] X.env)).all (fun x => !x.1) && (backToKw cpos (keywordEach [] X.env)).all (fun x => x.1.isSome)
    && decide (([e] : List Expr).length + ([] : List Keyword).length + (if ([] : List Keyword).isEmpty then 0 else 1) < 30)) = true
  line : (apos.endLine == cpos.line) = true
  trees : backTo cpos (starEach [e] X.env) = [(false, eval e X.env)]
noncomputable def IsD (H : Hp) (a : Addr) : Prop := (∃ kvs, Rd H a (.dK kvs)) ∨ ∃ kvs, Rd H a (.dT kvs)
theorem isD_at {X : Cx} {pins : List (Addr × Obj)} {σ : St} {H : Hp} {s : Shared} {a : Addr} (I : Inv X pins σ H s) (d : IsD H a) :
    s.TypeIs (.ref a) "dict" ∧ (∀ b, Value.ref a = .ref b → ∃ ob, s.heap.get? b = some ob ∧ ob.dict = none) ∧ (a == sysModules) = false := by
  rcases d with ⟨kvs, e⟩ | ⟨kvs, e⟩
  · obtain ⟨_, hd, vs, _, dd⟩ := dk_rd I.hok e
    refine ⟨dd.typeIs, fun b q => ?_, hd⟩
    cases q
    obtain ⟨ob, _, _, h1, h2, _⟩ := dd
    exact ⟨ob, h1, h2.2.1⟩
  · obtain ⟨_, hd, xs, _, dd⟩ := dt_rd I.hok e
    refine ⟨dd.typeIs, fun b q => ?_, hd⟩
    cases q
    obtain ⟨ob, _, _, h1, h2, _⟩ := dd
    exact ⟨ob, h1, h2.2.1⟩
end L2
namespace Att
open PySem PySem.W PySem.Calls PyProof.Rows
theorem ints_of_wellAll {P : Params} {h : Heap} : ∀ (ns : List Int) (vs : List Value), WellAll P h vs (ns.map WData.int) → IntsAre vs ns := by
  intro ns
  induction ns with
  | nil =>
    intro vs w
    rw [List.map_nil] at w
    cases w
    exact .nil
  | cons n ns ih =>
    intro vs w
    rw [List.map_cons] at w
    cases w with
    | cons a b =>
      cases a
      exact .cons _ _ (ih _ b)
theorem script_of {l : OpenLaw} {n : Nat} (hn : l.most = some n) {P : Params} {h : Heap} {args : List WData} {vals : List Value}
    (hpre : l.row.toRowW.claim.pre args = true) (hwl : WellAll P h vals args) :
    ∃ a vs ns, vals = [Value.ref a] ∧ args = [WData.list (ns.map WData.int)] ∧ h.get? a = some { cls := .type "list", data := .seq vs.toArray } ∧ IntsAre vs ns ∧ ns.length ≤ n := by
  have hsh : WShape.hasAll [] args [.list .int] = true := (pre_splitW hpre).1
  have hc : l.pre.holds [] { args := args } = true := (pre_splitW hpre).2
  obtain ⟨d, r, rfl, h1, h2⟩ := hasAllW_cons hsh
  obtain rfl := hasAllW_nil h2
  obtain ⟨xs, rfl, h3⟩ := hasW_list h1
  obtain ⟨ns, rfl⟩ := items_int h3
  have hlen : ns.length ≤ n := by
    unfold OpenLaw.pre at hc
    have h4 : (WTm.not (.lt (.lit (.int (n : Int))) (.len (.arg 0)))).holds [] { args := [.list (ns.map .int)] } = true := by
      have h4 := (holds_andW hc).1
      rw [hn] at h4
      exact h4
    have h5 := condW_of h4 (w_not (w_lt w_lit (w_len_list (w_arg rfl))))
    rw [List.length_map] at h5
    refine Nat.le_of_not_lt fun q => ?_
    have q' : (n : Int) < ((ns.length : Nat) : Int) := by omega
    first
      | (rw [decide_eq_true q'] at h5; exact absurd h5 (by decide))
      | (simp at h5; omega)
  cases hwl with
  | cons w1 w2 =>
    cases w2
    cases w1 with
    | list ho hall => exact ⟨_, _, ns, rfl, rfl, ho, ints_of_wellAll ns _ hall, hlen⟩
theorem post_true (l : OpenLaw) (args : List WData) : l.row.toRowW.claim.post args (.bool true) args = true :=
  postW_of (r := l.row.toRowW) (X := (true == true))
    (show WShape.has [] (.bool true) .bool = true by first | rfl | decide | simp [WShape.has, WShape.arms, WShape.armsAll])
    (show (WTm.eq .res (.lit (.bool true))).value [] { args := args, res := some (.bool true), after := args } = some (.bool (true == true)) from w_eq_bool (w_res rfl) w_lit) rfl
theorem attach_call {l : OpenLaw} {n : Nat} {q : Program} {loose : List Str} {XP : (Str → Option Value) → Heap → Prop} {YP : World → Heap → Prop} {d : DefRec}
    (hn : l.most = some n) (hdf : d.params.defaults = [])
    (call : ∀ (w : World) (s₀ s₁ : Shared) (mg mb : Str → Option Value) (fa : Addr) (o : Obj) (pm cd doc : Value) (a : Addr) (vs : List Value) (ns : List Int),
      Ground q loose [] XP w s₀ mg mb s₁.heap → YP w s₁.heap →
      s₁.heap.get? fa = some o → o.data = .func (docDef d.name d.params d.body d.scope pm cd doc) → s₁.heap.CodeRec cd d.name → mg d.name = some (.ref fa) →
      s₁.heap.get? a = some { cls := .type "list", data := .seq vs.toArray } → IntsAre vs ns → ns.length ≤ n → s₁.gens = #[] →
      codeAny (model l.prog w) callerA (.call (.ref fa) ⟨[.ref a], []⟩) (fun r s' => r = .ok (.ret (.bool true)) ∧ OldK s₁.heap s'.heap ∧ s'.os = s₁.os ∧ AllBare s'.gens) s₁) :
    WalkO q loose XP YP l.row.toRowW d [] (fun f vs => PySem.call f vs) := by
  intro w s₀ s₁ mg mb G Y fa o pm cd doc dV kV ho hd hcd hD hmg hg args vals as hpre hlay hrd hwl hlo
  obtain rfl : dV = .none := Dflts.none hD hdf
  obtain rfl : kV = .none := Dflts.noKw hD
  obtain ⟨a, vs, ns, rfl, rfl, hobj, hints, hlen⟩ := script_of hn hpre hwl
  refine enter_call (codeAny_mono (call w s₀ s₁ mg mb fa o pm cd doc a vs ns G Y ho (fd_plain hd) hcd hmg hobj hints hlen hg) fun r s' hq => ?_)
  obtain ⟨rfl, h2, h3, h4⟩ := hq
  exact ⟨.inl ⟨.bool true, .bool true, [], rfl, fun _ => rfl, .bool true, post_true l _, fun _ => ⟨List.Pairwise.nil, fun _ hm => (nomatch hm)⟩⟩, h2, h3, h4⟩
end Att
namespace L2
open PySem PySem.Spec PyProof.Rows
theorem vals_ints : ∀ {vs : List Value} {ns : List Int}, IntsAre vs ns → Vals (ns.map V.int) vs
  | _, _, .nil => .nil
  | _, _, .cons n t h => .cons ⟨t, rfl⟩ (vals_ints h)
end L2
namespace L2
open PySem PySem.Spec PyProof.Rows
noncomputable def defArgs (s : Stmt) : Arguments := match s with
  | .FunctionDef _ a _ _ _ _ _ _ _ _ => a
  | _ => { posonlyargs := [], args := [], vararg := none, kwonlyargs := [], kw_defaults := [], kwarg := none, defaults := [] }
noncomputable def defBody (s : Stmt) : List Stmt := match s with
  | .FunctionDef _ _ b _ _ _ _ _ _ _ => b
  | _ => []
noncomputable def defScope (s : Stmt) : Scope := match s with
  | .FunctionDef _ _ _ _ _ _ sc _ _ _ => sc
  | _ => { kind := .function, names := [], isGenerator := false, isCoroutine := false }
noncomputable abbrev CX0 : CXT := fun _ _ _ _ _ _ => False
noncomputable abbrev E0 : XK := fun _ _ _ => False
theorem pass0 {X : Cx} : Passes CX0 X E0 := fun _ _ _ _ _ _ _ h => h.elim
structure Fun (K : PySem.W.Frag) (x qual : Str) (st : Stmt) (f : Addr) (fd : FuncData) : Prop where
  ex : ∃ (oc : Value) (od : Option Addr) (kV doc pm : Value) (an : Option Addr) (cdv ct : Value) (osl : Array (Option Value)),
    fd = PySem.W.fnOf x qual (defArgs st) (defBody st) (defScope st) .none kV doc pm an cdv ct ∧ K.lookup f = some ⟨oc, od, .func fd, osl⟩ ∧ PySem.W.codeIn K cdv qual = true
  kp : PySem.W.keepIn K (.ref f) = true
section
variable {P : Program} {w : World} {K : PySem.W.Frag} {mg : Str → Option Value} {base : Heap}
theorem Fun.ok {x qual : Str} {st : Stmt} {f : Addr} {fd : FuncData} {N ps : List Str} {k : Nat} {sp : Sp} (F : Fun K x qual st f fd) (S : FnScope N ps (defScope st)) (len : ∀ vs H Q E, sp vs H Q E → vs.length = ps.length)
    (hbody : ∀ (cdv : Value) (A : Around) (outer : List Env) (s : Shared) (H : Hp) (vs : List V) (Q : VK) (E : XK), Room k (A.deeper (envOfC qual (defScope st) s.heap.objs.size f cdv)) → sp vs H Q E →
      ∃ t, PSs (cxOf CX0 P w K mg base N qual (defScope st) f cdv A outer s H E).nox (defBody st) t ∧ t { nx := fun _ H' => Q .non H', rt := Q } (start N vs) H) : FnOk P w K mg base CX0 (k + 1) f fd ps sp := by
  obtain ⟨oc, od, kV, doc, pm, an, cdv, ct, osl, rfl, lk, hcd⟩ := F.ex
  refine fn_of lk hcd S len fun A outer s H vs Q E hr hsp => ?_
  obtain ⟨t, h, q⟩ := hbody cdv A outer s H vs Q E hr hsp
  exact ⟨t, h.nox, q⟩
theorem Fun.binds {x qual : Str} {st : Stmt} {f : Addr} {fd : FuncData} {ps : List Str} (F : Fun K x qual st f fd)
    (h : ∀ (kV doc pm : Value) (an : Option Addr) (cdv ct : Value) (us : List Value), us.length = ps.length → bindArgs (PySem.W.fnOf x qual (defArgs st) (defBody st) (defScope st) .none kV doc pm an cdv ct) ⟨us, []⟩ = pure (ps.zip us)) : Binds K fd ps [] := by
  obtain ⟨oc, od, kV, doc, pm, an, cdv, ct, osl, rfl, lk, hcd⟩ := F.ex
  exact .all (h kV doc pm an cdv ct)
theorem fun_mk {x qual : Str} {st : Stmt} {f : Addr} {oc : Value} {od an : Option Addr} {osl : Array (Option Value)} {kV doc pm cdv ct : Value} (l : K.lookup f = some ⟨oc, od, .func (PySem.W.fnOf x qual (defArgs st) (defBody st) (defScope st) .none kV doc pm an cdv ct), osl⟩)
    (c : PySem.W.codeIn K cdv qual = true) (k : PySem.W.keepIn K (.ref f) = true) : Fun K x qual st f (PySem.W.fnOf x qual (defArgs st) (defBody st) (defScope st) .none kV doc pm an cdv ct) := ⟨⟨oc, od, kV, doc, pm, an, cdv, ct, osl, rfl, l, c⟩, k⟩
end
theorem hu_of {A : Around} {k : Nat} (hr : Room k A) : A.units + 1 < cLine := Nat.lt_of_le_of_lt (Nat.add_le_add_left (by decide : 1 ≤ 64) _) hr.units
theorem small1000 {n : Nat} (h : n ≤ 1000) : n < sizeLine := Nat.lt_of_le_of_lt h (by decide)
theorem ite2 {c A B : Prop} [Decidable c] (h1 : c → A) (h2 : ¬ c → B) : if c then A else B := by
  by_cases h : c
  · rw [if_pos h]
    exact h1 h
  · rw [if_neg h]
    exact h2 h
noncomputable def Same (H H' : Hp) : Prop := ∀ b o, H b = some o → H' b = some o
theorem Same.refl (H : Hp) : Same H H := fun _ _ h => h
theorem Same.trans {H H1 H2 : Hp} (a : Same H H1) (b : Same H1 H2) : Same H H2 := fun c o h => b c o (a c o h)
theorem Same.free {H H' : Hp} (e : Same H H') {l : Addr} (h : H' l = Option.none) : H l = Option.none := by
  cases q : H l with
  | none => rfl
  | some o =>
    rw [e l o q] at h
    cases h
theorem Same.seq {K : PySem.W.Frag} {H H' : Hp} {a : Addr} {xs : List V} (e : Same H H') (h : SqL K H a xs) : SqL K H' a xs := by
  rcases h with (h | ⟨o, h⟩) | h
  · exact .inl (.inl (e _ _ h))
  · exact .inl (.inr ⟨o, e _ _ h⟩)
  · exact .inr h
end L2
namespace L2
open PySem PySem.Spec PyProof.Rows
theorem compLoop_any {prog : Program} {w : World} {A : Around} {R : Result → Shared → Prop} {s : Shared} {elt target iter : Expr} {ifs : List Expr} {scope : Scope} {pos : Pos} {it acc : Value} {env : Env} (I : Nat → Shared → Prop)
    (turn : ∀ n s, I n s → wpAny (model prog w) A (pyNext it) (fun r s₁ => match r with
      | none => R (.ok .next) s₁
      | some v => wpAny (model prog w) A (letOwnedTupleGo target it v) (fun _ s₁ => wpAny (model prog w) A (assign target env v) (fun _ s₂ =>
          wpAny (model prog w) A (forIn ifs true fun c r => if r = true then do let ok ← isTrue c env (eval c env); pure (ForInStep.yield ok) else pure (ForInStep.yield r)) (fun ok s₃ =>
            if ok = true then wpAny (model prog w) A (eval elt env) (fun x s₄ =>
              wpAny (model prog w) A (call (.builtin "list.append") [acc, x]) (fun _ s₅ => ∃ m, m < n ∧ I m s₅) (notedBy (model prog w) A env fun e s' => R (.error e) s') s₄) (notedBy (model prog w) A env fun e s' => R (.error e) s') s₃
            else ∃ m, m < n ∧ I m s₃) (notedBy (model prog w) A env fun e s' => R (.error e) s') s₂) (notedBy (model prog w) A env fun e s' => R (.error e) s') s₁) (notedBy (model prog w) A env fun e s' => R (.error e) s') s₁) (notedBy (model prog w) A env fun e s' => R (.error e) s') s)
    (n : Nat) (h : I n s) :
    codeAny (model prog w) A (.compLoop (.ListComp elt [⟨target, iter, ifs, 0⟩] scope pos) 0 it acc env) R s := by
  refine codeAny_loop rfl I (fun n s hI => ?_) n h
  show wpAny _ A ((compTurn (.ListComp elt [⟨target, iter, ifs, 0⟩] scope pos) 0 it acc env).onRaise (fun x => do noteFrame x env; theTreesLotGoes x)) _ _ s
  refine wpAny_noted ?_
  rw [compTurn_list]
  refine wpAny_bind (wpAny_standAt (wpAny_bind (wpAny_mono (turn n s hI) (fun r s₁ h₁ => ?_) fun _ _ h' => h')))
  cases r with
  | none => exact wpAny_pure h₁
  | some v =>
    refine wpAny_bind (wpAny_mono h₁ (fun _ s₁ h₁ => ?_) fun _ _ h' => h')
    refine wpAny_bind (wpAny_mono h₁ (fun _ s₂ h₂ => wpAny_bind (wpAny_mono h₂ (fun ok s₃ h₃ => ?_) fun _ _ h' => h')) fun _ _ h' => h')
    cases ok with
    | false => exact wpAny_pure ⟨rfl, h₃⟩
    | true =>
      exact wpAny_bind (wpAny_bind (wpAny_mono h₃ (fun x s₄ h₄ => wpAny_bind (wpAny_mono h₄ (fun _ s₅ h₅ => wpAny_pure (wpAny_pure ⟨rfl, h₅⟩)) fun _ _ h' => h')) fun _ _ h' => h'))
noncomputable def PTs (X : Cx) (ifs : List Expr) (t : TT) : Prop :=
  ∀ (pins : List (Addr × Obj)) (s : Shared) (σ : St) (H : Hp) (Q : Bool → Hp → Prop), Inv X pins σ H s → t σ H Q →
    wpAny (model X.prog X.w) X.A (forIn ifs true fun c r => if r = true then do let ok ← isTrue c X.env (eval c X.env); pure (ForInStep.yield ok) else pure (ForInStep.yield r)) (TP X pins σ Q) X.xe s
noncomputable def tYes : TT := fun _ H Q => Q true H
theorem pts_nil {X : Cx} : PTs X [] tYes := fun _ _ _ H _ I h => wpAny_tests_nil ⟨H, I, h⟩
theorem closure_of {env : Env} : ∀ (names : List (Str × NameKind)) (acc : List (Str × Addr)), (∀ x ∈ names, x.2 = .free → ∃ c, env.cells.lookup x.1 = some c) →
    ∃ cl, (forIn (m := Sem) names acc fun x r => match x with
      | (name, kind) => if (kind == NameKind.free) = true then do let c ← cellOf env name; pure (ForInStep.yield ((name, c) :: r)) else pure (ForInStep.yield r)) = pure cl ∧
      (∀ x c, cl.lookup x = some c → acc.lookup x = some c ∨ env.cells.lookup x = some c) ∧ (∀ x, (acc.lookup x).isSome = true → (cl.lookup x).isSome = true) ∧ (∀ x, (x, NameKind.free) ∈ names → (cl.lookup x).isSome = true)
  | [], acc, _ => ⟨acc, rfl, fun x c h => .inl h, fun x h => h, fun x h => nomatch h⟩
  | (n, k) :: r, acc, h => by
    by_cases hk : k = .free
    · subst hk
      obtain ⟨c, hc⟩ := h (n, .free) List.mem_cons_self rfl
      obtain ⟨cl, e, h1, h2, h3⟩ := closure_of r ((n, c) :: acc) (fun x hx => h x (List.mem_cons_of_mem _ hx))
      refine ⟨cl, ?_, fun x d hd => ?_, fun x hx => h2 x ?_, fun x hx => ?_⟩
      · simp only [List.forIn_cons, beq_self_eq_true, if_true, cellOf, hc]
        exact e
      · rcases h1 x d hd with q | q
        · simp only [List.lookup_cons] at q
          split at q
          · rename_i hb
            have : x = n := by simpa using hb
            subst this
            cases q
            exact .inr hc
          · exact .inl q
        · exact .inr q
      · simp only [List.lookup_cons]
        split
        · rfl
        · exact hx
      · rcases List.mem_cons.mp hx with q | q
        · cases q
          exact h2 n (by simp)
        · exact h3 x q
    · obtain ⟨cl, e, h1, h2, h3⟩ := closure_of r acc (fun x hx => h x (List.mem_cons_of_mem _ hx))
      refine ⟨cl, ?_, h1, h2, fun x hx => ?_⟩
      · have : (k == NameKind.free) = false := by simpa using hk
        simp only [List.forIn_cons, this, Bool.false_eq_true, if_false]
        exact e
      · rcases List.mem_cons.mp hx with q | q
        · cases q
          exact absurd rfl hk
        · exact h3 x q
noncomputable def compCx (X : Cx) (scope : Scope) (N : List Str) (cl : List (Str × Addr)) (C : Addr) (fp : List Addr) (s : Shared) (H : Hp) (xe : Value → Shared → Prop) : Cx where
  prog := X.prog
  w := X.w
  K := X.K
  mg := X.mg
  base := X.base
  A := X.A
  N := N
  s₀ := s
  H₀ := H
  env := compEnvC scope cl C X.env
  outer := X.stack
  stack := X.stack
  ex := fp
  fn := fun _ => false
  calm := X.calm
  pn := []
  xe := xe
noncomputable def inner (nt : Nat) (js : List Nat) (σ : St) : St := List.replicate nt none ++ js.map fun j => (σ[j]?).join
noncomputable def Wk (σ0 σ2 : St) : Prop := σ0.length = σ2.length ∧ ∀ (i : Nat) v, σ0[i]? = some (some v) → σ2[i]? = some (some v)
noncomputable def TgOk (g : TG) (nt : Nat) : Prop := ∀ (x : V) (σ0 : St) (H : Hp) (Q : St → Hp → Prop), (∀ i, i < nt → σ0[i]? = some none) → g x σ0 H Q → g x σ0 H fun σ2 H2 => Wk σ0 σ2 ∧ Q σ2 H2
theorem Wk.set {σ0 : St} {i : Nat} {v : V} (h : σ0[i]? = some none) : Wk σ0 (σ0.set i (some v)) := by
  refine ⟨by simp, fun j w e => ?_⟩
  by_cases hj : j = i
  · subst hj; rw [h] at e; cases e
  · rw [List.getElem?_set_ne (Ne.symm hj)]; exact e
theorem tgOk_name {i nt : Nat} (hi : i < nt) : TgOk (gName i) nt := fun x σ0 H Q h q => ⟨Wk.set (h i hi), q⟩
theorem inner_none {nt : Nat} {js : List Nat} {σ : St} : ∀ i, i < nt → (inner nt js σ)[i]? = some none := fun i hi => by
  unfold inner
  rw [List.getElem?_append_left (by simpa using hi)]
  simp [hi]
noncomputable def tComp (nt : Nat) (js : List Nat) (wi : TI) (g : TG) (tc : TT) (te : TE) : TE := fun σ H Q => wi σ H fun J H1 => ∀ D, H1 D = none → ∃ W : Nat → Nat → List V → Hp → Prop, (∃ m, W 0 m [] (upd H1 D (.lst []))) ∧
  ∀ i m ys H2, W i m ys H2 → (J.stop i H2 ∧ Q (.ref D) H2) ∨ (J.go i H2 ∧ ∃ N : List V → Hp → Prop, (∀ ys' H', N ys' H' → ∃ m', m' < m ∧ W (i + 1) m' ys' H') ∧
    ∀ x H', J.yld i H2 x H' → g x (inner nt js σ) H' fun σ2 H3 => tc σ2 H3 fun b H4 => if b = true then te σ2 H4 fun y H5 => H5 D = some (.lst ys) ∧ ys.length < sizeLine ∧ N (ys ++ [y]) (upd H5 D (.lst (ys ++ [y]))) else N ys H4)
section
variable {X : Cx}
structure CompOk (X : Cx) (scope : Scope) (N : List Str) (nt : Nat) (js : List Nat) : Prop where
  kind : scope.kind = .function
  nd : N.Nodup
  len : N.length = nt + js.length
  /-- each name of around: its slot there, where it is a cell or free -/
  at_ : ∀ (k : Nat) (j : Nat) (x : Str), js[k]? = some j → N[nt + k]? = some x → X.N[j]? = some x ∧ (X.env.scope.names.lookup x = some .cell ∨ X.env.scope.names.lookup x = some .free)
  frl : ∀ (k : Nat) (x : Str), N[nt + k]? = some x → scope.names.lookup x = some .free
  own : ∀ y ∈ scope.names, y.2 ≠ .cell
  loc : ∀ y ∈ scope.names, y.2 = .local → scope.names.lookup y.1 = some .local
  free : ∀ y ∈ scope.names, y.2 = .free → X.env.scope.names.lookup y.1 = some .cell ∨ X.env.scope.names.lookup y.1 = some .free
theorem relabel_free {env : Env} : ∀ {names : List (Str × NameKind)} {x : Str}, ((names.map fun (n, k) => if (k == NameKind.free && env.scope.kind == .function && env.kindOf n == some .cell) then (n, NameKind.cell) else (n, k)).lookup x = some .cell ∨ (names.map fun (n, k) => if (k == NameKind.free && env.scope.kind == .function && env.kindOf n == some .cell) then (n, NameKind.cell) else (n, k)).lookup x = some .free) →
    (∀ y ∈ names, y.2 ≠ .cell) → (x, NameKind.free) ∈ names
  | [], x, h, _ => by rcases h with h | h <;> simp at h
  | (n, k) :: r, x, h, hc => by
    have ih := @relabel_free env r x
    have hr : ∀ y ∈ r, y.2 ≠ .cell := fun y hy => hc y (List.mem_cons_of_mem _ hy)
    cases hx : x == n with
    | true =>
      have e : x = n := by simpa using hx
      subst e
      have kf : k = .free := by
        simp only [List.map_cons] at h
        by_cases q : (k == NameKind.free && env.scope.kind == .function && env.kindOf x == some .cell) = true
        · simp only [Bool.and_eq_true, beq_iff_eq] at q
          exact q.1.1
        · rw [if_neg q] at h
          simp only [List.lookup_cons, beq_self_eq_true] at h
          rcases h with h | h
          · cases h
            exact absurd rfl (hc _ List.mem_cons_self)
          · exact Option.some.inj h
      subst kf
      exact List.mem_cons_self
    | false =>
      refine List.mem_cons_of_mem _ (ih ?_ hr)
      simp only [List.map_cons] at h
      by_cases q : (k == NameKind.free && env.scope.kind == .function && env.kindOf n == some .cell) = true
      · rw [if_pos q] at h; simpa only [List.lookup_cons, hx] using h
      · rw [if_neg q] at h; simpa only [List.lookup_cons, hx] using h
theorem lookup_relabel_free {env : Env} : ∀ {names : List (Str × NameKind)} {x : Str}, names.lookup x = some .free →
    ((names.map fun (n, k) => if (k == NameKind.free && env.scope.kind == .function && env.kindOf n == some .cell) then (n, NameKind.cell) else (n, k)).lookup x = some .cell ∨ (names.map fun (n, k) => if (k == NameKind.free && env.scope.kind == .function && env.kindOf n == some .cell) then (n, NameKind.cell) else (n, k)).lookup x = some .free)
  | [], _, h => by simp at h
  | (n, k) :: r, x, h => by
    have ih := @lookup_relabel_free env r x
    simp only [List.map_cons]
    cases hx : x == n with
    | true =>
      simp only [List.lookup_cons, hx] at h
      cases h
      by_cases q : (NameKind.free == NameKind.free && env.scope.kind == .function && env.kindOf n == some .cell) = true
      · rw [if_pos q]; simp only [List.lookup_cons, hx]; simp
      · rw [if_neg q]; simp only [List.lookup_cons, hx]; simp
    | false =>
      simp only [List.lookup_cons, hx] at h
      by_cases q : (k == NameKind.free && env.scope.kind == .function && env.kindOf n == some .cell) = true
      · rw [if_pos q]; simp only [List.lookup_cons, hx]; exact ih h
      · rw [if_neg q]; simp only [List.lookup_cons, hx]; exact ih h
theorem comp_start {scope : Scope} {N : List Str} {nt : Nat} {js : List Nat} {cl : List (Str × Addr)} {fp : List Addr} {pins : List (Addr × Obj)} {σ : St} {H H1 : Hp} {s : Shared} {h' : Heap} {C : Addr} {tk : Nat} {xe : Value → Shared → Prop} {m : Str → Option Value}
    (S : CompOk X scope N nt js) (I : Inv X pins σ H s) (hf : ∀ b ∈ fp, FpOk X pins H b) (hcl : ∀ x c, cl.lookup x = some c → X.env.cells.lookup x = some c) (hcl2 : ∀ x, (x, NameKind.free) ∈ scope.names → (cl.lookup x).isSome = true)
    (hfp : ∀ b ∈ fp, b < s.heap.objs.size) (hC : s.heap.objs.size ≤ C) (k : ∀ b o, s.heap.get? b = some o → h'.get? b = some o) (hs : ∀ b o, H b = some o → H1 b = some o) (hs2 : ∀ b, H b = none → b < s.heap.objs.size → H1 b = none) (hok : HOk X.prog X.w H1 h') (hn : h'.Ns C m) (hC0 : H1 C = none)
    (hm : ∀ x, m x = none) :
    Inv (compCx X scope N cl C fp s H xe) [] (inner nt js σ) H1 { s with heap := h', toks := tk } := by
  have hfs : ∀ b ∈ fp, b ∉ frs X.stack := fun b hb z => by
    obtain ⟨f0, f1, f2, _⟩ := hf b hb
    rcases List.mem_cons.mp (I.stkSub b z) with q | q
    · exact f1 q
    · exact f2 q
  refine ⟨⟨I.ok.mod, S.kind, I.ok.glob, I.ok.blt, hC, fun x y c h1 h2 => I.ok.inj x y c (hcl x c h1) (hcl y c h2), fun x hx => ?_, fun x c z => (Bool.false_ne_true z).elim, I.ok.hd, I.ok.frames, .inl rfl, fun b hb => ?_, I.bs, Nat.le_trans I.ok.bsz I.sz, fun b o e hb => ?_, hfs, I.stack, I.stkFree⟩,
    rfl, I.bare, ?_, ⟨m, hn, fun i x v h1 h2 h3 => ?_⟩, fun x c e => ?_, hC0, fun x c e => ?_, fun p hp => absurd (show p ∈ ([] : List (Addr × Obj)) from hp) (by simp), hok, ?_⟩
  · have q : (x, NameKind.free) ∈ scope.names := relabel_free (env := X.env) hx S.own
    exact Option.isSome_iff_exists.mp (hcl2 x q)
  · obtain ⟨f0, f1, f2, f3, f4, f5⟩ := hf b hb
    refine ⟨Nat.ne_of_lt (Nat.lt_of_lt_of_le (hfp b hb) hC), fun x c e => f4 x c (hcl x c e)⟩
  · have := hf b hb
    obtain ⟨f0, f1, f2, f3, f4, f5⟩ := this
    rcases f3 with f3 | f3
    · exact I.ok.noex b o e f3
    · exact absurd (Nat.lt_of_lt_of_le (Heap.lt_size e) (Nat.le_trans I.ok.bsz f3)) (Nat.lt_irrefl _)
  · refine ⟨fun b o e n _ _ => k b o e, fun b o e n _ _ => ⟨o.slots, k b o e⟩, fun b o e n _ => hs2 b n (Heap.lt_size e), fun b o e _ => ⟨o, k b o e⟩, fun b xs e => hs b _ e, fun b o u e => hs b _ e, fun b ps e => ⟨#[], by rw [hs b _ e]; simp⟩⟩
  · by_cases hi : i < nt
    · rw [inner_none i hi] at h2; cases h2
    · obtain ⟨k', rfl⟩ : ∃ k', i = nt + k' := ⟨i - nt, by omega⟩
      unfold inner at h2
      rw [List.getElem?_append_right (by simp)] at h2
      simp only [List.length_replicate, Nat.add_sub_cancel_left, List.getElem?_map] at h2
      cases ej : js[k']? with
      | none => rw [ej] at h2; cases h2
      | some j =>
        rw [ej] at h2
        simp only [Option.map_some, Option.some.injEq] at h2
        obtain ⟨hN, hk⟩ := S.at_ k' j x ej h1
        have hσ : σ[j]? = some (some v) := by
          cases q : σ[j]? with
          | none => rw [q] at h2; cases h2
          | some z => rw [q] at h2; simp only [Option.join] at h2; rw [← h2]; rfl
        have vis : Vis X.env.scope x := by rcases hk with q | q; exact .inr (.inl q); exact .inr (.inr q)
        obtain ⟨m0, hn0, hl0⟩ := I.loc
        obtain ⟨u, r, l⟩ := hl0 j x v hN hσ vis
        refine ⟨u, r, ?_⟩
        rcases l with ⟨q, _⟩ | ⟨q, c, e, z⟩
        · have q' : X.env.scope.names.lookup x = some .local := q
          rw [q'] at hk
          rcases hk with hk | hk <;> cases hk
        · have hv : (relabel scope X.env).names.lookup x = some .cell ∨ (relabel scope X.env).names.lookup x = some .free := lookup_relabel_free (env := X.env) (S.frl k' x h1)
          have q : (x, NameKind.free) ∈ scope.names := relabel_free (env := X.env) hv S.own
          obtain ⟨c', e'⟩ := Option.isSome_iff_exists.mp (hcl2 x q)
          have e2 := hcl x c' e'
          rw [e] at e2; cases e2
          obtain ⟨oc, hoc, hd⟩ := z
          exact .inr ⟨hv, c, e', oc, k _ _ hoc, hd⟩
  · obtain ⟨v, oc, hoc, hd⟩ := I.cell x c (hcl x c e)
    exact ⟨v, oc, k _ _ hoc, hd⟩
  · have e2 := hcl x c e
    obtain ⟨v, oc, hoc, hd⟩ := I.cell x c e2
    exact hs2 c (I.freeC x c e2) (Heap.lt_size hoc)
  · unfold inner
    show _ = N.length
    rw [S.len]
    simp
theorem Inv.wk {Y : Cx} {pins : List (Addr × Obj)} {σ0 σ2 : St} {H : Hp} {s : Shared} (I : Inv Y pins σ2 H s) (h : Wk σ0 σ2) : Inv Y pins σ0 H s := I.weak h.1 h.2
theorem pe_comp {elt tg iter : Expr} {ifs : List Expr} {scope : Scope} {pos : Pos} {N : List Str} {nt : Nat} {js : List Nat} {wi : TI} {g : TG} {tc : TT} {te : TE}
    (hca : X.calm = true) (S : CompOk X scope N nt js) (hi : PI X tg iter wi)
    (hg : ∀ cl C fp s H xe, PG (compCx X scope N cl C fp s H xe) tg g) (hgo : TgOk g nt)
    (hc : ∀ cl C fp s H xe, PTs (compCx X scope N cl C fp s H xe) ifs tc)
    (he : ∀ cl C fp s H xe, PE (compCx X scope N cl C fp s H xe) elt te)
    (hs : ∀ x, foldedSetIterable iter X.env x = pure x := by intro _; rfl) :
    PE X (.ListComp elt [⟨tg, iter, ifs, 0⟩] scope pos) (tComp nt js wi g tc te) := by
  intro pins s σ H Q I h
  obtain ⟨cl, hclos, hcl1, _, hcl2⟩ := closure_of (env := X.env) scope.names [] (fun x hx hk => I.ok.has x.1 (S.free x hx hk))
  have hcl : ∀ x c, cl.lookup x = some c → X.env.cells.lookup x = some c := fun x c e => (hcl1 x c e).elim (fun z => by simp at z) fun z => z
  have hclos' : closureFor scope X.env = pure cl := by
    unfold closureFor
    simp only []
    rw [hclos]
    rfl
  rw [eval_ListComp]
  refine wpAny_comprehension_free (use := none) rfl hs hclos' S.kind S.loc (thn (hi pins s σ H _ I h) fun v s1 h1 => thn h1 fun itv s2 h2 => ?_)
  obtain ⟨it, fp, tn, J, H2, e, I2, T, st2, f2, q2⟩ := h2
  subst e
  have hfresh : H2 s2.heap.objs.size = none := I2.hok.fresh (Nat.le_refl _)
  obtain ⟨W, ⟨m0, w0⟩, turn⟩ := q2 s2.heap.objs.size hfresh
  refine wpAny_newObj_type (wpAny_newFunctionEnv S.own (by intro y hy; simp at hy) (fun h₁ hns₁ hsb₁ => ?_) S.kind)
  dsimp only at hns₁ hsb₁ ⊢
  generalize hG : s2.heap.push { cls := .type "list", dict := none, data := .seq ([] : List Value).toArray } = G at hns₁ hsb₁ ⊢
  have hGs : G.objs.size = s2.heap.objs.size + 1 := by rw [← hG, Heap.size_push]
  have kold : ∀ b o, s2.heap.get? b = some o → h₁.get? b = some o := fun b o e =>
    hsb₁.extBut b o (by rw [hGs]; exact Nat.ne_of_lt (Nat.lt_succ_of_lt (Heap.lt_size e))) (Heap.get?_push_of_some _ (hG ▸ Heap.get?_push_of_some _ e))
  have kD : h₁.get? s2.heap.objs.size = some { cls := .type "list", dict := none, data := .seq ([] : List Value).toArray } :=
    hsb₁.extBut _ _ (by rw [hGs]; exact Nat.ne_of_lt (Nat.lt_succ_self _)) (Heap.get?_push_of_some _ (hG ▸ Heap.get?_push_size _ rfl))
  have hok1 : HOk X.prog X.w (upd H2 s2.heap.objs.size (.lst [])) h₁ := I2.hok.laid kold (Nat.le_refl _) ⟨Nat.zero_le _, [], 0, .nil, kD⟩
  have hfpl : ∀ b ∈ fp, b < s2.heap.objs.size := fun b hb => by
    obtain ⟨o, e, _⟩ := T.obj _ _ st2 b hb
    exact Heap.lt_size e
  have hC0 : (upd H2 s2.heap.objs.size (.lst [])) G.objs.size = none := by
    rw [upd_ne (by rw [hGs]; exact Nat.ne_of_gt (Nat.lt_succ_self _))]
    exact I2.hok.fresh (by rw [hGs]; exact Nat.le_succ _)
  generalize hRR : (compPost (model X.prog X.w) X.A X.xe none (EP X pins σ Q) (.ref s2.heap.objs.size) G.objs.size) = RR
  have stat : ∀ {H' : Hp}, (∀ b ∈ fp, H' b = none) → ∀ b ∈ fp, FpOk (compCx X scope N cl G.objs.size fp s2 H2 (notedBy (model X.prog X.w) X.A (compEnvC scope cl G.objs.size X.env) fun e s' => RR (.error e) s')) [] H' b := fun {H'} hn b hb => by
    obtain ⟨f0, f1, f2', f3, f4, f5⟩ := f2 b hb
    refine ⟨hn b hb, Nat.ne_of_lt (Nat.lt_of_lt_of_le (hfpl b hb) (by show _ ≤ G.objs.size; rw [hGs]; exact Nat.le_succ _)), fun z => ?_, .inl hb, fun x c e => f4 x c (hcl x c e), fun p hp => absurd (show p ∈ ([] : List (Addr × Obj)) from hp) (by simp)⟩
    rcases List.mem_cons.mp (I2.stkSub b z) with q | q
    · exact f1 q
    · exact f2' q
  have I3 : ∀ tk, Inv (compCx X scope N cl G.objs.size fp s2 H2 (notedBy (model X.prog X.w) X.A (compEnvC scope cl G.objs.size X.env) fun e s' => RR (.error e) s')) [] (inner nt js σ) (upd H2 s2.heap.objs.size (.lst [])) { s2 with heap := h₁, toks := tk } := fun tk =>
    comp_start S I2 f2 hcl hcl2 hfpl (by rw [hGs]; exact Nat.le_succ _) kold (fun b o e => by rw [upd_ne (ne_of_none e hfresh)]; exact e) (fun b n hb => by rw [upd_ne (Nat.ne_of_lt hb)]; exact n) hok1 hns₁ hC0 (fun _ => rfl)
  have loop : ∀ s₃ : Shared, s₃ = { s2 with heap := h₁, toks := s2.toks + ([] : List (Str × Value)).length } →
      codeAny (model X.prog X.w) X.A (.compLoop (.ListComp elt [⟨tg, iter, ifs, 0⟩] scope pos) 0 (.ref it) (.ref s2.heap.objs.size) (compEnvC scope cl G.objs.size X.env)) RR s₃ := by
    rintro s₃ rfl
    refine compLoop_any (fun n s' => ∃ i ys H', Inv (compCx X scope N cl G.objs.size fp s2 H2 (notedBy (model X.prog X.w) X.A (compEnvC scope cl G.objs.size X.env) fun e s' => RR (.error e) s')) [] (inner nt js σ) H' s' ∧ tn i s'.heap ∧ (∀ b ∈ fp, H' b = none) ∧ W i n ys H') ?_ m0
      ⟨0, [], _, I3 _, T.keep _ _ _ st2 fun b hb o e => kold b o e, fun b hb => by rw [upd_ne (Nat.ne_of_lt (hfpl b hb))]; exact (f2 b hb).1, w0⟩
    rintro n s3 ⟨i, ys, H3, J3, st3, fr3, w3⟩
    rcases turn i n ys H3 w3 with ⟨stop, qn⟩ | ⟨go, NN, hN, step⟩
    · refine thn (T.done (compCx X scope N cl G.objs.size fp s2 H2 (notedBy (model X.prog X.w) X.A (compEnvC scope cl G.objs.size X.env) fun e s' => RR (.error e) s')) rfl rfl rfl hca i [] s3 (inner nt js σ) H3 _ J3 (stat fr3) st3 stop) fun r s4 zr3281 => ?_
      obtain ⟨hr, I4⟩ := zr3281
      subst hr
      show RR (.ok .next) s4
      rw [← hRR]
      obtain ⟨mC, hnC, _⟩ := id I4.loc
      refine ⟨mC, hnC, fun h'' hs'' => ?_⟩
      have keepC : ∀ b o, b ≠ G.objs.size → s4.heap.get? b = some o → h''.get? b = some o := fun b o hb e => hs''.extBut b o hb e
      have un : Un (frs X.stack) fp H2 H3 s2.heap h'' := by
        have u := I4.base
        refine ⟨fun b o e n hb hx => keepC b o ?_ (u.keep b o e n hb hx), fun b o e n hb hx => ?_, u.free, fun b o e hx => ?_, u.tups, u.frzs, u.tbls⟩
        · exact Nat.ne_of_lt (Nat.lt_of_lt_of_le (Heap.lt_size e) (by rw [hGs]; exact Nat.le_succ _))
        · obtain ⟨sl, e1⟩ := u.slot b o e n hb hx
          exact ⟨sl, keepC b _ (Nat.ne_of_lt (Nat.lt_of_lt_of_le (Heap.lt_size e) (by rw [hGs]; exact Nat.le_succ _))) e1⟩
        · obtain ⟨o', e1⟩ := u.there b o e hx
          exact ⟨o', keepC b _ (Nat.ne_of_lt (Nat.lt_of_lt_of_le (Heap.lt_size e) (by rw [hGs]; exact Nat.le_succ _))) e1⟩
      have hok' : HOk X.prog X.w H3 h'' := fun b u e => (I4.hok b u e).stay (fun c v hc q => keepC c v (by
          have cf : H3 G.objs.size = none := I4.free
          rintro rfl
          rcases hc with z | z
          · rw [z] at cf; rw [cf] at e; cases e
          · rw [cf] at z; cases z) q) (fun _ q => q) fun _ _ q => q
      exact ⟨.ref s2.heap.objs.size, H3, I2.call' (s' := { s4 with heap := h'' }) I4.os un hok' I4.bare (fun b hb => by
        obtain ⟨f0, f1, f2', f3, f4, f5⟩ := f2 b hb
        exact ⟨f3, f1, f4, f5⟩), rfl, qn⟩
    · refine thn (T.item (compCx X scope N cl G.objs.size fp s2 H2 (notedBy (model X.prog X.w) X.A (compEnvC scope cl G.objs.size X.env) fun e s' => RR (.error e) s')) rfl rfl rfl hca i [] s3 (inner nt js σ) H3 _ J3 (stat fr3) st3 go) fun r s4 zr3305 => ?_
      obtain ⟨u, hr, h4⟩ := zr3305
      subst hr
      refine thn h4 fun _ s5 zr3307 => ?_
      obtain ⟨x, H5, I5, r5, y5, st5, fr5⟩ := zr3307
      have I5' := I5.pinned (stat fr5) (T.obj _ _ st5)
      have g5 := hgo x (inner nt js σ) H5 _ inner_none (step x H5 y5)
      refine thn (hg cl G.objs.size fp s2 H2 _ _ s5 _ H5 x u _ I5' r5 g5) fun _ s6 zr3310 => ?_
      obtain ⟨σ6, H6, I6, wk6, q6⟩ := zr3310
      refine thn (hc cl G.objs.size fp s2 H2 _ _ s6 σ6 H6 _ I6 q6) fun ok s7 zr3311 => ?_
      obtain ⟨H7, I7, q7⟩ := zr3311
      have again : ∀ {s8 : Shared} {H8 : Hp} {ys' : List V}, Inv (compCx X scope N cl G.objs.size fp s2 H2 (notedBy (model X.prog X.w) X.A (compEnvC scope cl G.objs.size X.env) fun e s' => RR (.error e) s')) ([] ++ pinsAt fp s5.heap) σ6 H8 s8 → NN ys' H8 →
          ∃ m, m < n ∧ ∃ i ys H', Inv (compCx X scope N cl G.objs.size fp s2 H2 (notedBy (model X.prog X.w) X.A (compEnvC scope cl G.objs.size X.env) fun e s' => RR (.error e) s')) [] (inner nt js σ) H' s8 ∧ tn i s8.heap ∧ (∀ b ∈ fp, H' b = none) ∧ W i m ys H' := fun {s8 H8 ys'} I8 n8 => by
        obtain ⟨m', hm, w8⟩ := hN ys' H8 n8
        refine ⟨m', hm, i + 1, ys', H8, (I8.unpinned).wk wk6, T.keep _ _ _ st5 fun b hb o e => (I8.pin (b, o) (List.mem_append_right _ (List.mem_append_right _ (mem_pinsAt hb e)))).1, fun b hb => ?_, w8⟩
        obtain ⟨o, e, d⟩ := T.obj _ _ st5 b hb
        exact (I8.pin (b, o) (List.mem_append_right _ (List.mem_append_right _ (mem_pinsAt hb e)))).2.1
      cases ok with
      | false =>
        rw [if_neg Bool.false_ne_true] at q7 ⊢
        exact again I7 q7
      | true =>
        rw [if_pos rfl] at q7 ⊢
        refine thn (he cl G.objs.size fp s2 H2 _ _ s7 σ6 H7 _ I7 q7) fun y s8 zr3324 => ?_
        obtain ⟨yv, H8, I8, r8, hD8, hl8, q8⟩ := zr3324
        refine thn (mt_append (X := compCx X scope N cl G.objs.size fp s2 H2 (notedBy (model X.prog X.w) X.A (compEnvC scope cl G.objs.size X.env) fun e s' => RR (.error e) s')) _ s8 σ6 H8 (.ref s2.heap.objs.size) [yv] (.ref s2.heap.objs.size) [y] (fun _ H9 => NN (ys ++ [yv]) H9) I8 rfl (.cons r8 .nil) ⟨_, ys, yv, rfl, rfl, hD8, hl8, q8⟩) fun v9 s9 zr3325 => ?_
        obtain ⟨x9, H9, I9, r9, q9⟩ := zr3325
        exact again I9 q9
  subst hRR
  exact codeAny_compStart_list (loop _ rfl) (T.self _ 0 _ _ _ (T.keep _ _ _ st2 fun b hb o e => kold b o e) (loop _ rfl))
end
end L2
namespace PySem
theorem lri_nolen : typeLookup (.type "list_reverseiterator") "__len__" = pure none := by rw [typeLookup_type, builtinLookup_eq_fast]; kernel_rfl
theorem lri_hint : typeLookup (.type "list_reverseiterator") "__length_hint__" = pure (some (.builtin "list_reverseiterator.__length_hint__")) := by rw [typeLookup_type, builtinLookup_eq_fast]; kernel_rfl
section
variable {prog : Program} {w : World} {A : Around} {E : Value → Shared → Prop} {s : Shared}
theorem extend_rev {R : Result → Shared → Prop} (hh : A.handled = none) (S : Addr) (res : Value) (c₀ : Nat) (hS : s.heap.get? S = some { cls := .type "list", data := .seq #[] c₀ })
    {I l : Addr} {items : Array Value} (hi : s.heap.IsRevIter I l ((items.size : Int) - 1)) (hl : s.heap.IsList l items) (hIl : l ≠ I) (hSI : S ≠ I) (hSl : S ≠ l)
    (hR : ∀ h' tk acc' c', (∀ b o, b ≠ S → b ≠ I → s.heap.get? b = some o → h'.get? b = some o) → h'.get? S = some { cls := .type "list", dict := none, data := .seq acc' c', slots := #[] } →
      ItemsOf (fun i v => items[items.size - 1 - i]? = some v) acc' items.size → R (.ok (.ret res)) { s with heap := h', toks := tk }) (hn : items.size ≤ sizeLine) :
    wpAny (model prog w) A.in1 (Builtin.List.listExtendWith (.ref S) (.ref I) res)
      (fun fin s' => match fin with | .done f => R (.ok f) s' | .again c' => c'.quiet = true ∧ codeAny (model prog w) A c' R s') (fun e s' => R (.error e) s') s := by
  have W := (Walks.listRev (prog := prog) (w := w) (A := A.in1) hh I l hIl items)
  have hSf : S ∉ [I, l] := fun hm => by
    rcases List.mem_cons.mp hm with e | e
    · exact hSI e
    · exact hSl (List.mem_singleton.mp e)
  have hst : 0 ≤ items.size ∧ s.heap.IsRevIter I l ((items.size : Int) - 1 - ((0 : Nat) : Int)) ∧ s.heap.IsList l items := ⟨Nat.zero_le _, by simpa using hi, hl⟩
  unfold Builtin.List.listExtendWith
  refine wpAny_bind (wpAny_typeOf hi.typeIs ?_)
  have h1 : Builtin.List.listSameRef (.ref S) (.ref I) = false := by simp [Builtin.List.listSameRef, hSI]
  have h2 : (Value.type "list_reverseiterator" == Value.type "list") = false := by decide
  have h3 : (Value.type "list_reverseiterator" == Value.type "tuple") = false := by decide
  simp only [h1, h2, h3, Bool.or_false, Bool.false_eq_true, if_false]
  refine wpAny_bind (W.self 0 _ _ _ hst ?_)
  refine wpAny_bind (wpAny_holding ?_)
  unfold Builtin.List.listLengthHint
  refine wpAny_bind (wpAny_specialOf hi.typeIs lri_nolen ?_)
  show wpAny _ A.in1 (specialOf (Value.ref I) (Str.ofString "__length_hint__") >>= _) _ _ _
  refine wpAny_bind (wpAny_specialOf hi.typeIs lri_hint ?_)
  (generalize hid : ("list_reverseiterator.__length_hint__" : String) = id0; (fail_if_success (clear hid id0)); wp_delta; rw [show splitId id0 = some ("list_reverseiterator", "__length_hint__") from by subst hid; decide +kernel]; subst hid)
  refine wpAny_bind (wpAny_isInstance (b := true) hi.typeIs (by rw [isSubtype_type]; kernel_rfl) ?_)
  refine wpAny_pure ?_
  rw [if_neg (by decide)]
  refine wpAny_pure ⟨plainId_quiet F.plain_extend_loop _, codeAny_extend_loopS W.toS hn _ hSf _ items.size 0 _ _ _ rfl (Nat.zero_le _) hst hS (ItemsOf.nil _) fun s' acc' c' hm hS' hacc => ?_⟩
  rw [Moved.eq_with hm]
  refine hR s'.heap s'.toks acc' c' (fun b ob hb hbI e => hm.heap b ob (fun hmem => ?_) e) hS' hacc
  rcases List.mem_cons.mp hmem with e' | hmem
  · exact hb e'
  · exact hbI (List.mem_singleton.mp hmem)
theorem list_init_rev {R : Result → Shared → Prop} (hh : A.handled = none) (S : Addr) (hS : s.heap.get? S = some { cls := .type "list", data := .seq #[] })
    {I l : Addr} {items : Array Value} (hi : s.heap.IsRevIter I l ((items.size : Int) - 1)) (hl : s.heap.IsList l items) (hIl : l ≠ I) (hSI : S ≠ I) (hSl : S ≠ l)
    (hR : ∀ h' tk acc' c', (∀ b o, b ≠ S → b ≠ I → s.heap.get? b = some o → h'.get? b = some o) → h'.get? S = some { cls := .type "list", dict := none, data := .seq acc' c', slots := #[] } →
      ItemsOf (fun i v => items[items.size - 1 - i]? = some v) acc' items.size → R (.ok (.ret .none)) { s with heap := h', toks := tk }) (hn : items.size ≤ sizeLine) :
    wpAny (model prog w) A.in1 (Builtin.«list.__init__» ⟨[.ref S, .ref I], []⟩)
      (fun fin s' => match fin with | .done f => R (.ok f) s' | .again c' => c'.quiet = true ∧ codeAny (model prog w) A c' R s') (fun e s' => R (.error e) s') s := by
  show wpAny _ _ (do let old ← Builtin.List.listItems (.ref S); Builtin.List.listUpdate (.ref S) (fun _ => #[]); letGo old.toList.reverse; Builtin.List.listExtendWith (.ref S) (.ref I) .none) _ _ s
  refine wpAny_bind ?_
  unfold Builtin.List.listItems
  refine wpAny_bind (wpAny_seqItems hS rfl (wpAny_pure ?_))
  show wpAny _ _ (updateSeq S (fun _ => #[]) >>= fun _ => letGo (#[] : Array Value).toList.reverse >>= fun _ => Builtin.List.listExtendWith (.ref S) (.ref I) .none) _ _ s
  refine wpAny_bind (wpAny_updateSeq hS rfl ?_)
  have hS₂ := Heap.get?_update_self (Obj.mapSeq (fun _ => (#[] : Array Value))) hS rfl
  have oth : ∀ b o, b ≠ S → s.heap.get? b = some o → (s.heap.update S (Obj.mapSeq (fun _ => (#[] : Array Value)))).get? b = some o :=
    fun b o hb e => (Heap.get?_update_other _ _ (Ne.symm hb)).trans e
  refine wpAny_bind (wpAny_letGo ?_)
  refine extend_rev (s := { s with heap := s.heap.update S (Obj.mapSeq (fun _ => (#[] : Array Value))) }) hh S .none _ hS₂ (hi.at fun o e => oth _ o (Ne.symm hSI) e) (hl.at fun o e => oth _ o (Ne.symm hSl) e) hIl hSI hSl (fun h' tk acc' c' hk hS' hacc => ?_) hn
  exact hR h' tk acc' c' (fun b o hb hbI e => hk b o hb hbI (oth b o hb e)) hS' hacc
theorem call_list_rev {Q : Value → Shared → Prop} (hh : A.handled = none) {I l : Addr} {items : Array Value} (hi : s.heap.IsRevIter I l ((items.size : Int) - 1)) (hl : s.heap.IsList l items) (hIl : l ≠ I)
    (hQ : ∀ h' tk acc' c', (∀ b o, b ≠ I → s.heap.get? b = some o → h'.get? b = some o) →
      h'.get? s.heap.objs.size = some { cls := .type "list", dict := none, data := .seq acc' c', slots := #[] } → ItemsOf (fun i v => items[items.size - 1 - i]? = some v) acc' items.size → Q (.ref s.heap.objs.size) { s with heap := h', toks := tk }) (hn : items.size ≤ sizeLine) :
    wpAny (model prog w) A (call (.type "list") [.ref I]) Q E s := by
  refine callType_codes (Q₁ := fun obj s₁ => obj = .ref s.heap.objs.size ∧ s₁ = { s with heap := s.heap.push { cls := .type "list", data := .seq #[] } }) F.called_list (F.typeCall_list_1 _) F.entry_list_init
    (code_list_new _ ⟨rfl, rfl⟩) fun obj s₁ h₁ => ?_
  obtain ⟨rfl, rfl⟩ := h₁
  have hS : (s.heap.push { cls := .type "list", data := .seq #[] }).get? s.heap.objs.size = some { cls := .type "list", data := .seq #[] } := Heap.get?_push_size _ rfl
  have up : ∀ b o, s.heap.get? b = some o → (s.heap.push { cls := .type "list", data := .seq #[] }).get? b = some o := fun b o e => Heap.get?_push_of_some _ e
  obtain ⟨oi, hoi, _⟩ := id hi
  obtain ⟨ol, hol, _⟩ := id hl
  refine ⟨⟨_, hS, rfl⟩, F.args_list_init_2 _ _, list_init_rev (s := { s with heap := s.heap.push { cls := .type "list", data := .seq #[] } }) (A := A.in1) hh _ hS (hi.at fun o e => up _ o e) (hl.at fun o e => up _ o e) hIl (Nat.ne_of_gt (Heap.lt_size hoi)) (Nat.ne_of_gt (Heap.lt_size hol)) (fun h' tk acc' c' hk hS' hacc => ?_) hn⟩
  exact ⟨rfl, hQ h' tk acc' c' (fun b o hb e => hk b o (Nat.ne_of_lt (Heap.lt_size e)) hb (up b o e)) hS' hacc⟩
end
end PySem
namespace L2
open PySem PySem.Spec PyProof.Rows
theorem Same.seqT {K : PySem.W.Frag} {H H' : Hp} {a : Addr} {xs : List V} (e : Same H H') (h : SqT K H a xs) : SqT K H' a xs := by
  rcases h with (h | ⟨o, h⟩) | h
  · exact .inl (.inl (e _ _ h))
  · exact .inl (.inr ⟨o, e _ _ h⟩)
  · exact .inr h
section
variable {X : Cx} {a b c : Expr} {ta tb tc : TE} {pos : Pos}
theorem op_le_str : OpR X (compareOp .LtE) (fun x y H Q => ∃ i j, x = .str i ∧ y = .str j ∧ Q (.bl (!decide (j.cps.toList < i.cps.toList))) H) := by
  intro pins s σ H x y v u Q I rx ry h
  obtain ⟨i, j, rfl, rfl, q⟩ := h
  obtain ⟨t, rfl⟩ := rx
  obtain ⟨t', rfl⟩ := ry
  exact PySem.P.le_str (fin_bl I q rfl)
noncomputable def rIsI (K : PySem.W.Frag) : List V → Hp → VK → Prop := fun xs H Q => ∃ x t T k, xs = [x, .ty T] ∧ TyOf K H x t ∧ PySem.W.kitOne K t (.type T) = some k ∧ Q (.bl k) H
theorem call_isi : CallR X (.builtin "isinstance") (rIsI X.K) := by
  intro pins s σ H xs us Q I r h
  obtain ⟨x, t, T, k, rfl, ty, e, q⟩ := h
  obtain ⟨u, w', rfl, r1, r2⟩ := vals2 r
  cases r2
  exact isinst_ok I r1 ty e fun tk => ⟨.bl k, H, I.tok tk, rfl, q⟩
theorem pe_ty {x : Str} {T : String} (hg : Gl X x) (hm : X.mg x = none) (hv : bootBuiltins x = some (.type T)) (hn : x ≠ "__name__" := by decide) (hd : (x == ("__debug__" : Str)) = false := by decide) : PE X (.Name x pos) (tC (.ty T)) :=
  pe_bltn hg hm hv rfl hn hd
theorem truth_of_bools {prog : Program} {w : World} {A : Around} {its : Array Value} {bs : List Bool} (h : Vals (bs.map V.bl) its.toList) : TruthOf prog w A (fun i v => its[i]? = some v) (fun i => bs.getD i true) := by
  intro i v s Q E hP hq
  have h1 : its.toList[i]? = some v := by simpa using hP
  have hlt : i < its.toList.length := (List.getElem?_eq_some_iff.mp h1).1
  have hl := h.length
  have hb : i < bs.length := by rw [← hl] at hlt; simpa using hlt
  obtain ⟨u, hu, ru⟩ := h.get (i := i) (x := V.bl bs[i]) (by simp [hb])
  rw [h1] at hu; cases hu
  cases ru
  refine wpAny_truthy_bool ?_
  have e : bs.getD i true = bs[i] := by simp [List.getD, hb]
  show Q bs[i] s
  have hq : Q (bs.getD i true) s := hq
  rw [e] at hq
  exact hq
theorem range_all (bs : List Bool) : (List.range bs.length).all (fun i => bs.getD i true) = bs.all id := by
  rw [Bool.eq_iff_iff]
  simp only [List.all_eq_true, List.mem_range]
  constructor
  · intro h b hb
    obtain ⟨i, hi, e⟩ := List.getElem_of_mem hb
    have := h i hi
    simp [List.getD, hi, e] at this
    simpa using this
  · intro h i hi
    have := h bs[i] (List.getElem_mem hi)
    simpa [List.getD, hi] using this
noncomputable def rAll (K : PySem.W.Frag) : List V → Hp → VK → Prop := fun xs H Q => ∃ (p : Addr) (bs : List Bool), xs = [.ref p] ∧ SqL K H p (bs.map V.bl) ∧ Q (.bl (bs.all id)) H
theorem call_all_l (hc : X.calm = true) : CallR X (.builtin "all") (rAll X.K) := by
  intro pins s σ H xs us Q I r h
  obtain ⟨p, bs, rfl, hq, q⟩ := h
  obtain ⟨u, rfl, rx⟩ := vals1 r
  cases rx
  obtain ⟨its, rv, pl, hz⟩ := I.list hq
  refine call_all_walk (wpAny_pyIter_list pl.isList ?_)
  have hne : p ≠ s.heap.objs.size := by
    obtain ⟨o, n, ho, _⟩ := pl
    exact Nat.ne_of_lt (Heap.lt_size ho)
  refine ⟨_, _, _, _, _, _, fun i => bs.getD i true, rfl, Walks.list (A := X.A.in1) (I.ok.hd hc) _ p hne its.toArray, ⟨⟨_, Heap.get?_push_size _ rfl, rfl, rfl⟩, pl.isList.at fun o e => Heap.get?_push_of_some _ e⟩, truth_of_bools (by simpa using rv), fun h' tk hk => ?_⟩
  have hl : its.toArray.size = bs.length := by have := rv.length; simp at this ⊢; omega
  rw [hl, range_all]
  exact ⟨.bl (bs.all id), H, I.kept fun b o e => hk b o (by simp; exact Nat.ne_of_lt (Heap.lt_size e)) (Heap.get?_push_of_some _ e), rfl, q⟩
theorem preSum_take (ns : List Int) : ∀ n, n ≤ ns.length → preSum (fun i => ns.getD i 0) n = (ns.take n).sum
  | 0, _ => by simp [preSum]
  | n + 1, h => by
    have ih := preSum_take ns n (by omega)
    have e : ns[n]? = some (ns[n]'(by omega)) := by simp
    show preSum (fun i => ns.getD i 0) n + ns.getD n 0 = _
    rw [ih, List.take_add_one, e, List.sum_append, List.getD, e]
    simp
theorem preSum_list (ns : List Int) : preSum (fun i => ns.getD i 0) ns.length = ns.sum := by
  rw [preSum_take ns _ (Nat.le_refl _), List.take_length]
noncomputable def rSum (K : PySem.W.Frag) : List V → Hp → VK → Prop := fun xs H Q => ∃ (p : Addr) (ns : List Int), xs = [.ref p] ∧ SqL K H p (ns.map V.int) ∧ Q (.int ns.sum) H
theorem call_sum_l (hc : X.calm = true) : CallR X (.builtin "sum") (rSum X.K) := by
  intro pins s σ H xs us Q I r h
  obtain ⟨p, ns, rfl, hq, q⟩ := h
  obtain ⟨u, rfl, rx⟩ := vals1 r
  cases rx
  obtain ⟨its, rv, pl, hz⟩ := I.list hq
  refine call_sum_walkG (wpAny_pyIter_list pl.isList ?_)
  have hne : p ≠ s.heap.objs.size := by
    obtain ⟨o, n, ho, _⟩ := pl
    exact Nat.ne_of_lt (Heap.lt_size ho)
  refine ⟨_, _, _, _, _, _, fun i => ns.getD i 0, rfl, Walks.list (A := X.A.in1) (I.ok.hd hc) _ p hne its.toArray, ⟨⟨_, Heap.get?_push_size _ rfl, rfl, rfl⟩, pl.isList.at fun o e => Heap.get?_push_of_some _ e⟩, fun b hb => ?_, fun i v hv => ?_, fun h' tk t' hk => ?_⟩
  · obtain ⟨o, n, ho, _⟩ := pl
    rcases List.mem_cons.mp hb with e | e
    · rw [e]; exact Nat.lt_of_lt_of_le (Nat.lt_succ_self _) (by simp)
    · rw [List.mem_singleton.mp e]; exact Nat.lt_of_lt_of_le (Heap.lt_size ho) (by simp)
  · have h1 : its[i]? = some v := by simpa using hv
    have hlt : i < its.length := (List.getElem?_eq_some_iff.mp h1).1
    have hl := rv.length
    have hb : i < ns.length := by rw [← hl] at hlt; simpa using hlt
    obtain ⟨u, hu, t, ru⟩ := rv.get (i := i) (x := V.int ns[i]) (by simp [hb])
    rw [h1] at hu; cases hu
    exact ⟨t, by rw [ru]; simp [List.getD, hb]⟩
  · have hl : its.toArray.size = ns.length := by have := rv.length; simp at this ⊢; omega
    rw [hl, preSum_list]
    exact ⟨.int ns.sum, H, I.kept fun b o e => hk b o (by simp; exact Nat.ne_of_lt (Heap.lt_size e)) (Heap.get?_push_of_some _ e), ⟨t', rfl⟩, q⟩
noncomputable def tListRev (t : TE) : TE := fun σ H Q => t σ H fun x H1 => ∃ p, x = .ref p ∧ ∃ ys, H1 p = some (.lst ys) ∧ ∀ l, H1 l = none → Q (.ref l) (upd H1 l (.lst ys.reverse))
end
end L2
namespace L2
open PySem PySem.Spec PyProof.Rows
section
variable {X : Cx} {a b c e : Expr} {ta tb tc te : TE} {pos p p2 pos2 : Pos} {tg : Expr}
theorem pe_listrev (hc : X.calm = true) (hg : Gl X "list") (hm : X.mg "list" = none) (hg2 : Gl X "reversed") (hm2 : X.mg "reversed" = none) (he : PE X e te) (hse : starEach [e] X.env = [(false, eval e X.env)] := by rfl) :
    PE X (.Call (.Name "list" p) [.Call (.Name "reversed" p2) [e] [] pos2] [] pos) (tListRev te) := by
  intro pins s σ H Q I h
  refine wpAny_Call_Name_kw (ld_blt I hg hm (by decide +kernel : bootBuiltins "list" = some (.type "list")) ?_)
  refine PyProof.Rows.callWith_type1 (Calls.spliced_cons ?_) rfl rfl
  refine wpAny_Call_Name_kw (ld_blt I hg2 hm2 boot_reversed ?_)
  refine PyProof.Rows.callWith_type1 (Q := _) ?_ hse rfl
  rw [hse]
  refine Calls.spliced_cons (thn (he pins s σ H _ I h) fun u s1 ⟨x, H1, I1, r1, pp, e1, ys, hq', q⟩ => Calls.spliced_nil ?_)
  subst e1
  cases r1
  have hq : SqL X.K H1 pp ys := .of hq'
  obtain ⟨its, rv, pl, hz⟩ := I1.list hq
  have hlen := rv.length
  refine call_reversed_list pl.isList ?_
  have hlt : pp < s1.heap.objs.size := by
    obtain ⟨o, n, ho, _⟩ := pl
    exact Heap.lt_size ho
  refine Calls.spliced_nil (call_list_rev (I.ok.hd hc) (I := s1.heap.objs.size) (l := pp) (items := its.toArray) ⟨_, Heap.get?_push_size _ rfl, rfl, rfl⟩ (pl.isList.at fun o e => Heap.get?_push_of_some _ e) (Nat.ne_of_lt hlt) (fun h' tk acc' c' hk hS hacc => ?_) (by simp only [List.size_toArray]; omega))
  have kp : ∀ b o, s1.heap.get? b = some o → h'.get? b = some o := fun b o e => hk b o (Nat.ne_of_lt (Heap.lt_size e)) (Heap.get?_push_of_some _ e)
  have hrev : acc' = its.reverse.toArray := by
    apply Array.ext_getElem?
    intro i
    have hs1 := hacc.1
    simp only [List.size_toArray] at hs1
    by_cases hi : i < its.length
    · have h1 : acc'[i]? = some (acc'[i]'(by omega)) := by simp [hs1, hi]
      have h2 := hacc.2 i _ h1
      rw [h1, ← h2]
      simp only [List.size_toArray, List.getElem?_toArray]
      rw [List.getElem?_reverse hi]
    · simp only [List.getElem?_toArray]
      rw [Array.getElem?_eq_none (by omega), List.getElem?_eq_none (by simp; omega)]
  subst hrev
  have hsz : s1.heap.objs.size ≤ (s1.heap.push (revObj pp ((its.toArray.size : Int) - 1))).objs.size := by rw [Heap.size_push]; exact Nat.le_succ _
  exact ⟨.ref (s1.heap.push (revObj pp ((its.toArray.size : Int) - 1))).objs.size, upd H1 _ (.lst ys.reverse), I1.laid (t' := tk) kp hsz ⟨by simp; omega, its.reverse, c', rv.reverse, hS⟩, rfl, q _ (I1.hok.fresh hsz)⟩
noncomputable def Its (x : Str) : It := ⟨fun i _ => i < x.length, fun i H v H' => H' = H ∧ ∃ c, x.cps[i]? = some c ∧ v = .str ⟨#[c]⟩, fun i _ => x.length ≤ i⟩
theorem turn_strA {P : Program} {w : World} {K : PySem.W.Frag} {tg : Expr} (it : Addr) (x : Str) (t : Tok) : Turn P w K tg (Its x) [it] it (fun i h => h.IsStrIter it "str_ascii_iterator" x t i) where
  mem := by simp
  obj := fun i h st b hb => by
    have e : b = it := by simpa using hb
    subst e
    obtain ⟨o, e, c, d⟩ := st
    exact ⟨o, e, fun v z => by rw [d] at z; cases z⟩
  keep := fun i h h' st k => let ⟨o, ho, r⟩ := st; ⟨o, k it (by simp) o ho, r⟩
  item := by
    intro X hP hw hK hc i pins s σ H E I hf st hg
    subst hP hw hK
    obtain ⟨f0, f1, f2, f3, f4, f5⟩ := hf it (by simp)
    have hg : i < x.cps.size := hg
    refine wpAny_pyNext_ascii_item st (c := x.cps[i]'hg) (by simp) fun h' st' sb => ?_
    have I1 : Inv X pins σ H { s with heap := h', toks := s.toks + 1 } := I.turned (fun b o hb e => (sb.2 b hb).trans e) f0 f1 f3 f4 f5
    obtain ⟨o, e, c, d⟩ := id st'
    exact ⟨_, rfl, go_of (s := { s with heap := h', toks := s.toks + 1 }) e c d (by decide) ⟨.str ⟨#[x.cps[i]'hg]⟩, H, I1, ⟨_, rfl⟩, ⟨rfl, _, by simp, rfl⟩, st', fun b hb => (hf b hb).1⟩⟩
  done := by
    intro X hP hw hK hc i pins s σ H E I hf st hg
    subst hP hw hK
    have hg : x.cps.size ≤ i := hg
    obtain ⟨f0, f1, f2, f3, f4, f5⟩ := hf it (by simp)
    exact wpAny_pyNext_ascii_end (I.ok.hd hc) st (Array.getElem?_eq_none hg) fun h' eb => ⟨rfl, I.turned (t' := s.toks) (fun b o hb e => eb b o hb e) f0 f1 f3 f4 f5⟩
  self := fun _ _ _ _ _ st h => wpAny_pyIter_striter_ascii st h
theorem turn_strW {P : Program} {w : World} {K : PySem.W.Frag} {tg : Expr} (it : Addr) (x : Str) (t : Tok) : Turn P w K tg (Its x) [it] it (fun i h => h.IsStrIter it "str_iterator" x t i) where
  mem := by simp
  obj := fun i h st b hb => by
    have e : b = it := by simpa using hb
    subst e
    obtain ⟨o, e, c, d⟩ := st
    exact ⟨o, e, fun v z => by rw [d] at z; cases z⟩
  keep := fun i h h' st k => let ⟨o, ho, r⟩ := st; ⟨o, k it (by simp) o ho, r⟩
  item := by
    intro X hP hw hK hc i pins s σ H E I hf st hg
    subst hP hw hK
    obtain ⟨f0, f1, f2, f3, f4, f5⟩ := hf it (by simp)
    have hg : i < x.cps.size := hg
    refine wpAny_pyNext_wide_item st (c := x.cps[i]'hg) (by simp) fun h' st' sb => ?_
    have I1 : Inv X pins σ H { s with heap := h', toks := s.toks + 1 } := I.turned (fun b o hb e => (sb.2 b hb).trans e) f0 f1 f3 f4 f5
    obtain ⟨o, e, c, d⟩ := id st'
    exact ⟨_, rfl, go_of (s := { s with heap := h', toks := s.toks + 1 }) e c d (by decide) ⟨.str ⟨#[x.cps[i]'hg]⟩, H, I1, ⟨_, rfl⟩, ⟨rfl, _, by simp, rfl⟩, st', fun b hb => (hf b hb).1⟩⟩
  done := by
    intro X hP hw hK hc i pins s σ H E I hf st hg
    subst hP hw hK
    have hg : x.cps.size ≤ i := hg
    obtain ⟨f0, f1, f2, f3, f4, f5⟩ := hf it (by simp)
    exact wpAny_pyNext_wide_end (I.ok.hd hc) st (Array.getElem?_eq_none hg) fun h' eb => ⟨rfl, I.turned (t' := s.toks) (fun b o hb e => eb b o hb e) f0 f1 f3 f4 f5⟩
  self := fun _ _ _ _ _ st h => wpAny_pyIter_striter_wide st h
noncomputable def iStr (tl : TE) : TI := fun σ H R => tl σ H fun x H1 => ∃ z, x = .str z ∧ R (Its z) H1
theorem pi_str {l : Expr} {tl : TE} (hl : PE X l tl) : PI X tg l (iStr tl) := by
  intro pins s σ H R I h
  refine thn (hl pins s σ H _ I h) fun v s1 zr3600 => ?_
  obtain ⟨x, H1, I1, r1, q1⟩ := zr3600
  obtain ⟨z, e, q⟩ := q1
  subst e
  obtain ⟨t, rfl⟩ := r1
  cases ha : z.cps.all (· < 128)
  · refine wpAny_pyIter_wide ha ?_
    refine ⟨s1.heap.objs.size, [s1.heap.objs.size], _, _, H1, rfl, I1.kept (t' := s1.toks) fun b o e => Heap.get?_push_of_some _ e, turn_strW _ z t, ⟨_, Heap.get?_push_size _ rfl, rfl, rfl⟩, fun b hb => ?_, q⟩
    have e : b = s1.heap.objs.size := by simpa using hb
    subst e
    exact I1.fpOk (Nat.le_refl _) (I1.hok.fresh (Nat.le_refl _))
  · refine wpAny_pyIter_ascii ha ?_
    refine ⟨s1.heap.objs.size, [s1.heap.objs.size], _, _, H1, rfl, I1.kept (t' := s1.toks) fun b o e => Heap.get?_push_of_some _ e, turn_strA _ z t, ⟨_, Heap.get?_push_size _ rfl, rfl, rfl⟩, fun b hb => ?_, q⟩
    have e : b = s1.heap.objs.size := by simpa using hb
    subst e
    exact I1.fpOk (Nat.le_refl _) (I1.hok.fresh (Nat.le_refl _))
noncomputable def rSlS : V → Option Int → Option Int → Hp → VK → Prop := fun x lo hi H Q => ∃ z, x = .str z ∧ z.length ≤ sizeLine ∧ Q (.str (Txt.slice z lo hi)) H
theorem sl_str : SlR X rSlS := by
  intro pins s σ H x v vl vu lo hi sl Q I rx hs pl pu h
  obtain ⟨z, rfl, hz, q⟩ := h
  obtain ⟨t, rfl⟩ := rx
  refine ⟨"str", _, F.slot_str_getitem.lookup, typeIs_str _ _ _, ?_⟩
  have fin : ∀ (t' : Tok) (k : Nat), EP X pins σ Q (.str (Txt.slice z lo hi) t') { s with toks := k } := fun t' k => ⟨.str _, H, I.tok k, ⟨t', rfl⟩, q⟩
  obtain ⟨o, h1, h2, h3⟩ := hs
  cases pl with
  | none => cases pu with
    | none => exact wpAny_getItem_str_slice (l := none) (u := none) (st := none) ⟨o, h1, h2, h3⟩ rfl (post_val_or_str ⟨Nat.le_trans (Txt.slice_le z _ _) hz, fun t' k => fin t' k⟩)
    | int j uj => exact wpAny_getItem_str_slice (l := none) (u := some (j, uj)) (st := none) ⟨o, h1, h2, h3⟩ rfl (post_val_or_str ⟨Nat.le_trans (Txt.slice_le z _ _) hz, fun t' k => fin t' k⟩)
  | int i ui => cases pu with
    | none => exact wpAny_getItem_str_slice (l := some (i, ui)) (u := none) (st := none) ⟨o, h1, h2, h3⟩ rfl (post_val_or_str ⟨Nat.le_trans (Txt.slice_le z _ _) hz, fun t' k => fin t' k⟩)
    | int j uj => exact wpAny_getItem_str_slice (l := some (i, ui)) (u := some (j, uj)) (st := none) ⟨o, h1, h2, h3⟩ rfl (post_val_or_str ⟨Nat.le_trans (Txt.slice_le z _ _) hz, fun t' k => fin t' k⟩)
end
end L2
namespace L2
open PySem PySem.Spec PyProof.Rows
noncomputable def FnL (K : PySem.W.Frag) (mg : Str → Option Value) (x : Str) (st : Stmt) (ps : List Str) : Prop :=
  ∃ f fd, Fun K x x st f fd ∧ mg x = some (.ref f) ∧ Binds K fd ps []
noncomputable def Fn (P : Program) (w : World) (K : PySem.W.Frag) (mg : Str → Option Value) (base : Heap) (x : Str) (k : Nat) (ps : List Str) (sp : Sp) : Prop :=
  ∃ f fd, FnOk P w K mg base CX0 k f fd ps sp ∧ mg x = some (.ref f) ∧ PySem.W.keepIn K (.ref f) = true ∧ Binds K fd ps []
section
variable {P : Program} {w : World} {K : PySem.W.Frag} {mg : Str → Option Value} {base : Heap}
theorem FnL.ok {x : Str} {st : Stmt} {N ps : List Str} {k : Nat} {sp : Sp} (F : FnL K mg x st ps) (S : FnScope N ps (defScope st)) (len : ∀ vs H Q E, sp vs H Q E → vs.length = ps.length)
    (hbody : ∀ (f : Addr) (cdv : Value) (A : Around) (outer : List Env) (s : Shared) (H : Hp) (vs : List V) (Q : VK) (E : XK), Room k (A.deeper (envOfC x (defScope st) s.heap.objs.size f cdv)) → sp vs H Q E →
      ∃ t, PSs (cxOf CX0 P w K mg base N x (defScope st) f cdv A outer s H E).nox (defBody st) t ∧ t { nx := fun _ H' => Q .non H', rt := Q } (start N vs) H) : Fn P w K mg base x (k + 1) ps sp := by
  obtain ⟨f, fd, F, m, b⟩ := F
  exact ⟨f, fd, F.ok S len (hbody f), m, F.kp, b⟩
theorem fnL_mk {x : Str} {st : Stmt} {ps : List Str} {h : Heap} {f : Addr} {oc : Value} {od an : Option Addr} {osl : Array (Option Value)} {kV doc pm cdv ct : Value} (X : K.In h) (G : h.Ns mainGlobals mg)
    (a : PySem.W.nsIn K mainGlobals x = some (some (.ref f)))
    (l : K.lookup f = some ⟨oc, od, .func (PySem.W.fnOf x x (defArgs st) (defBody st) (defScope st) .none kV doc pm an cdv ct), osl⟩)
    (c : PySem.W.codeIn K cdv x = true) (k : PySem.W.keepIn K (.ref f) = true)
    (hb : ∀ (kV doc pm : Value) (an : Option Addr) (cdv ct : Value) (us : List Value), us.length = ps.length → bindArgs (PySem.W.fnOf x x (defArgs st) (defBody st) (defScope st) .none kV doc pm an cdv ct) ⟨us, []⟩ = pure (ps.zip us)) : FnL K mg x st ps :=
  ⟨f, _, fun_mk l c k, PySem.W.mg_of X G a, (fun_mk l c k).binds hb⟩
end
section
variable {X : Cx} {k : Nat} {ps : List Str} {sp : Sp} {x : Str} {p pos : Pos} {e : Expr} {es : List Expr} {t : TA}
theorem pe_callF (F : Fn X.prog X.w X.K X.mg X.base x k ps sp) (hr : Room k X.A) (hg : Gl X x) (ha : PA X (e :: es) t) (hdb : (x == ("__debug__" : Str)) = false := by decide)
    (he : starEach (e :: es) X.env = (false, eval e X.env) :: starEach es X.env := by rfl) (hpl : (backTo pos (starEach es X.env)).any (·.1) = false := by rfl) :
    PE X (.Call (.Name x p) (e :: es) [] pos) (tCall sp [] E0 t) := by
  obtain ⟨f, fd, F, m, kp, b⟩ := F
  exact pe_call F hr hg m kp b .nil pass0 ha hdb he hpl
end
structure Wlk (J : It) (xs : List V) (C : Hp → Prop) : Prop where
  go : ∀ i H, C H → i < xs.length → J.go i H
  yld : ∀ i H x H', C H → i < xs.length → J.yld i H x H' → xs[i]? = some x ∧ H' = H
  stop : ∀ i H, C H → xs.length ≤ i → J.stop i H
theorem wlk_list {K : PySem.W.Frag} {a : Addr} {xs : List V} : Wlk (Itl K a) xs (fun H => SqL K H a xs) :=
  ⟨fun i H h hi => ⟨xs, xs[i], h, by simp [hi]⟩, fun i H x H' h _ y => ⟨y.2 xs h, y.1⟩, fun i H h hi => ⟨xs, h, hi⟩⟩
theorem wlk_tup {K : PySem.W.Frag} {a : Addr} {xs : List V} : Wlk (Itt K a) xs (fun H => SqT K H a xs) :=
  ⟨fun i H h hi => ⟨xs, xs[i], h, by simp [hi]⟩, fun i H x H' h _ y => ⟨y.2 xs h, y.1⟩, fun i H h hi => ⟨xs, h, hi⟩⟩
noncomputable def rngV (lo : Int) (n : Nat) : List V := (List.range n).map fun (i : Nat) => V.int (lo + (i : Int))
theorem rngV_length (lo : Int) (n : Nat) : (rngV lo n).length = n := by simp [rngV]
theorem rngV_get {lo : Int} {n i : Nat} (h : i < n) : (rngV lo n)[i]? = some (.int (lo + i)) := by simp [rngV, h]
theorem wlk_range {lo : Int} {n : Nat} : Wlk (Itr lo n) (rngV lo n) (fun _ => True) :=
  ⟨fun i H _ hi => by rw [rngV_length] at hi; exact hi, fun i H x H' _ hi y => by
    obtain ⟨e, y⟩ := y
    rw [rngV_length] at hi
    rw [rngV_get hi, y]; exact ⟨rfl, e⟩, fun i H _ hi => by rw [rngV_length] at hi; exact hi⟩
noncomputable def sgnV (x : Str) : List V := x.cps.toList.map fun c => V.str ⟨#[c]⟩
theorem wlk_str {x : Str} : Wlk (Its x) (sgnV x) (fun _ => True) :=
  ⟨fun i H _ hi => by show i < x.cps.size; simpa [sgnV] using hi, fun i H v H' _ hi y => by
    obtain ⟨e, c, hc, y⟩ := y
    refine ⟨?_, e⟩
    rw [y]
    simp [sgnV, hc], fun i H _ hi => by show x.cps.size ≤ i; simpa [sgnV] using hi⟩
theorem for_wlk {J : It} {xs : List V} {C : Hp → Prop} (w : Wlk J xs C) {g : TG} {tb : TS} {D : Ends} {σ : St} {H : Hp} (Pv : Nat → St → Hp → Prop) (h0 : Pv 0 σ H) (hl : ∀ i σ H, Pv i σ H → C H)
    (hs : ∀ i x σ H, i < xs.length → xs[i]? = some x → Pv i σ H → g x σ H fun σ2 H2 => tb { D with nx := Pv (i + 1), ct := Pv (i + 1), bk := D.nx } σ2 H2) (hd : ∀ σ H, Pv xs.length σ H → D.nx σ H) :
    ∃ W : Nat → Nat → St → Hp → Prop, (∃ m, W 0 m σ H) ∧ ∀ i m σ H, W i m σ H →
      (J.stop i H ∧ D.nx σ H) ∨ (J.go i H ∧ ∃ N : St → Hp → Prop, (∀ σ' H', N σ' H' → ∃ m', m' < m ∧ W (i + 1) m' σ' H') ∧ ∀ x H', J.yld i H x H' → g x σ H' fun σ2 H2 => tb { D with nx := N, ct := N, bk := D.nx } σ2 H2) := by
  refine ⟨fun i m σ H => m = xs.length - i ∧ i ≤ xs.length ∧ Pv i σ H, ⟨xs.length, by simp, Nat.zero_le _, h0⟩, ?_⟩
  rintro i m σ H ⟨rfl, hi, p⟩
  have q := hl i σ H p
  by_cases hlt : i < xs.length
  · refine .inr ⟨w.go i H q hlt, Pv (i + 1), fun σ' H' p' => ⟨xs.length - (i + 1), by omega, rfl, hlt, p'⟩, fun x H' y => ?_⟩
    obtain ⟨e1, e2⟩ := w.yld i H x H' q hlt y
    subst e2
    exact hs i x σ _ hlt e1 p
  · have e : i = xs.length := by omega
    subst e
    exact .inl ⟨w.stop _ H q (Nat.le_refl _), hd σ H p⟩
theorem comp_wlk {J : It} {xs : List V} {C : Hp → Prop} (w : Wlk J xs C) {g : TG} {tc : TT} {te : TE} {σ0 : St} {Q : VK} {H1 : Hp} {D : Addr} (Pv : Nat → List V → Hp → Prop) (h0 : Pv 0 [] (upd H1 D (.lst []))) (hl : ∀ i ys H, Pv i ys H → C H)
    (hs : ∀ i x ys H, i < xs.length → xs[i]? = some x → Pv i ys H → g x σ0 H fun σ2 H3 => tc σ2 H3 fun b H4 => if b = true then te σ2 H4 fun y H5 => H5 D = some (.lst ys) ∧ ys.length < sizeLine ∧ Pv (i + 1) (ys ++ [y]) (upd H5 D (.lst (ys ++ [y]))) else Pv (i + 1) ys H4)
    (hd : ∀ ys H, Pv xs.length ys H → Q (.ref D) H) :
    ∃ W : Nat → Nat → List V → Hp → Prop, (∃ m, W 0 m [] (upd H1 D (.lst []))) ∧
      ∀ i m ys H2, W i m ys H2 → (J.stop i H2 ∧ Q (.ref D) H2) ∨ (J.go i H2 ∧ ∃ N : List V → Hp → Prop, (∀ ys' H', N ys' H' → ∃ m', m' < m ∧ W (i + 1) m' ys' H') ∧
        ∀ x H', J.yld i H2 x H' → g x σ0 H' fun σ2 H3 => tc σ2 H3 fun b H4 => if b = true then te σ2 H4 fun y H5 => H5 D = some (.lst ys) ∧ ys.length < sizeLine ∧ N (ys ++ [y]) (upd H5 D (.lst (ys ++ [y]))) else N ys H4) := by
  refine ⟨fun i m ys H => m = xs.length - i ∧ i ≤ xs.length ∧ Pv i ys H, ⟨xs.length, by simp, Nat.zero_le _, h0⟩, ?_⟩
  rintro i m ys H ⟨rfl, hi, p⟩
  have q := hl i ys H p
  by_cases hlt : i < xs.length
  · refine .inr ⟨w.go i H q hlt, Pv (i + 1), fun σ' H' p' => ⟨xs.length - (i + 1), by omega, rfl, hlt, p'⟩, fun x H' y => ?_⟩
    obtain ⟨e1, e2⟩ := w.yld i H x H' q hlt y
    subst e2
    exact hs i x ys _ hlt e1 p
  · have e : i = xs.length := by omega
    subst e
    exact .inl ⟨w.stop _ H q (Nat.le_refl _), hd ys H p⟩
end L2
namespace HT
open PySem PyProof.Rows
open PySem.SeqAt
open PySem.AutoSeq1 (wpAny_loadPart')
open PySem.MeetsSeq PySem.MeetsSeq2 PySem.MeetsSeq3
section
variable {prog : Program} {w : World} {A : Around} {E : Value → Shared → Prop} {s : Shared}
theorem getItem_tuple_whole {t sl : Addr} {items : Array Value} {vl vu : Value} {lo hi : Option Int} {Q : Value → Shared → Prop} (ht : IsTup s.heap t items) (hs : s.heap.IsSliceOf sl vl vu .none) (pl : IsPart vl lo) (pu : IsPart vu hi)
    (h1 : sIx items.size 0 lo = 0) (h2 : sIx items.size items.size hi = items.size)
    (h : Q (.ref t) s) : wpAny (model prog w) A (getItem (.ref t) (.ref sl)) Q E s := by
  obtain ⟨os, hos, hcs, hds⟩ := id hs
  have hTs : s.TypeIs (.ref sl) "slice" := ⟨os, hos, hcs⟩
  unfold getItem
  try with_reducible refine wpAny_holding ?_
  first | refine wpAny_bind (wpAny_pure ?_) | skip
  refine wpAny_bind (wpAny_sequenceKey ht.typeIs (by decide) ?_)
  refine wpAny_bind (wpAny_callSpecial?_slot (name := Str.ofString "__getitem__") ht.typeIs PyProof.Rows.slot_tuple_getitem
    (wpAny_call_entry PyProof.Rows.slot_tuple_getitem ht.typeIs entry_tuple_getitem ?_ (args_tuple_getitem _ _)))
  show wpAny _ _ (Builtin.Tuple.tupleItemsOf (.ref t) >>= _) _ _ s
  refine wpAny_bind (tupleItemsOf_ ht ?_)
  refine wpAny_bind (wpAny_typeOf hTs ?_)
  rw [if_pos (by decide)]
  refine wpAny_bind (sliceApplied_gen hs pl pu ?_)
  rw [h1, h2]
  show wpAny _ _ (if (((0 : Nat) : Int) == 0 && (1 : Int) == 1 && (items.size - 0) == items.size) = true then _ else _) _ _ s
  rw [if_pos (by simp)]
  unfold Builtin.Tuple.tupleIsExact
  refine wpAny_bind (wpAny_bind (wpAny_typeOf ht.typeIs (wpAny_pure ?_)))
  rw [if_pos (by decide)]
  exact wpAny_bind (wpAny_rule (wpAny_pure ⟨_, rfl, wpAny_pure h⟩))
end
end HT
namespace L2
open PySem PySem.Spec PyProof.Rows
noncomputable def cellOrFree (xs : List (Str × NameKind)) (x : Str) : Bool := xs.lookup x == some .cell || xs.lookup x == some .free
noncomputable def compChk (XN : List Str) (xs sn : List (Str × NameKind)) (N : List Str) (nt : Nat) (js : List Nat) : Bool :=
  decide N.Nodup && N.length == nt + js.length && (js.zip (N.drop nt)).all (fun p => XN[p.1]? == some p.2 && cellOrFree xs p.2) && (N.drop nt).all (fun x => sn.lookup x == some .free)
    && sn.all (fun y => y.2 != .cell) && sn.all (fun y => y.2 != .local || sn.lookup y.1 == some .local) && sn.all (fun y => y.2 != .free || cellOrFree xs y.1)
theorem cellOrFree_iff {xs : List (Str × NameKind)} {x : Str} (h : cellOrFree xs x = true) : xs.lookup x = some .cell ∨ xs.lookup x = some .free := by
  unfold cellOrFree at h
  rw [Bool.or_eq_true] at h
  simpa using h
theorem compOk_of {X : Cx} {scope : Scope} {N : List Str} {nt : Nat} {js : List Nat} (XN : List Str) (xs : List (Str × NameKind)) (hk : scope.kind = .function) (hN : X.N = XN) (hx : X.env.scope.names = xs)
    (h : compChk XN xs scope.names N nt js = true) : CompOk X scope N nt js := by
  subst hN hx
  unfold compChk at h
  simp only [Bool.and_eq_true] at h
  obtain ⟨⟨⟨⟨⟨⟨h1, h2⟩, h3⟩, h4⟩, h5⟩, h6⟩, h7⟩ := h
  refine ⟨hk, of_decide_eq_true h1, by simpa using h2, fun k j x e1 e2 => ?_, fun k x e => ?_, fun y hy => ?_, fun y hy e => ?_, fun y hy e => ?_⟩
  · have hm : (j, x) ∈ js.zip (N.drop nt) := by
      have e2' : (N.drop nt)[k]? = some x := by rw [List.getElem?_drop]; exact e2
      have : (js.zip (N.drop nt))[k]? = some (j, x) := by rw [List.getElem?_zip_eq_some]; exact ⟨e1, e2'⟩
      exact List.mem_of_getElem? this
    have q := List.all_eq_true.mp h3 _ hm
    rw [Bool.and_eq_true] at q
    exact ⟨by simpa using q.1, cellOrFree_iff q.2⟩
  · have hm : x ∈ N.drop nt := by
      have e2' : (N.drop nt)[k]? = some x := by rw [List.getElem?_drop]; exact e
      exact List.mem_of_getElem? e2'
    simpa using List.all_eq_true.mp h4 _ hm
  · simpa using List.all_eq_true.mp h5 _ hy
  · have q := List.all_eq_true.mp h6 _ hy
    rw [e] at q
    simpa using q
  · have q := List.all_eq_true.mp h7 _ hy
    rw [e] at q
    exact cellOrFree_iff (by simpa using q)
noncomputable def rSlTA (K : PySem.W.Frag) : V → Option Int → Option Int → Hp → VK → Prop := fun x lo hi H Q => ∃ a xs, x = .ref a ∧ SqT K H a xs ∧ (cutV xs lo hi = xs → Q (.ref a) H) ∧ (∀ p, H p = none → Q (.ref p) (upd H p (.tup (cutV xs lo hi))))
theorem sl_tupA {X : Cx} : SlR X (rSlTA X.K) := by
  intro pins s σ H x v vl vu lo hi sl Q I rx hs pl pu h
  obtain ⟨a, xs, e, hx, q1, q2⟩ := h
  by_cases hw : HT.sIx xs.length 0 lo = 0 ∧ HT.sIx xs.length xs.length hi = xs.length
  · subst e
    cases rx
    obtain ⟨its, r, ht, hz⟩ := I.tuple hx
    have hlen : its.toArray.size = xs.length := by rw [List.size_toArray]; exact r.length.symm
    refine ⟨"tuple", _, PyProof.Rows.slot_tuple_getitem.lookup, ht.typeIs, ?_⟩
    refine HT.getItem_tuple_whole ht hs pl pu (by rw [hlen]; exact hw.1) (by rw [hlen]; exact hw.2) ⟨.ref a, H, I, rfl, q1 ?_⟩
    unfold cutV
    rw [hw.1, hw.2]
    simp
  · exact sl_tup pins s σ H x v vl vu lo hi sl Q I rx hs pl pu ⟨a, xs, e, hx, hw, q2⟩
end L2
namespace L2
open PySem PySem.Spec PyProof.Rows
theorem ex_kS {s : Str} {P : Key → Prop} : (∃ k, V.str s = kV k ∧ P k) ↔ P (Sum.inr s) := by
  constructor
  · rintro ⟨k, e, p⟩
    cases k with
    | inl i => cases e
    | inr x => cases e; exact p
  · exact fun p => ⟨_, rfl, p⟩
theorem ex_kI {i : Int} {P : Key → Prop} : (∃ k, V.int i = kV k ∧ P k) ↔ P (Sum.inl i) := by
  constructor
  · rintro ⟨k, e, p⟩
    cases k with
    | inl i => cases e; exact p
    | inr x => cases e
  · exact fun p => ⟨_, rfl, p⟩
section
variable {X : Cx} {o i value e : Expr} {td ty tv : TE} {pos pos' : Pos}
noncomputable def tDG (td ty : TE) : TE := fun σ H Q => td σ H fun x H1 => ty σ H1 fun y H2 => ∃ a, x = .ref a ∧ ∃ k, y = kV k ∧ ∃ kvs v, H2 a = some (.dK kvs) ∧ valV kvs k = some v ∧ Q v H2
theorem pe_dg (hu : X.A.units + 1 < cLine) (ho : PE X o td) (hi : PE X i ty) (hs : NoSl i) : PE X (.Subscript o i pos) (tDG td ty) := by
  intro pins s σ H Q I h
  refine subD_of PySem.F.slot_dict_getitem.lookup hs (thn (ho pins s σ H _ I h) fun u s1 ⟨x, H1, I1, rx, q1⟩ => thn (hi pins s1 σ H1 _ I1 q1) fun iv s2 zr3820 => ?_)
  obtain ⟨y, H2, I2, ry, a, ex, k, ey, kvs, v, hd, hv, q2⟩ := zr3820
  subst ex
  obtain rfl : u = Value.ref a := rx
  have g : DGet H2 a y (some v) := .inl ⟨kvs, k, .inl hd, ey, hv.symm⟩
  exact ⟨dict_typeIs I2 g, d_getItem hu I2 g ry fun w' s3 I3 rw' => ⟨v, H2, I3, rw', q2⟩⟩
noncomputable def sDP (td ty tv : TE) : TS := fun D σ H => tv σ H fun v H1 => td σ H1 fun x H2 => ty σ H2 fun y H3 => ∃ a, x = .ref a ∧ ∃ k, y = kV k ∧ ∃ kvs, H3 a = some (.dK kvs) ∧ kvs.length < sizeLine ∧ D.nx σ (upd H3 a (.dK (putK kvs k v)))
theorem ps_dp (hu : X.A.units + 1 < cLine) (ho : PE X o td) (hi : PE X i ty) (hv : PE X value tv) (hs : swapsWith value (some (.Subscript o i pos')) pos.line X.env = pure false) :
    PS X (.Assign [.Subscript o i pos'] value pos) (sDP td ty tv) := by
  intro pins s σ H D I h
  refine wpAny_Assign_Subscript (thn (hv pins s σ H _ I h) fun r s1 ⟨v, H1, I1, rv, q1⟩ => thn (ho pins s1 σ H1 _ I1 q1) fun u s2 ⟨x, H2, I2, rx, q2⟩ => thn (hi pins s2 σ H2 _ I2 q2) fun iv s3 zr3829 => ?_) hs
  obtain ⟨y, H3, I3, ry, a, ex, k, ey, kvs, hd, hl, q3⟩ := zr3829
  subst ex
  obtain rfl : u = Value.ref a := rx
  have g : DPut H3 a y v (upd H3 a (.dK (putK kvs k v))) := .inl ⟨kvs, k, hd, ey, hl, rfl⟩
  exact d_setItem hu I3 g ry rv fun s4 I4 => ⟨σ, _, I4, q3⟩
end
end L2
namespace L2
open PySem PySem.Spec PyProof.Rows
theorem while_rd {c : TT} {tb : TS} {D : Ends} {σ : St} {H : Hp} (W : Nat → St → Hp → Prop) (hend : St → Hp → Prop) (h0 : ∃ m, W m σ H)
    (hs : ∀ R : St → Hp → Prop, (∀ σ H, hend σ H → R σ H) → ∀ m σ H, W m σ H → c σ H fun b H1 => if b = true then ∃ N : St → Hp → Prop, (∀ σ' H', N σ' H' → ∃ m', m' < m ∧ W m' σ' H') ∧ tb { D with nx := N, ct := N, bk := R } σ H1 else R σ H1)
    (hnx : ∀ σ H, hend σ H → D.nx σ H) : tWhile c tb D σ H := ⟨W, h0, fun m σ H w => hs D.nx hnx m σ H w⟩
theorem cxK {CX : CXT} {P : Program} {w : World} {K : PySem.W.Frag} {mg : Str → Option Value} {base : Heap} {N : List Str} {q : Str} {sc : Scope} {f : Addr} {cd : Value} {A : Around} {o : List Env} {s : Shared} {H : Hp} {E : XK} :
    (cxOf CX P w K mg base N q sc f cd A o s H E).K = K := rfl
theorem cpK {X : Cx} {sc : Scope} {N : List Str} {cl : List (Str × Addr)} {C : Addr} {fp : List Addr} {s : Shared} {H : Hp} {xe : Value → Shared → Prop} : (compCx X sc N cl C fp s H xe).K = X.K := rfl
end L2
namespace L2
open PySem PySem.Spec PyProof.Rows
theorem scal_ii (i j : Int) : scal (.int i) (.int j) = true := rfl
theorem scal_ss (i j : Str) : scal (.str i) (.str j) = true := rfl
theorem scal_bb (i j : Bool) : scal (.bl i) (.bl j) = true := rfl
theorem scal_nn : scal .non .non = true := rfl
theorem scal_in (i : Int) : scal (.int i) .non = true := rfl
theorem scal_si (s : Str) (i : Int) : scal (.str s) (.int i) = true := rfl
section
variable {X : Cx} {a b o e l : Expr} {es : List Expr} {ta tb to : TE} {t : TA} {pos : Pos} {tg : Expr}
theorem OpR.imp {f : Value → Value → Sem Value} {r r' : R2} (h : OpR X f r) (i : ∀ x y H Q, r' x y H Q → r x y H Q) : OpR X f r' := fun pins s σ H x y v u Q I rx ry q => h pins s σ H x y v u Q I rx ry (i _ _ _ _ q)
theorem CallR.imp {f : Value} {r r' : List V → Hp → VK → Prop} (h : CallR X f r) (i : ∀ x H Q, r' x H Q → r x H Q) : CallR X f r' := fun pins s σ H xs us Q I rx q => h pins s σ H xs us Q I rx (i _ _ _ q)
theorem IxR.imp {r r' : R2} (h : IxR X r) (i : ∀ x y H Q, r' x y H Q → r x y H Q) : IxR X r' := fun value slice pins s σ H x y v u Q I rx ry q hs => h value slice pins s σ H x y v u Q I rx ry (i _ _ _ _ q) hs
theorem SlR.imp {r r' : V → Option Int → Option Int → Hp → VK → Prop} (h : SlR X r) (i : ∀ x lo hi H Q, r' x lo hi H Q → r x lo hi H Q) : SlR X r' := fun pins s σ H x v vl vu lo hi sl Q I rx hs pl pu q => h pins s σ H x v vl vu lo hi sl Q I rx hs pl pu (i _ _ _ _ _ q)
noncomputable def rLenL : List V → Hp → VK → Prop := fun xs H Q => ∃ p, xs = [.ref p] ∧ ∃ ys, H p = some (.lst ys) ∧ Q (.int ys.length) H
noncomputable def rLenT : List V → Hp → VK → Prop := fun xs H Q => ∃ p, xs = [.ref p] ∧ ∃ ys, H p = some (.tup ys) ∧ Q (.int ys.length) H
theorem call_lenL : CallR X (.builtin "len") rLenL := call_len_seq.imp fun _ _ _ zq8 => by obtain ⟨p, e, ys, h, q⟩ := zq8; exact (⟨p, ys, e, .inl (.of h), q⟩)
theorem call_lenT : CallR X (.builtin "len") rLenT := call_len_seq.imp fun _ _ _ zq9 => by obtain ⟨p, e, ys, h, q⟩ := zq9; exact (⟨p, ys, e, .inr (.of h), q⟩)
noncomputable def rIL : R2 := fun x y H Q => ∃ p, x = .ref p ∧ ∃ i, y = .int i ∧ ∃ xs, H p = some (.lst xs) ∧ ∃ v, atI xs i = some v ∧ Q v H
noncomputable def rIT : R2 := fun x y H Q => ∃ p, x = .ref p ∧ ∃ i, y = .int i ∧ ∃ xs, H p = some (.tup xs) ∧ ∃ v, atI xs i = some v ∧ Q v H
theorem ix_L : IxR X rIL := ix_list.imp fun _ _ _ _ zq10 => by obtain ⟨p, e, i, e2, xs, h, v, ha, q⟩ := zq10; exact (⟨p, xs, i, v, e, e2, .of h, ha, q⟩)
theorem ix_T : IxR X rIT := ix_tup.imp fun _ _ _ _ zq11 => by obtain ⟨p, e, i, e2, xs, h, v, ha, q⟩ := zq11; exact (⟨p, xs, i, v, e, e2, .of h, ha, q⟩)
noncomputable def rIS : R2 := fun x y H Q => ∃ z, x = .str z ∧ ∃ i, y = .int i ∧ z.length ≤ sizeLine ∧ ∃ c, atI z.cps.toList i = some c ∧ Q (.str ⟨#[c]⟩) H
theorem ix_S : IxR X rIS := ix_str.imp fun _ _ _ _ zq12 => by obtain ⟨z, e, i, e2, h, c, ha, q⟩ := zq12; exact (⟨z, i, c, e, e2, h, ha, q⟩)
noncomputable def rSL : V → Option Int → Option Int → Hp → VK → Prop := fun x lo hi H Q => ∃ a, x = .ref a ∧ ∃ xs, H a = some (.lst xs) ∧ ∀ p, H p = none → Q (.ref p) (upd H p (.lst (cutV xs lo hi)))
theorem sl_L : SlR X rSL := sl_list.imp fun _ _ _ _ _ zq13 => by obtain ⟨a, e, xs, h, q⟩ := zq13; exact (⟨a, xs, e, .of h, q⟩)
noncomputable def rSQ (K : PySem.W.Frag) : V → Option Int → Option Int → Hp → VK → Prop := fun x lo hi H Q => ∃ a, x = .ref a ∧ ∃ xs, SqL K H a xs ∧ ∀ p, H p = none → Q (.ref p) (upd H p (.lst (cutV xs lo hi)))
theorem sl_Q : SlR X (rSQ X.K) := sl_list.imp fun _ _ _ _ _ zq14 => by obtain ⟨a, e, xs, h, q⟩ := zq14; exact (⟨a, xs, e, h, q⟩)
noncomputable def rST : V → Option Int → Option Int → Hp → VK → Prop := fun x lo hi H Q => ∃ a, x = .ref a ∧ ∃ xs, H a = some (.tup xs) ∧ (cutV xs lo hi = xs → Q (.ref a) H) ∧ (∀ p, H p = none → Q (.ref p) (upd H p (.tup (cutV xs lo hi))))
theorem sl_T : SlR X rST := sl_tupA.imp fun _ _ _ _ _ zq15 => by obtain ⟨a, e, xs, h, q⟩ := zq15; exact (⟨a, xs, e, .of h, q⟩)
noncomputable def iL (K : PySem.W.Frag) (tl : TE) : TI := fun σ H R => tl σ H fun x H1 => ∃ a, x = .ref a ∧ ∃ xs, H1 a = some (.lst xs) ∧ R (Itl K a) H1
noncomputable def iT (K : PySem.W.Frag) (tl : TE) : TI := fun σ H R => tl σ H fun x H1 => ∃ a, x = .ref a ∧ ∃ xs, H1 a = some (.tup xs) ∧ R (Itt K a) H1
theorem pi_L {tl : TE} (hl : PE X l tl) : PI X tg l (iL X.K tl) := by
  intro pins s σ H R I h
  refine thn (hl pins s σ H _ I h) fun v s1 zr3879 => ?_
  obtain ⟨x, H1, I1, r1, a, e, xs, hq, q⟩ := zr3879
  subst e
  cases r1
  obtain ⟨its, rv, p, hz⟩ := I1.list (SqL.of hq)
  refine wpAny_pyIter_list p.isList ?_
  refine ⟨s1.heap.objs.size, [s1.heap.objs.size], _, _, H1, rfl, I1.kept (t' := s1.toks) fun b o e => Heap.get?_push_of_some _ e, turn_list a _, ⟨_, Heap.get?_push_size _ rfl, rfl, rfl⟩, fun b hb => ?_, q⟩
  have e : b = s1.heap.objs.size := by simpa using hb
  subst e
  exact I1.fpOk (Nat.le_refl _) (I1.hok.fresh (Nat.le_refl _))
theorem pi_T {tl : TE} (hl : PE X l tl) : PI X tg l (iT X.K tl) := by
  intro pins s σ H R I h
  refine thn (hl pins s σ H _ I h) fun v s1 zr3890 => ?_
  obtain ⟨x, H1, I1, r1, a, e, xs, hq, q⟩ := zr3890
  subst e
  cases r1
  obtain ⟨its, rv, p, hz⟩ := I1.tuple (SqT.of hq)
  refine wpAny_pyIter_tuple (show s1.heap.IsTuple a its.toArray from p) ?_
  refine ⟨s1.heap.objs.size, [s1.heap.objs.size], _, _, H1, rfl, I1.kept (t' := s1.toks) fun b o e => Heap.get?_push_of_some _ e, turn_tuple a _, ⟨_, Heap.get?_push_size _ rfl, rfl, rfl⟩, fun b hb => ?_, q⟩
  have e : b = s1.heap.objs.size := by simpa using hb
  subst e
  exact I1.fpOk (Nat.le_refl _) (I1.hok.fresh (Nat.le_refl _))
noncomputable abbrev RM := Addr → List V → Hp → VK → Prop
noncomputable def MtL (X : Cx) (id : String) (r : RM) : Prop := MtR X id fun x vs H Q => ∃ p, x = .ref p ∧ r p vs H Q
noncomputable def tML (r : RM) (to : TE) (t : TA) : TE := fun σ H Q => to σ H fun x H1 => ∃ p, x = .ref p ∧ (∃ xs, H1 p = some (.lst xs)) ∧ t σ H1 fun vs H2 => r p vs H2 Q
variable {name : Str} {id : String} {r : RM} {apos cpos : Pos}
theorem pe_mL (slot : Slot "list" name id) (hty : typeOf (.builtin id) = pure (.type "method_descriptor")) (hm : MtL X id r) (ho : PE X o to) (ha : PA X (e :: es) t)
    (hbase : attributeBase o name X.env (eval o X.env) = eval o X.env := by rfl)
    (hfew : ((backTo cpos (starEach (e :: es) X.env)).all (fun x => !x.1) && (backToKw cpos (keywordEach [] X.env)).all (fun x => x.1.isSome)
      && decide ((e :: es).length + ([] : List Keyword).length + (if ([] : List Keyword).isEmpty then 0 else 1) < 30)) = true := by rfl)
    (hline : (apos.endLine == cpos.line) = true := by rfl) (hs : starEach (e :: es) X.env = (false, eval e X.env) :: starEach es X.env := by rfl) (hplain : (backTo cpos (starEach es X.env)).any (·.1) = false := by rfl) :
    PE X (.Call (.Attribute o name apos) (e :: es) [] cpos) (tML r to t) := by
  intro pins s σ H Q I h
  refine wpAny_Call_method_late hbase hfew hline rfl (thn (ho pins s σ H _ I h) fun v s1 ⟨x, H1, I1, r1, p, ex, ⟨xs, hp⟩, q1⟩ => ?_)
  subst ex
  have ty : tyV X.K "list" (.ref p) H1 := .inl ⟨rfl, xs, .of hp⟩
  obtain ⟨h1, h2⟩ := tyV_is I1 r1 ty
  refine ⟨"list", id, PySem.F.plainAttrs_list, slot, hty, h1, h2, ?_⟩
  have hA := ha cpos pins s1 σ H1 _ I1 q1
  rw [hs] at hA ⊢
  refine Calls.callWith_builtin (by show (false || (backTo cpos (starEach es X.env)).any (·.1)) = false; rw [hplain] <;> rfl) (Calls.evalArgs_plain ?_)
  refine thn hA fun us s2 zr3918 => ?_
  obtain ⟨vs, H2, I2, rr, q2⟩ := zr3918
  exact hm pins s2 σ H2 (.ref p) vs v us Q I2 r1 rr ⟨p, rfl, q2⟩
theorem pe_mL0 (slot : Slot "list" name id) (hty : typeOf (.builtin id) = pure (.type "method_descriptor")) (hm : MtL X id r) (ho : PE X o to)
    (hbase : attributeBase o name X.env (eval o X.env) = eval o X.env := by rfl) (hline : (apos.endLine == cpos.line) = true := by rfl) : PE X (.Call (.Attribute o name apos) [] [] cpos) (tML r to tNil) := by
  intro pins s σ H Q I h
  refine wpAny_Call_method0_late hbase hline (thn (ho pins s σ H _ I h) fun v s1 ⟨x, H1, I1, r1, p, ex, ⟨xs, hp⟩, q1⟩ => ?_)
  subst ex
  have ty : tyV X.K "list" (.ref p) H1 := .inl ⟨rfl, xs, .of hp⟩
  obtain ⟨h1, h2⟩ := tyV_is I1 r1 ty
  exact ⟨"list", id, PySem.F.plainAttrs_list, slot, hty, h1, h2, Calls.callWith_builtin rfl (PySem.evalArgs_none (hm pins s1 σ H1 _ [] v [] Q I1 r1 .nil ⟨p, rfl, q1⟩))⟩
noncomputable def rmAppend : RM := fun p vs H Q => ∃ y, vs = [y] ∧ ∃ xs, H p = some (.lst xs) ∧ xs.length < sizeLine ∧ Q .non (upd H p (.lst (xs ++ [y])))
theorem ml_append : MtL X "list.append" rmAppend := fun pins s σ H x vs v us Q I rx rv zq16 => by obtain ⟨p, e, y, e2, xs, h, hl, q⟩ := zq16; exact (mt_append pins s σ H x vs v us Q I rx rv ⟨p, xs, y, e, e2, h, hl, q⟩)
noncomputable def rmPop : RM := fun p vs H Q => vs = [] ∧ ∃ xs, H p = some (.lst xs) ∧ ∃ y, xs[xs.length - 1]? = some y ∧ Q y (upd H p (.lst xs.dropLast))
theorem ml_pop : MtL X "list.pop" rmPop := fun pins s σ H x vs v us Q I rx rv zq17 => by obtain ⟨p, e, e2, xs, h, y, hl, q⟩ := zq17; exact (mt_pop pins s σ H x vs v us Q I rx rv ⟨p, xs, y, e, e2, h, hl, q⟩)
noncomputable def rmInsert : RM := fun p vs H Q => ∃ i y, vs = [.int i, y] ∧ ∃ xs, H p = some (.lst xs) ∧ 0 ≤ i ∧ i ≤ xs.length ∧ xs.length < sizeLine ∧ Q .non (upd H p (.lst (xs.take i.toNat ++ y :: xs.drop i.toNat)))
theorem ml_insert : MtL X "list.insert" rmInsert := by
  intro pins s σ H x vs v us Q I rx rv h
  obtain ⟨p, rfl, i, y, rfl, xs, hH, i0, i1, hz, q⟩ := h
  cases rx
  obtain ⟨u, w', rfl, ru, rw'⟩ := vals2 rv
  obtain ⟨t, rfl⟩ := ru
  obtain ⟨z, its, n, rr, hl, e⟩ := I.lstM hH
  have hfit : Builtin.List.listFitsIndex i = true := by
    have h63 := line63
    simp only [Builtin.List.listFitsIndex, Bool.and_eq_true, decide_eq_true_eq]
    omega
  refine call_meets F.slot_list_insert ⟨_, e, rfl⟩ F.entry_list_insert (F.args_list_insert_3 _ _ _) (PySem.AutoSeq1.list_insert_list_int_val_1 p its.toArray n i t w' (by rw [hfit]; decide) (by rw [List.size_toArray]; omega)) ⟨e, ?_⟩
  refine ⟨.non, _, I.lset (its' := its.take i.toNat ++ w' :: its.drop i.toNat) hH e ?_ ((rr.take i.toNat).append (.cons rw' (rr.drop i.toNat))) ?_, rfl, q⟩
  · have hk : (if i < 0 then (i + (its.toArray.size : Int)).toNat else min i.toNat its.toArray.size) = i.toNat := by
      rw [if_neg (by omega), List.size_toArray]; omega
    simp only [hk]
    apply Array.ext'
    simp
    rw [List.take_of_length_le (by simp)]
  · simp
    omega
noncomputable def rInL (neg : Bool) : R2 := fun x y H Q => ∃ p, y = .ref p ∧ ∃ xs, H p = some (.lst xs) ∧ flatV x = true ∧ xs.all flatV = true ∧ Q (.bl (if neg then !inV x xs else inV x xs)) H
noncomputable def rInT (neg : Bool) : R2 := fun x y H Q => ∃ p, y = .ref p ∧ ∃ xs, H p = some (.tup xs) ∧ flatV x = true ∧ xs.all flatV = true ∧ Q (.bl (if neg then !inV x xs else inV x xs)) H
noncomputable def rInM (K : PySem.W.Frag) (neg : Bool) : R2 := fun x y H Q => ∃ p, y = .ref p ∧ ∃ xs, SqT K H p xs ∧ flatV x = true ∧ xs.all flatV = true ∧ Q (.bl (if neg then !inV x xs else inV x xs)) H
theorem op_inL : OpR X (compareOp .In) (rInL false) := op_in_seq.imp fun _ _ _ _ zq18 => by obtain ⟨p, e, xs, h, f1, f2, q⟩ := zq18; exact (⟨p, xs, e, .inl (.of h), f1, f2, q⟩)
theorem op_notInT : OpR X (compareOp .NotIn) (rInT true) := op_notIn_seq.imp fun _ _ _ _ zq19 => by obtain ⟨p, e, xs, h, f1, f2, q⟩ := zq19; exact (⟨p, xs, e, .inr (.of h), f1, f2, q⟩)
theorem op_notInM : OpR X (compareOp .NotIn) (rInM X.K true) := op_notIn_seq.imp fun _ _ _ _ zq20 => by obtain ⟨p, e, xs, h, f1, f2, q⟩ := zq20; exact (⟨p, xs, e, .inr h, f1, f2, q⟩)
noncomputable def rTupL : List V → Hp → VK → Prop := fun xs H Q => ∃ p, xs = [.ref p] ∧ ∃ ys, H p = some (.lst ys) ∧ ∀ l, H l = none → Q (.ref l) (upd H l (.tup ys))
theorem call_tupL : CallR X (.type "tuple") rTupL := call_tuple_of.imp fun _ _ _ zq21 => by obtain ⟨p, e, ys, h, q⟩ := zq21; exact (⟨p, ys, e, .inl ⟨.of h, q⟩⟩)
noncomputable def rCS : R2 := fun x y H Q => ∃ i, x = .str i ∧ ∃ j, y = .str j ∧ i.length + j.length ≤ sizeLine ∧ Q (.str (i ++ j)) H
theorem op_catS : OpR X (binaryOp .Add) rCS := op_add_str.imp fun _ _ _ _ zq22 => by obtain ⟨i, e, j, e2, h, q⟩ := zq22; exact (⟨i, j, e, e2, h, q⟩)
noncomputable def rLenS : List V → Hp → VK → Prop := fun xs H Q => ∃ z, xs = [.str z] ∧ z.length ≤ sizeLine ∧ Q (.int z.length) H
theorem call_lenS : CallR X (.builtin "len") rLenS := call_len_str
noncomputable def rLeS : R2 := fun x y H Q => ∃ i, x = .str i ∧ ∃ j, y = .str j ∧ Q (.bl (!decide (j.cps.toList < i.cps.toList))) H
theorem op_leS : OpR X (compareOp .LtE) rLeS := op_le_str.imp fun _ _ _ _ zq23 => by obtain ⟨i, e, j, e2, q⟩ := zq23; exact (⟨i, j, e, e2, q⟩)
end
end L2
namespace L2
open PySem PySem.Spec PyProof.Rows
section
variable {X : Cx}
theorem ps_setC {i : Nat} {y : Str} {py spos : Pos} {elt tg iter : Expr} {ifs : List Expr} {scope : Scope} {pos : Pos} {N : List Str} {nt : Nat} {js : List Nat} {wi : TI} {g : TG} {tc : TT} {te : TE}
    (hN : X.N.Nodup) (hi0 : X.N[i]? = some y) (hy : Loc X.env.scope y) (hca : X.calm = true) (S : CompOk X scope N nt js) (hi : PI X tg iter wi)
    (hg : ∀ cl C fp s H xe, PG (compCx X scope N cl C fp s H xe) tg g) (hgo : TgOk g nt)
    (hc : ∀ cl C fp s H xe, PTs (compCx X scope N cl C fp s H xe) ifs tc)
    (he : ∀ cl C fp s H xe, PE (compCx X scope N cl C fp s H xe) elt te)
    (hs : ∀ x, foldedSetIterable iter X.env x = pure x := by intro _; rfl)
    (hsw : swapsWith (.ListComp elt [⟨tg, iter, ifs, 0⟩] scope pos) (some (.Name y py)) spos.line X.env = pure true := by rfl)
    (hf : X.fn y = true ∨ X.env.scope.names.lookup y = some .local := by first | exact .inl rfl | exact .inr rfl | assumption) :
    PS X (.Assign [.Name y py] (.ListComp elt [⟨tg, iter, ifs, 0⟩] scope pos) spos) (tAsg (tComp nt js wi g tc te) (gName i)) := by
  intro pins s σ H D I h
  obtain ⟨cl, hclos, hcl1, _, hcl2⟩ := closure_of (env := X.env) scope.names [] (fun x hx hk => I.ok.has x.1 (S.free x hx hk))
  have hcl : ∀ x c, cl.lookup x = some c → X.env.cells.lookup x = some c := fun x c e => (hcl1 x c e).elim (fun z => by simp at z) fun z => z
  have hclos' : closureFor scope X.env = pure cl := by
    unfold closureFor
    simp only []
    rw [hclos]
    rfl
  rw [exec_Assign_Name_used _ _ _ _ hsw]
  refine wpAny_bind (wpAny_standAt (wpAny_bind ?_))
  show wpAny _ X.A (do let _ ← comprehension (.ListComp elt [⟨tg, iter, ifs, 0⟩] scope pos) scope X.env _ (newList []) false (eval iter X.env) (some (assign (.Name y py) X.env))) _ _ s
  refine wpAny_bind (wpAny_mono (wpAny_comprehension_free (use := some (assign (.Name y py) X.env)) (Q := fun _ s' => SP X pins D .next s') rfl hs hclos' S.kind S.loc (thn (hi pins s σ H _ I h) fun v s1 h1 => thn h1 fun itv s2 h2 => ?_)) (fun _ s' hq => wpAny_pure (wpAny_pure hq)) fun _ _ e => e)
  obtain ⟨it, fp, tn, J, H2, e, I2, T, st2, f2, q2⟩ := h2
  subst e
  have hfresh : H2 s2.heap.objs.size = none := I2.hok.fresh (Nat.le_refl _)
  obtain ⟨W, ⟨m0, w0⟩, turn⟩ := q2 s2.heap.objs.size hfresh
  refine wpAny_newObj_type (wpAny_newFunctionEnv S.own (by intro y hy; simp at hy) (fun h₁ hns₁ hsb₁ => ?_) S.kind)
  dsimp only at hns₁ hsb₁ ⊢
  generalize hG : s2.heap.push { cls := .type "list", dict := none, data := .seq ([] : List Value).toArray } = G at hns₁ hsb₁ ⊢
  have hGs : G.objs.size = s2.heap.objs.size + 1 := by rw [← hG, Heap.size_push]
  have kold : ∀ b o, s2.heap.get? b = some o → h₁.get? b = some o := fun b o e =>
    hsb₁.extBut b o (by rw [hGs]; exact Nat.ne_of_lt (Nat.lt_succ_of_lt (Heap.lt_size e))) (Heap.get?_push_of_some _ (hG ▸ Heap.get?_push_of_some _ e))
  have kD : h₁.get? s2.heap.objs.size = some { cls := .type "list", dict := none, data := .seq ([] : List Value).toArray } :=
    hsb₁.extBut _ _ (by rw [hGs]; exact Nat.ne_of_lt (Nat.lt_succ_self _)) (Heap.get?_push_of_some _ (hG ▸ Heap.get?_push_size _ rfl))
  have hok1 : HOk X.prog X.w (upd H2 s2.heap.objs.size (.lst [])) h₁ := I2.hok.laid kold (Nat.le_refl _) ⟨Nat.zero_le _, [], 0, .nil, kD⟩
  have hfpl : ∀ b ∈ fp, b < s2.heap.objs.size := fun b hb => by
    obtain ⟨o, e, _⟩ := T.obj _ _ st2 b hb
    exact Heap.lt_size e
  have hC0 : (upd H2 s2.heap.objs.size (.lst [])) G.objs.size = none := by
    rw [upd_ne (by rw [hGs]; exact Nat.ne_of_gt (Nat.lt_succ_self _))]
    exact I2.hok.fresh (by rw [hGs]; exact Nat.le_succ _)
  generalize hRR : (compPost (model X.prog X.w) X.A X.xe (some (assign (.Name y py) X.env)) (fun _ s' => SP X pins D .next s') (.ref s2.heap.objs.size) G.objs.size) = RR
  have stat : ∀ {H' : Hp}, (∀ b ∈ fp, H' b = none) → ∀ b ∈ fp, FpOk (compCx X scope N cl G.objs.size fp s2 H2 (notedBy (model X.prog X.w) X.A (compEnvC scope cl G.objs.size X.env) fun e s' => RR (.error e) s')) [] H' b := fun {H'} hn b hb => by
    obtain ⟨f0, f1, f2', f3, f4, f5⟩ := f2 b hb
    refine ⟨hn b hb, Nat.ne_of_lt (Nat.lt_of_lt_of_le (hfpl b hb) (by show _ ≤ G.objs.size; rw [hGs]; exact Nat.le_succ _)), fun z => ?_, .inl hb, fun x c e => f4 x c (hcl x c e), fun p hp => absurd (show p ∈ ([] : List (Addr × Obj)) from hp) (by simp)⟩
    rcases List.mem_cons.mp (I2.stkSub b z) with q | q
    · exact f1 q
    · exact f2' q
  have I3 : ∀ tk, Inv (compCx X scope N cl G.objs.size fp s2 H2 (notedBy (model X.prog X.w) X.A (compEnvC scope cl G.objs.size X.env) fun e s' => RR (.error e) s')) [] (inner nt js σ) (upd H2 s2.heap.objs.size (.lst [])) { s2 with heap := h₁, toks := tk } := fun tk =>
    comp_start S I2 f2 hcl hcl2 hfpl (by rw [hGs]; exact Nat.le_succ _) kold (fun b o e => by rw [upd_ne (ne_of_none e hfresh)]; exact e) (fun b n hb => by rw [upd_ne (Nat.ne_of_lt hb)]; exact n) hok1 hns₁ hC0 (fun _ => rfl)
  have loop : ∀ s₃ : Shared, s₃ = { s2 with heap := h₁, toks := s2.toks + ([] : List (Str × Value)).length } →
      codeAny (model X.prog X.w) X.A (.compLoop (.ListComp elt [⟨tg, iter, ifs, 0⟩] scope pos) 0 (.ref it) (.ref s2.heap.objs.size) (compEnvC scope cl G.objs.size X.env)) RR s₃ := by
    rintro s₃ rfl
    refine compLoop_any (fun n s' => ∃ i ys H', Inv (compCx X scope N cl G.objs.size fp s2 H2 (notedBy (model X.prog X.w) X.A (compEnvC scope cl G.objs.size X.env) fun e s' => RR (.error e) s')) [] (inner nt js σ) H' s' ∧ tn i s'.heap ∧ (∀ b ∈ fp, H' b = none) ∧ W i n ys H') ?_ m0
      ⟨0, [], _, I3 _, T.keep _ _ _ st2 fun b hb o e => kold b o e, fun b hb => by rw [upd_ne (Nat.ne_of_lt (hfpl b hb))]; exact (f2 b hb).1, w0⟩
    rintro n s3 ⟨i, ys, H3, J3, st3, fr3, w3⟩
    rcases turn i n ys H3 w3 with ⟨stop, qn⟩ | ⟨go, NN, hN, step⟩
    · refine thn (T.done (compCx X scope N cl G.objs.size fp s2 H2 (notedBy (model X.prog X.w) X.A (compEnvC scope cl G.objs.size X.env) fun e s' => RR (.error e) s')) rfl rfl rfl hca i [] s3 (inner nt js σ) H3 _ J3 (stat fr3) st3 stop) fun r s4 zr4030 => ?_
      obtain ⟨hr, I4⟩ := zr4030
      subst hr
      show RR (.ok .next) s4
      rw [← hRR]
      obtain ⟨mC, hnC, _⟩ := id I4.loc
      have I5 : Inv X pins σ H3 s4 := I2.call' (s' := s4) I4.os I4.base I4.hok I4.bare (fun b hb => by
        obtain ⟨f0, f1, f2', f3, f4, f5⟩ := f2 b hb
        exact ⟨f3, f1, f4, f5⟩)
      show wpAny _ X.A (assign (.Name y py) X.env (.ref s2.heap.objs.size)) _ _ s4
      have hCL : G.objs.size ≠ X.env.locals := Nat.ne_of_gt (Nat.lt_of_lt_of_le I2.lt (by rw [hGs]; exact Nat.le_succ _))
      have hCc : ∀ x c, X.env.cells.lookup x = some c → c ≠ G.objs.size := fun x c e z => by
        obtain ⟨v, q⟩ := I2.cell x c e
        exact absurd (Nat.lt_of_lt_of_le q.lt (by rw [z, hGs]; exact Nat.le_succ _)) (Nat.lt_irrefl _)
      refine wpAny_assign_Name (store_ok2 I5 hN hi0 hy (v := .ref s2.heap.objs.size) rfl (fun s6 I6 zr4043 => ?_) hf)
      obtain ⟨ad, sb, had⟩ := zr4043
      have hadC : G.objs.size ≠ ad := by
        rcases had with z | z
        · rw [z]; exact hCL
        · exact fun e => hCc _ _ z e.symm
      refine ⟨mC, hnC.sameBut sb hadC, fun h'' hs'' => ?_⟩
      refine ⟨_, H3, Inv.turned (t' := s6.toks) (it := G.objs.size) I6 (fun b o hb e => hs''.extBut b o hb e) I4.free hCL (.inr (Nat.le_trans I2.sz (by rw [hGs]; exact Nat.le_succ _))) hCc (fun p hp z => ?_), qn⟩
      have e := (I2.pin p hp).1
      exact absurd (Nat.lt_of_lt_of_le (Heap.lt_size e) (by rw [z, hGs]; exact Nat.le_succ _)) (Nat.lt_irrefl _)
    · refine thn (T.item (compCx X scope N cl G.objs.size fp s2 H2 (notedBy (model X.prog X.w) X.A (compEnvC scope cl G.objs.size X.env) fun e s' => RR (.error e) s')) rfl rfl rfl hca i [] s3 (inner nt js σ) H3 _ J3 (stat fr3) st3 go) fun r s4 zr4052 => ?_
      obtain ⟨u, hr, h4⟩ := zr4052
      subst hr
      refine thn h4 fun _ s5 zr4054 => ?_
      obtain ⟨x, H5, I5, r5, y5, st5, fr5⟩ := zr4054
      have I5' := I5.pinned (stat fr5) (T.obj _ _ st5)
      have g5 := hgo x (inner nt js σ) H5 _ inner_none (step x H5 y5)
      refine thn (hg cl G.objs.size fp s2 H2 _ _ s5 _ H5 x u _ I5' r5 g5) fun _ s6 zr4057 => ?_
      obtain ⟨σ6, H6, I6, wk6, q6⟩ := zr4057
      refine thn (hc cl G.objs.size fp s2 H2 _ _ s6 σ6 H6 _ I6 q6) fun ok s7 zr4058 => ?_
      obtain ⟨H7, I7, q7⟩ := zr4058
      have again : ∀ {s8 : Shared} {H8 : Hp} {ys' : List V}, Inv (compCx X scope N cl G.objs.size fp s2 H2 (notedBy (model X.prog X.w) X.A (compEnvC scope cl G.objs.size X.env) fun e s' => RR (.error e) s')) ([] ++ pinsAt fp s5.heap) σ6 H8 s8 → NN ys' H8 →
          ∃ m, m < n ∧ ∃ i ys H', Inv (compCx X scope N cl G.objs.size fp s2 H2 (notedBy (model X.prog X.w) X.A (compEnvC scope cl G.objs.size X.env) fun e s' => RR (.error e) s')) [] (inner nt js σ) H' s8 ∧ tn i s8.heap ∧ (∀ b ∈ fp, H' b = none) ∧ W i m ys H' := fun {s8 H8 ys'} I8 n8 => by
        obtain ⟨m', hm, w8⟩ := hN ys' H8 n8
        refine ⟨m', hm, i + 1, ys', H8, (I8.unpinned).wk wk6, T.keep _ _ _ st5 fun b hb o e => (I8.pin (b, o) (List.mem_append_right _ (List.mem_append_right _ (mem_pinsAt hb e)))).1, fun b hb => ?_, w8⟩
        obtain ⟨o, e, d⟩ := T.obj _ _ st5 b hb
        exact (I8.pin (b, o) (List.mem_append_right _ (List.mem_append_right _ (mem_pinsAt hb e)))).2.1
      cases ok with
      | false =>
        rw [if_neg Bool.false_ne_true] at q7 ⊢
        exact again I7 q7
      | true =>
        rw [if_pos rfl] at q7 ⊢
        refine thn (he cl G.objs.size fp s2 H2 _ _ s7 σ6 H7 _ I7 q7) fun y s8 zr4071 => ?_
        obtain ⟨yv, H8, I8, r8, hD8, hl8, q8⟩ := zr4071
        refine thn (mt_append (X := compCx X scope N cl G.objs.size fp s2 H2 (notedBy (model X.prog X.w) X.A (compEnvC scope cl G.objs.size X.env) fun e s' => RR (.error e) s')) _ s8 σ6 H8 (.ref s2.heap.objs.size) [yv] (.ref s2.heap.objs.size) [y] (fun _ H9 => NN (ys ++ [yv]) H9) I8 rfl (.cons r8 .nil) ⟨_, ys, yv, rfl, rfl, hD8, hl8, q8⟩) fun v9 s9 zr4072 => ?_
        obtain ⟨x9, H9, I9, r9, q9⟩ := zr4072
        exact again I9 q9
  subst hRR
  exact codeAny_compStart_list (loop _ rfl) (T.self _ 0 _ _ _ (T.keep _ _ _ st2 fun b hb o e => kold b o e) (loop _ rfl))
end
end L2
namespace L2
open PySem PySem.Spec PyProof.Rows
noncomputable def CompG (J : It) (σ0 : St) (g : TG) (tc : TT) (te : TE) (Q : VK) (H1 : Hp) (D : Addr) : Prop := ∃ W : Nat → Nat → List V → Hp → Prop, (∃ m, W 0 m [] (upd H1 D (.lst []))) ∧
  ∀ i m ys H2, W i m ys H2 → (J.stop i H2 ∧ Q (.ref D) H2) ∨ (J.go i H2 ∧ ∃ N : List V → Hp → Prop, (∀ ys' H', N ys' H' → ∃ m', m' < m ∧ W (i + 1) m' ys' H') ∧
    ∀ x H', J.yld i H2 x H' → g x σ0 H' fun σ2 H3 => tc σ2 H3 fun b H4 => if b = true then te σ2 H4 fun y H5 => H5 D = some (.lst ys) ∧ ys.length < sizeLine ∧ N (ys ++ [y]) (upd H5 D (.lst (ys ++ [y]))) else N ys H4)
theorem tComp_eq (nt : Nat) (js : List Nat) (wi : TI) (g : TG) (tc : TT) (te : TE) : tComp nt js wi g tc te = fun σ H Q => wi σ H fun J H1 => ∀ D, H1 D = none → CompG J (inner nt js σ) g tc te Q H1 D := rfl
noncomputable def ForG (J : It) (g : TG) (tb : TS) (D : Ends) (σ : St) (H1 : Hp) : Prop := ∃ W : Nat → Nat → St → Hp → Prop, (∃ m, W 0 m σ H1) ∧ ∀ i m σ H, W i m σ H →
  (J.stop i H ∧ D.nx σ H) ∨ (J.go i H ∧ ∃ N : St → Hp → Prop, (∀ σ' H', N σ' H' → ∃ m', m' < m ∧ W (i + 1) m' σ' H') ∧ ∀ x H', J.yld i H x H' → g x σ H' fun σ2 H2 => tb { D with nx := N, ct := N, bk := D.nx } σ2 H2)
theorem tFor_eq (wi : TI) (g : TG) (tb : TS) : tFor wi g tb = fun D σ H => wi σ H fun J H1 => ForG J g tb D σ H1 := rfl
theorem for_g {J : It} {xs : List V} {C : Hp → Prop} (w : Wlk J xs C) {g : TG} {tb : TS} {D : Ends} {σ : St} {H : Hp} (Pv : Nat → St → Hp → Prop) (h0 : Pv 0 σ H) (hl : ∀ i σ H, Pv i σ H → C H)
    (hs : ∀ i x σ H, i < xs.length → xs[i]? = some x → Pv i σ H → g x σ H fun σ2 H2 => tb { D with nx := Pv (i + 1), ct := Pv (i + 1), bk := D.nx } σ2 H2) (hd : ∀ σ H, Pv xs.length σ H → D.nx σ H) : ForG J g tb D σ H :=
  for_wlk w Pv h0 hl hs hd
theorem comp_g {J : It} {xs : List V} {C : Hp → Prop} (w : Wlk J xs C) {g : TG} {tc : TT} {te : TE} {σ0 : St} {Q : VK} {H1 : Hp} {D : Addr} (Pv : Nat → List V → Hp → Prop) (h0 : Pv 0 [] (upd H1 D (.lst []))) (hl : ∀ i ys H, Pv i ys H → C H)
    (hs : ∀ i x ys H, i < xs.length → xs[i]? = some x → Pv i ys H → g x σ0 H fun σ2 H3 => tc σ2 H3 fun b H4 => if b = true then te σ2 H4 fun y H5 => H5 D = some (.lst ys) ∧ ys.length < sizeLine ∧ Pv (i + 1) (ys ++ [y]) (upd H5 D (.lst (ys ++ [y]))) else Pv (i + 1) ys H4)
    (hd : ∀ ys H, Pv xs.length ys H → Q (.ref D) H) : CompG J σ0 g tc te Q H1 D := comp_wlk w Pv h0 hl hs hd
theorem inner0 (js : List Nat) (σ : St) : inner 0 js σ = js.map fun j => (σ[j]?).join := rfl
theorem inner1 (js : List Nat) (σ : St) : inner 1 js σ = none :: js.map fun j => (σ[j]?).join := rfl
theorem inner2 (js : List Nat) (σ : St) : inner 2 js σ = none :: none :: js.map fun j => (σ[j]?).join := rfl
theorem inner3 (js : List Nat) (σ : St) : inner 3 js σ = none :: none :: none :: js.map fun j => (σ[j]?).join := rfl
theorem Same.upd_new {H H1 : Hp} {p : Addr} {o : HO} (s : Same H H1) (hp : H1 p = none) : Same H (upd H1 p o) := fun b u e => by
  have e1 := s b u e
  rw [upd_ne (ne_of_none e1 hp)]; exact e1
theorem Same.upd0 {H : Hp} {p : Addr} {o : HO} (hp : H p = none) : Same H (upd H p o) := (Same.refl H).upd_new hp
end L2
namespace L2
open PySem PySem.Spec PyProof.Rows
noncomputable def IsB (H : Hp) (x : V) (T : String) (k : Bool) : Prop := match x with
  | .non => k = false
  | .bl _ => k = (T == "bool" || T == "int")
  | .int _ => k = (T == "int")
  | .str _ => k = (T == "str")
  | .ref a => (∃ vs, H a = some (.tup vs) ∧ k = (T == "tuple")) ∨ (∃ vs, H a = some (.lst vs) ∧ k = (T == "list"))
  | _ => False
noncomputable def rIsB : List V → Hp → VK → Prop := fun xs H Q => ∃ x T, xs = [x, .ty T] ∧ (T = "int" ∨ T = "str" ∨ T = "bool" ∨ T = "tuple" ∨ T = "list") ∧ ∃ k, IsB H x T k ∧ Q (.bl k) H
theorem kit_all (K : PySem.W.Frag) {T : String} (h : T = "int" ∨ T = "str" ∨ T = "bool" ∨ T = "tuple" ∨ T = "list") :
    PySem.W.kitOne K (.type "NoneType") (.type T) = some false ∧ PySem.W.kitOne K (.type "bool") (.type T) = some (T == "bool" || T == "int") ∧ PySem.W.kitOne K (.type "int") (.type T) = some (T == "int") ∧
    PySem.W.kitOne K (.type "str") (.type T) = some (T == "str") ∧ PySem.W.kitOne K (.type "tuple") (.type T) = some (T == "tuple") ∧ PySem.W.kitOne K (.type "list") (.type T) = some (T == "list") := by
  rcases h with rfl | rfl | rfl | rfl | rfl
  all_goals exact ⟨rfl, rfl, rfl, rfl, rfl, rfl⟩
theorem call_isB {X : Cx} : CallR X (.builtin "isinstance") rIsB := call_isi.imp fun xs H Q ⟨x, T, e, hT, k, hk, q⟩ => by
  obtain ⟨k1, k2, k3, k4, k5, k6⟩ := kit_all X.K hT
  cases x with
  | non => cases hk; exact ⟨_, _, T, _, e, .non, k1, q⟩
  | bl b => cases hk; exact ⟨_, _, T, _, e, .bl b, k2, q⟩
  | int b => cases hk; exact ⟨_, _, T, _, e, .int b, k3, q⟩
  | str b => cases hk; exact ⟨_, _, T, _, e, .str b, k4, q⟩
  | ref a =>
    rcases hk with ⟨vs, h, rfl⟩ | ⟨vs, h, rfl⟩
    · exact ⟨_, _, T, _, e, .tup h, k5, q⟩
    · exact ⟨_, _, T, _, e, .lst h, k6, q⟩
  | _ => exact hk.elim
end L2
namespace L2
open PySem PySem.Spec PyProof.Rows
section
variable {X : Cx} {x : Str} {pos : Pos}
theorem pe_cI {i : Int} (h : ∃ t, X.mg x = some (.int i t)) (hg : Gl X x) (hd : (x == ("__debug__" : Str)) = false := by decide) : PE X (.Name x pos) (tC (.int i)) := by
  obtain ⟨t, h⟩ := h
  exact pe_glob hg h ⟨t, rfl⟩ hd
noncomputable def tCT (K : PySem.W.Frag) (xs : List V) : TE := fun _ H Q => ∀ a, SqT K H a xs → Q (.ref a) H
noncomputable def ConstT (K : PySem.W.Frag) (mg : Str → Option Value) (x : Str) (xs : List V) : Prop :=
  ∃ (a : Addr) (o : Obj) (its : Array Value) (n : Nat), mg x = some (.ref a) ∧ K.lookup a = some o ∧ o.cls = .type "tuple" ∧ o.data = .seq its n ∧ its.size ≤ sizeLine ∧ Vals xs its.toList
theorem pe_cT {xs : List V} (h : ConstT X.K X.mg x xs) (hg : Gl X x) (hd : (x == ("__debug__" : Str)) = false := by decide) : PE X (.Name x pos) (tCT X.K xs) := by
  obtain ⟨a, o, its, n, hm, h1, h2, h3, h4, h5⟩ := h
  intro pins s σ H Q I q
  exact pe_glob (v := .ref a) hg hm rfl hd pins s σ H Q I (q a (.inr ⟨o, its, n, h1, h2, h3, h4, h5⟩))
end
end L2
namespace L2
open PySem
noncomputable def smallB (c : Nat) : Bool := decide (97 ≤ c) && decide (c ≤ 122)
end L2
namespace L2
open PySem
theorem lt_a (c : Nat) : decide ([c] < (Str.ofString "a").cps.toList) = decide (c < 97) := by
  rw [show (Str.ofString "a").cps.toList = [97] by decide +kernel, Bool.eq_iff_iff]
  simp [List.cons_lt_cons_iff]
theorem lt_z (c : Nat) : decide ((Str.ofString "z").cps.toList < [c]) = decide (122 < c) := by
  rw [show (Str.ofString "z").cps.toList = [122] by decide +kernel, Bool.eq_iff_iff]
  simp [List.cons_lt_cons_iff]
theorem small_rd {c : Nat} {Q : Bool → Prop} (q : Q (smallB c)) : if decide (c < 97) = false then Q (!decide (122 < c)) else Q false := by
  unfold smallB at q
  by_cases h : c < 97
  · rw [decide_eq_true h, if_neg (by decide)]
    rw [decide_eq_false (show ¬ 97 ≤ c by omega), Bool.false_and] at q
    exact q
  · rw [decide_eq_false h, if_pos rfl]
    rw [decide_eq_true (show 97 ≤ c by omega), Bool.true_and] at q
    by_cases h2 : 122 < c
    · rw [decide_eq_true h2]; rw [decide_eq_false (show ¬ c ≤ 122 by omega)] at q; exact q
    · rw [decide_eq_false h2]; rw [decide_eq_true (show c ≤ 122 by omega)] at q; exact q
end L2
namespace L2
open PySem
theorem str_len_append (a b : Str) : (a ++ b).length = a.length + b.length := by
  show (a ++ b).cps.size = a.cps.size + b.cps.size
  exact Array.size_append
end L2
namespace L2
open PySem PySem.Spec PyProof.Rows
theorem comp_map {J : It} {xs : List V} {C : Hp → Prop} (w : Wlk J xs C) {te : TE} {σ0 : St} {Q : VK} {H1 : Hp} {D : Addr} (f : V → V) (hD : H1 D = none) (hC : ∀ H', Same H1 H' → C H') (hn : xs.length ≤ 1000)
    (he : ∀ (x : V) (H2 : Hp) (Q2 : VK), x ∈ xs → Same H1 H2 → Q2 (f x) H2 → te (σ0.set 0 (some x)) H2 Q2)
    (hd : ∀ H2, Same H1 H2 → H2 D = some (.lst (xs.map f)) → Q (.ref D) H2) : CompG J σ0 (gName 0) tYes te Q H1 D := by
  refine comp_g w (fun i ys H => ys = (xs.take i).map f ∧ i ≤ xs.length ∧ Same H1 H ∧ H D = some (.lst ys)) ⟨by simp, Nat.zero_le _, Same.upd0 hD, upd_same⟩ (fun i ys H h => hC _ h.2.2.1) ?_ ?_
  · rintro i x ys H hi hx ⟨rfl, hle, sm, hd⟩
    simp only [gName, tYes, if_true]
    refine he x H _ (List.mem_of_getElem? hx) sm ⟨hd, by simp; exact small1000 (by omega), ?_, hi, ?_, upd_same⟩
    · rw [List.take_add_one, hx]; simp
    · exact fun b o e => by rw [upd_ne (ne_of_none e hD)]; exact sm b o e
  · rintro ys H ⟨rfl, _, sm, hd'⟩
    rw [List.take_length] at hd'
    exact hd H sm hd'
end L2
namespace L2
open PySem
theorem hu100 {A : Around} {k : Nat} (hr : Room k A) : A.units + 100 < cLine := by have := hr.un; omega
end L2
namespace HT
open PySem PyProof.Rows
section
variable {prog : Program} {w : World} {A : Around} {E : Value → Shared → Prop} {s : Shared}
theorem cat_tup0 {t b : Addr} {vs ws : List Value} {Q : Value → Shared → Prop} (ht : IsTup s.heap t vs.toArray) (hb : IsTup s.heap b ws.toArray) (hv : vs = [])
    (h1 : Q (.ref b) s) : wpAny (model prog w) A (binaryOp .Add (.ref t) (.ref b)) Q E s := by
  obtain ⟨⟨cls, dd, data, sl⟩, ho, hc, n, hd⟩ := id ht
  obtain ⟨⟨cls2, dd2, data2, sl2⟩, ho2, hc2, n2, hd2⟩ := id hb
  simp only at hc hd hc2 hd2
  subst hc hd hc2 hd2
  exact concat_meets ⟨_, ho, rfl⟩ ⟨_, ho2, rfl⟩ noFill_tuple_add seq_tuple_add PySem.F.slot_tuple_add PySem.F.entry_tuple_add (PySem.F.args_tuple_add_2 _ _)
      (tuple_addW0 t b vs.toArray ws.toArray n n2 dd dd2 sl sl2 (by simp [hv])) ⟨ho, ho2, h1⟩
end
end HT
namespace L2
open PySem PySem.Spec PyProof.Rows
section
variable {X : Cx} {a b o e l : Expr} {es : List Expr} {ta tb to : TE} {t : TA} {pos : Pos} {tg : Expr}
noncomputable def rCT : R2 := fun x y H Q => ∃ l, x = .ref l ∧ ∃ b, y = .ref b ∧ ∃ xs, H l = some (.tup xs) ∧ ∃ ys, H b = some (.tup ys) ∧ xs.length + ys.length ≤ sizeLine ∧
  (xs = [] → Q (.ref b) H) ∧ (xs ≠ [] → ys = [] → Q (.ref l) H) ∧ (xs ≠ [] → ys ≠ [] → ∀ p, H p = none → Q (.ref p) (upd H p (.tup (xs ++ ys))))
theorem op_catTA : OpR X (binaryOp .Add) rCT := by
  intro pins s σ H x y v u Q I rx ry h
  obtain ⟨a, rfl, b, rfl, xs, ha, ys, hb, hz, q0, q1, q2⟩ := h
  by_cases hx : xs = []
  · cases rx
    cases ry
    obtain ⟨its, r1, p1, _⟩ := I.tuple (SqT.of ha)
    obtain ⟨its2, r2, p2, _⟩ := I.tuple (SqT.of hb)
    exact HT.cat_tup0 p1 p2 (r1.nil_iff.mpr hx) ⟨.ref b, H, I, rfl, q0 hx⟩
  · exact op_catT pins s σ H _ _ v u Q I rx ry ⟨a, b, xs, ys, rfl, rfl, .of ha, .of hb, hx, hz, q1 hx, q2 hx⟩
noncomputable def CDivW (i j : Int) : Prop := 0 < j ∧ j < 18446744073709551616
theorem op_fdivW : OpR X (binaryOp .FloorDiv) (rI CDivW fun i j => .int (i / j)) := opI fun i j _ _ _ _ _ hc q => by
  have h1 : (0 : Int) < j := hc.1
  have h2 : j < 18446744073709551616 := hc.2
  refine floordiv_int (by omega) (by rw [Int.fdiv_eq_ediv_of_nonneg i (by omega)]; exact q) (.inl (PyProof.noPylong_of_log2 ?_))
  have h3 : j.natAbs < 2 ^ 64 := by omega
  exact Nat.lt_trans ((Nat.log2_lt (by omega)).mpr h3) (by decide)
noncomputable abbrev RMS := Str → List V → Hp → VK → Prop
noncomputable def MtS (X : Cx) (id : String) (r : RMS) : Prop := MtR X id fun x vs H Q => ∃ p, x = .str p ∧ r p vs H Q
noncomputable def tMS (r : RMS) (to : TE) (t : TA) : TE := fun σ H Q => to σ H fun x H1 => ∃ p, x = .str p ∧ t σ H1 fun vs H2 => r p vs H2 Q
variable {name : Str} {id : String} {r : RMS} {apos cpos : Pos}
theorem pe_mS (slot : Slot "str" name id) (hty : typeOf (.builtin id) = pure (.type "method_descriptor")) (hm : MtS X id r) (ho : PE X o to) (ha : PA X (e :: es) t)
    (hbase : attributeBase o name X.env (eval o X.env) = eval o X.env := by rfl)
    (hfew : ((backTo cpos (starEach (e :: es) X.env)).all (fun x => !x.1) && (backToKw cpos (keywordEach [] X.env)).all (fun x => x.1.isSome)
      && decide ((e :: es).length + ([] : List Keyword).length + (if ([] : List Keyword).isEmpty then 0 else 1) < 30)) = true := by rfl)
    (hline : (apos.endLine == cpos.line) = true := by rfl) (hs : starEach (e :: es) X.env = (false, eval e X.env) :: starEach es X.env := by rfl) (hplain : (backTo cpos (starEach es X.env)).any (·.1) = false := by rfl) :
    PE X (.Call (.Attribute o name apos) (e :: es) [] cpos) (tMS r to t) := by
  intro pins s σ H Q I h
  refine wpAny_Call_method_late hbase hfew hline rfl (thn (ho pins s σ H _ I h) fun v s1 zr4243 => ?_)
  obtain ⟨x, H1, I1, r1, p, ex, q1⟩ := zr4243
  subst ex
  obtain ⟨h1, h2⟩ := tyV_is I1 r1 (show tyV X.K "str" (.str p) H1 from rfl)
  refine ⟨"str", id, PySem.F.plainAttrs_str, slot, hty, h1, h2, ?_⟩
  have hA := ha cpos pins s1 σ H1 _ I1 q1
  rw [hs] at hA ⊢
  refine Calls.callWith_builtin (by show (false || (backTo cpos (starEach es X.env)).any (·.1)) = false; rw [hplain] <;> rfl) (Calls.evalArgs_plain ?_)
  refine thn hA fun us s2 zr4250 => ?_
  obtain ⟨vs, H2, I2, rr, q2⟩ := zr4250
  exact hm pins s2 σ H2 (.str p) vs v us Q I2 r1 rr ⟨p, rfl, q2⟩
theorem strsAre_of {ns : List Str} : ∀ {us : List Value}, Vals (ns.map V.str) us → StrsAre us ns := by
  induction ns with
  | nil => intro us h; cases h; exact .nil
  | cons n ns ih =>
    intro us h
    cases h with
    | cons r1 r2 =>
      obtain ⟨t, rfl⟩ := r1
      exact .cons _ _ (ih r2)
noncomputable def rmJoin : RMS := fun z vs H Q => ∃ p, vs = [.ref p] ∧ ∃ ys : List Str, H p = some (.lst (ys.map V.str)) ∧ (ys.map (·.length)).sum + ys.length * z.length ≤ 16777216 ∧ Q (.str (Txt.join z ys)) H
theorem ms_join : MtS X "str.join" rmJoin := by
  intro pins s σ H x vs v us Q I rx rv h
  obtain ⟨z, rfl, p, rfl, ys, hp, hok, q⟩ := h
  obtain ⟨t, rfl⟩ := rx
  obtain ⟨u, rfl, ru⟩ := vals1 rv
  cases ru
  obtain ⟨its, r, pl, hz⟩ := I.list (SqL.of hp)
  exact join_list pl.isList (ys := ys) (by simpa using strsAre_of r) hok fun t' k => ⟨.str _, H, I.tok k, ⟨t', rfl⟩, q⟩
noncomputable def rmIndex : RMS := fun z vs H Q => ∃ y, vs = [.str y] ∧ ∃ i rest, Builtin.Str.occurrences z y 0 z.length 1 = i :: rest ∧ Q (.int (i : Nat)) H
theorem ms_index : MtS X "str.index" rmIndex := by
  intro pins s σ H x vs v us Q I rx rv h
  obtain ⟨z, rfl, y, rfl, i, rest, ho, q⟩ := h
  obtain ⟨t, rfl⟩ := rx
  obtain ⟨u, rfl, ru⟩ := vals1 rv
  obtain ⟨t', rfl⟩ := ru
  exact SC.index ho ⟨.int i, H, I.tok _, ⟨_, rfl⟩, q⟩
end
end L2
namespace L2
open PySem PySem.Spec PyProof.Rows
theorem str_ext {a b : Str} (h : a.cps.toList = b.cps.toList) : a = b := by
  cases a; cases b; congr 1; exact Array.ext' h
theorem append_cps (a b : Str) : (a ++ b).cps.toList = a.cps.toList ++ b.cps.toList := by
  show (a.cps ++ b.cps).toList = _
  simp
theorem filterMap_range' (l : List Nat) (s : Nat) : ∀ n, s + n ≤ l.length → ((List.range n).map fun k => s + k).filterMap (fun i => l[i]?) = (l.drop s).take n
  | 0, _ => by simp
  | n + 1, h => by
    rw [List.range_succ, List.map_append, List.filterMap_append, filterMap_range' l s n (by omega), List.take_add_one]
    have e : l[s + n]? = some (l[s + n]'(by omega)) := by simp
    simp [e, List.getElem?_drop]
theorem sl_idx (lo hi : Option Int) (n : Nat) : Builtin.Str.strSliceIndices lo hi 1 n = (List.range (HT.sIx n n hi - HT.sIx n 0 lo)).map fun k => HT.sIx n 0 lo + k := by
  have clip : ∀ (v : Int) (d : Nat), (if (1 : Int) > 0 then max 0 (min (if v < 0 then v + (n : Int) else v) (n : Int)) else max (-1) (min (if v < 0 then v + (n : Int) else v) ((n : Int) - 1))) = ((HT.sIx n d (some v) : Nat) : Int) := fun v d => by
    rw [if_pos (by decide)]
    show max 0 (min (if v < 0 then v + (n : Int) else v) (n : Int)) = (((if v < 0 then (v + (n : Int)).toNat else min v.toNat n) : Nat) : Int)
    split <;> rw [Int.max_def, Int.min_def] <;> split <;> split <;> omega
  have base : ∀ (a b : Nat), sliceRange (a : Int) (b : Int) 1 = (List.range (b - a)).map fun k => a + k := fun a b => by
    unfold sliceRange
    simp only [show (1 : Int) > 0 by decide, if_true, Int.one_mul]
    have e : (if (a : Int) < (b : Int) then ((b : Int) - (a : Int) + 1 - 1) / 1 else 0).toNat = b - a := by
      split
      · rw [Int.ediv_one]; omega
      · show (0 : Int).toNat = b - a
        rw [Int.toNat_zero]; omega
    rw [e]
    refine List.map_congr_left fun k _ => ?_
    omega
  unfold Builtin.Str.strSliceIndices
  cases lo with
  | none => cases hi with
    | none => exact base 0 n
    | some v => simp only []; rw [clip v n]; exact base 0 _
  | some u => cases hi with
    | none => simp only []; rw [clip u 0]; exact base _ n
    | some v => simp only []; rw [clip u 0, clip v n]; exact base _ _
theorem slice_cps (x : Str) (lo hi : Option Int) : (Txt.slice x lo hi).cps.toList = (x.cps.toList.drop (HT.sIx x.length 0 lo)).take (HT.sIx x.length x.length hi - HT.sIx x.length 0 lo) := by
  have h1 := HT.sIx_le x.length x.length (Nat.le_refl _) hi
  have h0 := HT.sIx_le x.length 0 (Nat.zero_le _) lo
  have hl : x.cps.toList.length = x.length := by show x.cps.toList.length = x.cps.size; simp
  unfold Txt.slice
  rw [sl_idx]
  split
  · rename_i h
    simp only [beq_self_eq_true, Bool.true_and, List.length_map, List.length_range, beq_iff_eq] at h
    have e0 : HT.sIx x.length 0 lo = 0 := by omega
    rw [h, e0, List.drop_zero, ← hl, List.take_length]
  · show ((List.map _ _).filterMap (fun i => x.cps[i]?)).toArray.toList = _
    rw [List.toList_toArray]
    rw [← filterMap_range' _ _ _ (by omega)]
    refine congrArg (fun f => List.filterMap f _) (funext fun i => ?_)
    simp
theorem join_cps (ys : List Str) : (Txt.join (Str.ofString "") ys).cps.toList = ys.flatMap fun y => y.cps.toList := by
  have key : ∀ (l : List Str) (acc : Array Nat), (l.foldl (fun acc p => acc ++ (Str.ofString "").cps ++ p.cps) acc).toList = acc.toList ++ l.flatMap fun y => y.cps.toList := by
    intro l
    induction l with
    | nil => intro acc; simp
    | cons a l ih =>
      intro acc
      rw [List.foldl_cons, ih]
      have e : (Str.ofString "").cps = #[] := by decide +kernel
      simp [e]
  show ((ys.drop 1).foldl _ (ys.headD Str.empty).cps).toList = _
  rw [key]
  cases ys with
  | nil => simp; decide +kernel
  | cons a l => simp
structure IsNm (w : Str) : Prop where
  pos : 1 ≤ w.length
  le : w.length ≤ 8
  small : ∀ c ∈ w.cps.toList, smallB c = true
theorem len_cps (x : Str) : x.cps.toList.length = x.length := by show x.cps.toList.length = x.cps.size; simp
theorem IsNm.cons {w : Str} (h : IsNm w) : ∃ c cs, w.cps.toList = c :: cs ∧ smallB c = true ∧ (∀ x ∈ cs, smallB x = true) ∧ cs.length ≤ 7 := by
  have hl := len_cps w
  cases e : w.cps.toList with
  | nil => rw [e] at hl; have := h.pos; simp at hl; omega
  | cons c cs =>
    rw [e] at hl
    have := h.le
    exact ⟨c, cs, rfl, h.small c (by rw [e]; simp), fun x hx => h.small x (by rw [e]; simp [hx]), by simp at hl; omega⟩
theorem IsNm.of {w : Str} {c : Nat} {cs : List Nat} (e : w.cps.toList = c :: cs) (hc : smallB c = true) (hcs : ∀ x ∈ cs, smallB x = true) (hl : cs.length ≤ 7) : IsNm w := by
  have h := len_cps w
  rw [e] at h
  simp at h
  refine ⟨by omega, by omega, fun x hx => ?_⟩
  rw [e] at hx
  rcases List.mem_cons.mp hx with rfl | q
  · exact hc
  · exact hcs x q
theorem letters_at {r : Int} (h0 : 0 ≤ r) (h1 : r < 26) : atI (Str.ofString "abcdefghijklmnopqrstuvwxyz").cps.toList r = some (97 + r.toNat) := by
  obtain ⟨n, rfl⟩ := Int.eq_ofNat_of_zero_le h0
  rw [show (Str.ofString "abcdefghijklmnopqrstuvwxyz").cps.toList = List.range' 97 26 by decide +kernel]
  refine atI_nat ?_
  rw [List.getElem?_range' (by omega)]
  simp
theorem letters_len : (Str.ofString "abcdefghijklmnopqrstuvwxyz").length ≤ sizeLine := by decide +kernel
theorem letters_index {c : Nat} (h : smallB c = true) : Builtin.Str.occurrences (Str.ofString "abcdefghijklmnopqrstuvwxyz") ⟨#[c]⟩ 0 (Str.ofString "abcdefghijklmnopqrstuvwxyz").length 1 = (c - 97) :: [] := by
  have key : ∀ i : Fin 26, Builtin.Str.occurrences (Str.ofString "abcdefghijklmnopqrstuvwxyz") ⟨#[97 + i.1]⟩ 0 (Str.ofString "abcdefghijklmnopqrstuvwxyz").length 1 = [i.1] := by decide +kernel
  simp only [smallB, Bool.and_eq_true, decide_eq_true_eq] at h
  have := key ⟨c - 97, by omega⟩
  simp only [show 97 + (c - 97) = c by omega] at this
  exact this
noncomputable def nxtC (c : Nat) : Nat := 97 + (c - 97 + 1) % 26
noncomputable def nxtL : List Nat → List Nat
  | [] => []
  | c :: cs => nxtC c :: cs
noncomputable def nxtW (w : Str) : Str := ⟨(nxtL w.cps.toList).toArray⟩
noncomputable def nxtN : Nat → Str → Str
  | 0, w => w
  | n + 1, w => nxtN n (nxtW w)
theorem small_nxtC (c : Nat) : smallB (nxtC c) = true := by
  have := Nat.mod_lt (c - 97 + 1) (show 0 < 26 by decide)
  unfold smallB nxtC
  rw [Bool.and_eq_true, decide_eq_true_eq, decide_eq_true_eq]
  exact ⟨by omega, by omega⟩
theorem nxtW_nm {w : Str} (h : IsNm w) : IsNm (nxtW w) := by
  obtain ⟨c, cs, e, hc, hcs, hl⟩ := h.cons
  exact .of (c := nxtC c) (cs := cs) (by simp [nxtW, e, nxtL]) (small_nxtC c) hcs hl
theorem nxtN_cps {c : Nat} {cs : List Nat} : ∀ (n : Nat) {w : Str}, w.cps.toList = c :: cs → smallB c = true → (nxtN n w).cps.toList = (97 + (c - 97 + n) % 26) :: cs := by
  intro n
  induction n generalizing c with
  | zero =>
    intro w e hc
    simp only [smallB, Bool.and_eq_true, decide_eq_true_eq] at hc
    rw [nxtN, e]
    congr 1
    omega
  | succ n ih =>
    intro w e hc
    rw [nxtN, ih (c := nxtC c) (by simp [nxtW, e, nxtL]) (small_nxtC c)]
    congr 1
    simp only [nxtC]
    omega
theorem nodup_le {α : Type} [BEq α] [LawfulBEq α] : ∀ {xs ys : List α}, xs.Nodup → (∀ x ∈ xs, x ∈ ys) → xs.length ≤ ys.length
  | [], _, _, _ => by simp
  | x :: xs, ys, hn, h => by
    have hn' := List.nodup_cons.mp hn
    have hx := h x (by simp)
    have := nodup_le (xs := xs) (ys := ys.erase x) hn'.2 fun z hz => by
      have hne : z ≠ x := fun e => hn'.1 (e ▸ hz)
      exact (List.mem_erase_of_ne hne).mpr (h z (by simp [hz]))
    rw [List.length_erase_of_mem hx] at this
    have := List.length_pos_of_mem hx
    simp
    omega
theorem free_word {w : Str} (h : IsNm w) {F : List Str} (hF : F.length < 26) : ∃ n, nxtN n w ∉ F := by
  obtain ⟨c, cs, e, hc, hcs, hl⟩ := h.cons
  have hinj : ∀ i j, i < 26 → j < 26 → nxtN i w = nxtN j w → i = j := fun i j hi hj q => by
    have q2 := congrArg (fun z : Str => z.cps.toList) q
    simp only [nxtN_cps _ e hc] at q2
    have q3 := (List.cons.inj q2).1
    omega
  refine Classical.byContradiction fun hno => ?_
  have hall : ∀ n, nxtN n w ∈ F := fun n => Classical.byContradiction fun q => hno ⟨n, q⟩
  have hnd : ((List.range 26).map fun n => nxtN n w).Nodup := by
    refine List.pairwise_map.mpr (List.Pairwise.imp_of_mem (fun {i j} hi hj q e => q (hinj i j (List.mem_range.mp hi) (List.mem_range.mp hj) e)) (List.nodup_range (n := 26)))
  have := nodup_le (ys := F) hnd fun x hx => by
    obtain ⟨n, _, rfl⟩ := List.mem_map.mp hx
    exact hall n
  simp at this
  omega
theorem eqV_str (a b : Str) : eqV (.str a) (.str b) = decide (a = b) := by
  show (a == b) = decide (a = b)
  rw [Bool.eq_iff_iff]
  simp
theorem inV_strs (x : Str) (ys : List Str) : inV (.str x) (ys.map V.str) = decide (x ∈ ys) := by
  rw [Bool.eq_iff_iff]
  simp only [inV, List.any_map, List.any_eq_true, Function.comp, eqV_str, decide_eq_true_eq]
  constructor
  · rintro ⟨y, hy, rfl⟩; exact hy
  · exact fun h => ⟨x, h, rfl⟩
theorem flat_strs (ys : List Str) : (ys.map V.str).all flatV = true := by
  rw [List.all_eq_true]
  intro x hx
  obtain ⟨y, _, rfl⟩ := List.mem_map.mp hx
  rfl
noncomputable def marks4 : List Str := ["in", "from", "to", "end"]
structure NamesOk (ws : List Str) : Prop where
  nm : ∀ w ∈ ws, IsNm w
  nd : ws.Nodup
  nomark : ∀ w ∈ ws, w ∉ marks4
theorem NamesOk.nil : NamesOk [] := ⟨by simp, by simp, by simp⟩
theorem NamesOk.snoc {ws : List Str} {w : Str} (h : NamesOk ws) (hw : IsNm w) (hn : w ∉ ws) (hm : w ∉ marks4) : NamesOk (ws ++ [w]) := by
  refine ⟨fun x hx => ?_, ?_, fun x hx => ?_⟩
  · rcases List.mem_append.mp hx with q | q
    · exact h.nm x q
    · rw [List.mem_singleton.mp q]; exact hw
  · rw [List.nodup_append]
    refine ⟨h.nd, by simp, fun a ha b hb => ?_⟩
    rw [List.mem_singleton.mp hb]
    rintro rfl
    exact hn ha
  · rcases List.mem_append.mp hx with q | q
    · exact h.nomark x q
    · rw [List.mem_singleton.mp q]; exact hm
theorem atI_zero {α : Type} (x : α) (xs : List α) : atI (x :: xs) 0 = some x := atI_nat (j := 0) rfl
theorem edit_nm {z : Str} {r : Int} {c : Nat} (hz : IsNm z) (hc : smallB c = true) (r0 : 0 ≤ r) (r1 : r < z.length) : IsNm (Txt.slice z none (some r) ++ (Str.mk #[c]) ++ Txt.slice z (some (r + 1)) none) := by
  obtain ⟨n, rfl⟩ := Int.eq_ofNat_of_zero_le r0
  have hn : n < z.length := by omega
  have hl := len_cps z
  have e : (Txt.slice z none (some (n : Int)) ++ (Str.mk #[c]) ++ Txt.slice z (some ((n : Int) + 1)) none).cps.toList = z.cps.toList.take n ++ [c] ++ z.cps.toList.drop (n + 1) := by
    rw [append_cps, append_cps, slice_cps, slice_cps, HT.sIx_none, HT.sIx_nat, HT.sIx_none, show ((n : Int) + 1) = ((n + 1 : Nat) : Int) by omega, HT.sIx_nat, Nat.min_eq_left (by omega), Nat.min_eq_left (by omega)]
    rw [List.drop_zero, Nat.sub_zero, List.take_of_length_le (i := z.length - (n + 1)) (by rw [List.length_drop, hl]; omega)]
  have h8 := hz.le
  have hlen : (Txt.slice z none (some (n : Int)) ++ (Str.mk #[c]) ++ Txt.slice z (some ((n : Int) + 1)) none).length = z.length := by
    rw [← len_cps, e]
    simp only [List.length_append, List.length_take, List.length_drop, List.length_cons, List.length_nil, hl]
    omega
  refine ⟨by omega, by omega, fun x hx => ?_⟩
  rw [e] at hx
  rcases List.mem_append.mp hx with q | q
  · rcases List.mem_append.mp q with q | q
    · exact hz.small x (List.mem_of_mem_take q)
    · rw [List.mem_singleton.mp q]; exact hc
  · exact hz.small x (List.mem_of_mem_drop q)
theorem join_signs (cs : List Nat) : (Txt.join (Str.ofString "") (cs.map fun c => Str.mk #[c])).cps.toList = cs := by
  rw [join_cps]
  induction cs with
  | nil => rfl
  | cons c cs ih => simp [ih]
theorem sum_ones (cs : List Nat) : ((cs.map fun c => Str.mk #[c]).map fun x => x.length).sum = cs.length := by
  induction cs with
  | nil => rfl
  | cons c cs ih =>
    rw [List.map_cons, List.map_cons, List.sum_cons, ih]
    show 1 + cs.length = cs.length + 1
    omega
end L2
namespace L2
open PySem PySem.Spec PyProof.Rows
section
variable {X : Cx}
noncomputable def rSTs : V → Option Int → Option Int → Hp → VK → Prop := fun x lo hi H Q => ∃ a, x = .ref a ∧ ∃ xs, H a = some (.tup xs) ∧ ∀ p H', H' p = some (.tup (cutV xs lo hi)) → Same H H' → Q (.ref p) H'
theorem sl_Ts : SlR X rSTs := sl_T.imp fun _ _ _ _ _ zq24 => by obtain ⟨a, e, xs, h, q⟩ := zq24; exact (⟨a, e, xs, h, fun hw => q a _ (by rw [hw]; exact h) (Same.refl _), fun p hp => q p _ upd_same (Same.upd0 hp)⟩)
noncomputable def rCTs : R2 := fun x y H Q => ∃ l, x = .ref l ∧ ∃ b, y = .ref b ∧ ∃ xs, H l = some (.tup xs) ∧ ∃ ys, H b = some (.tup ys) ∧ xs.length + ys.length ≤ sizeLine ∧ ∀ p H', H' p = some (.tup (xs ++ ys)) → Same H H' → Q (.ref p) H'
theorem op_catTs : OpR X (binaryOp .Add) rCTs := op_catTA.imp fun _ _ _ _ ⟨l, e, b, e2, xs, h, ys, h2, hl, q⟩ => ⟨l, e, b, e2, xs, h, ys, h2, hl,
  fun hx => q b _ (by rw [hx]; exact h2) (Same.refl _), fun _ hy => q l _ (by rw [hy, List.append_nil]; exact h) (Same.refl _), fun _ _ p hp => q p _ upd_same (Same.upd0 hp)⟩
noncomputable def rSetLs : TSet := fun o i v H Q => ∃ p, o = .ref p ∧ ∃ k, i = .int k ∧ ∃ xs, H p = some (.lst xs) ∧ 0 ≤ k ∧ k < xs.length ∧ Q (upd H p (.lst (xs.set k.toNat v)))
theorem set_L : PSet X rSetLs := fun pins s σ H o i v ov iv u Q I ro ri rv zq25 => by obtain ⟨p, e1, k, e2, xs, h, k0, k1, q⟩ := zq25; exact (set_list pins s σ H o i v ov iv u Q I ro ri rv ⟨p, xs, k, k.toNat, e1, e2, h, by unfold ixN; rw [if_pos k0, if_pos (by omega)], q⟩)
end
theorem cut_map {α : Type} (f : α → V) (xs : List α) (n : Nat) : cutV (xs.map f) none (some (n : Int)) = (xs.take n).map f := by
  unfold cutV
  rw [HT.sIx_none, HT.sIx_nat, List.drop_zero, Nat.sub_zero, List.length_map, List.map_take]
  by_cases h : n ≤ xs.length
  · rw [Nat.min_eq_left h]
  · rw [Nat.min_eq_right (by omega), List.take_of_length_le (by simp), List.take_of_length_le (by simp; omega)]
theorem cut_map_from {α : Type} (f : α → V) (xs : List α) (n : Nat) : cutV (xs.map f) (some (n : Int)) none = (xs.drop n).map f := by
  unfold cutV
  rw [HT.sIx_none, HT.sIx_nat, List.length_map, List.map_drop]
  by_cases h : n ≤ xs.length
  · rw [Nat.min_eq_left h, List.take_of_length_le (by simp)]
  · rw [Nat.min_eq_right (by omega), List.drop_of_length_le (l := List.map f xs) (i := n) (by simp; omega)]
    simp
theorem cut_map_but {α : Type} (f : α → V) (xs : List α) : cutV (xs.map f) none (some (-1)) = xs.dropLast.map f := by
  unfold cutV
  have e : HT.sIx (List.map f xs).length (List.map f xs).length (some (-1)) = xs.length - 1 := by
    show (if (-1 : Int) < 0 then ((-1 : Int) + ((List.map f xs).length : Int)).toNat else min (-1 : Int).toNat (List.map f xs).length) = _
    rw [if_pos (by decide), List.length_map]
    omega
  rw [e, HT.sIx_none, List.drop_zero, Nat.sub_zero, List.dropLast_eq_take, List.map_take]
theorem atI0 {α : Type} (x : α) (xs : List α) : atI (x :: xs) 0 = some x := atI_nat (j := 0) rfl
theorem atI1 {α : Type} (x y : α) (xs : List α) : atI (x :: y :: xs) 1 = some y := atI_nat (j := 1) rfl
theorem atI2 {α : Type} (x y z : α) (xs : List α) : atI (x :: y :: z :: xs) 2 = some z := atI_nat (j := 2) rfl
theorem atI3 {α : Type} (x y z a : α) (xs : List α) : atI (x :: y :: z :: a :: xs) 3 = some a := atI_nat (j := 3) rfl
theorem atI4 {α : Type} (x y z a b : α) (xs : List α) : atI (x :: y :: z :: a :: b :: xs) 4 = some b := atI_nat (j := 4) rfl
theorem ofS_inj {a b : String} : (Str.ofString a = Str.ofString b) = (a = b) := by
  refine propext ⟨fun h => ?_, fun h => by rw [h]⟩
  rw [Str.ofString_eq_toList, Str.ofString_eq_toList] at h
  have h1 := congrArg (fun s : Str => s.cps.toList) h
  simp only [List.toList_toArray] at h1
  have key : ∀ (l1 l2 : List Char), l1.map Char.toNat = l2.map Char.toNat → l1 = l2 := by
    intro l1
    induction l1 with
    | nil => intro l2 h; cases l2 with
      | nil => rfl
      | cons a b => cases h
    | cons a b ih => intro l2 h; cases l2 with
      | nil => cases h
      | cons c d =>
        rw [List.map_cons, List.map_cons, List.cons.injEq] at h
        rw [ih d h.2, Char.toNat_inj.mp h.1]
  exact String.toList_injective (key _ _ h1)
section
variable {X : Cx} {pos : Pos}
theorem PG.imp {tg : Expr} {g g' : TG} (h : PG X tg g) (i : ∀ v σ H Q, g' v σ H Q → g v σ H Q) : PG X tg g' := fun pins s σ H v u Q I r q => h pins s σ H v u Q I r (i _ _ _ _ q)
noncomputable def gTupT (n : Nat) (t : TGs) : TG := fun v σ H Q => ∃ a, v = .ref a ∧ ∃ xs, H a = some (.tup xs) ∧ xs.length = n ∧ t xs σ H Q
theorem pg_tupT {es : List Expr} {k : Nat} {t : TGs} {n : Nat} (hc : X.calm = true) (h : PGs X es t)
    (hn : (assignEach es X.env).length = n := by rfl) (hst : (assignEach es X.env).findIdx? (·.1) = none := by rfl) : PG X (.Tuple es k pos) (gTupT n t) :=
  (pg_tup hc h hn hst).imp fun _ _ _ _ zq26 => by obtain ⟨a, e, xs, h, hl, q⟩ := zq26; exact (⟨a, xs, e, .of h, hl, q⟩)
end
end L2
namespace L2
open PySem PySem.Spec PyProof.Rows
noncomputable def clsAt (mg : Str → Option Value) (x : Str) : Addr := match mg x with | some (.ref a) => a | _ => 0
theorem clsAt_of {mg : Str → Option Value} {x : Str} {C : Addr} (h : mg x = some (.ref C)) : clsAt mg x = C := by unfold clsAt; rw [h]
section
variable {X : Cx} {l tg : Expr} {tl : TE} {K : PySem.W.Frag}
theorem pi_LK (hK : X.K = K) (hl : PE X l tl) : PI X tg l (iL K tl) := by subst hK; exact pi_L hl
theorem pi_TK (hK : X.K = K) (hl : PE X l tl) : PI X tg l (iT K tl) := by subst hK; exact pi_T hl
noncomputable def rAllL : List V → Hp → VK → Prop := fun xs H Q => ∃ p, xs = [.ref p] ∧ ∃ bs : List Bool, H p = some (.lst (bs.map V.bl)) ∧ Q (.bl (bs.all id)) H
theorem call_allL (hc : X.calm = true) : CallR X (.builtin "all") rAllL := (call_all_l hc).imp fun _ _ _ zq27 => by obtain ⟨p, e, bs, h, q⟩ := zq27; exact (⟨p, bs, e, .of h, q⟩)
end
end L2
set_option maxHeartbeats 4000000
namespace PySem
open PyProof.Rows
section
variable {prog : Program} {w : World} {A : Around} {E : Value → Shared → Prop} {s : Shared}
theorem tup_frozen : isSubtype (.type "tuple") (.type "frozenset") = pure false := by rw [isSubtype_type]; kernel_rfl
end
end PySem
namespace PySem
section
variable {prog : Program} {w : World} {A : Around} {E : Value → Shared → Prop} {s : Shared}
structure ZTup (g : Heap) (z P O I J S T : Addr) (i : Nat) (f0 f1 : Value) : Prop where
  zz : g.get? z = some { cls := .type "zip", dict := none, data := .fields #[f0, f1, .bool false, .ref P, .ref O], slots := #[] }
  pp : IsPair g P (.ref I) (.ref J)
  oo : ∃ a b, IsPair g O a b
  ii : g.IsTupleIter I S i
  jj : g.IsTupleIter J T i
theorem ZTup.keep {g g' : Heap} {z P O I J S T : Addr} {i : Nat} {f0 f1 : Value} (h : ZTup g z P O I J S T i f0 f1) (k : ∀ b ∈ [z, P, O, I, J], ∀ o, g.get? b = some o → g'.get? b = some o) : ZTup g' z P O I J S T i f0 f1 := by
  obtain ⟨a, b, oo⟩ := h.oo
  exact ⟨k z (by simp) _ h.zz, k P (by simp) _ h.pp, ⟨a, b, k O (by simp) _ oo⟩, h.ii.at fun o e => k I (by simp) o e, h.jj.at fun o e => k J (by simp) o e⟩
end
end PySem
namespace L2
open PySem PySem.Spec PyProof.Rows
section
variable {X : Cx}
noncomputable abbrev L3 := Str × Str × Int
end
end L2
namespace L2
open PySem PySem.Spec PyProof.Rows
noncomputable def RisingT (t : SetTable) : Prop := t.place.toList.Pairwise (· < ·)
theorem rise_at {xs : Array Nat} (hp : xs.toList.Pairwise (· < ·)) {k l v u : Nat} (hk : k < l) (e1 : xs[k]? = some v) (e2 : xs[l]? = some u) : v < u := by
  rw [← Array.getElem?_toList] at e1 e2
  obtain ⟨h1, rfl⟩ := List.getElem?_eq_some_iff.mp e1
  obtain ⟨h2, rfl⟩ := List.getElem?_eq_some_iff.mp e2
  exact List.pairwise_iff_getElem.mp hp k l h1 h2 hk
theorem below_go {xs : Array Nat} {j : Nat} (hp : xs.toList.Pairwise (· < ·)) : ∀ (f lo hi : Nat), hi - lo ≤ f → lo ≤ hi → hi ≤ xs.size → (∀ k v, k < lo → xs[k]? = some v → v < j) → (∀ k v, hi ≤ k → xs[k]? = some v → j ≤ v) →
    SetTable.below.go xs j f lo hi ≤ xs.size ∧ (∀ k v, k < SetTable.below.go xs j f lo hi → xs[k]? = some v → v < j) ∧ ∀ k v, SetTable.below.go xs j f lo hi ≤ k → xs[k]? = some v → j ≤ v := by
  intro f
  induction f with
  | zero =>
    intro lo hi h1 h2 h3 h4 h5
    have e : lo = hi := by omega
    subst e
    unfold SetTable.below.go
    exact ⟨h3, h4, h5⟩
  | succ f ih =>
    intro lo hi h1 h2 h3 h4 h5
    unfold SetTable.below.go
    by_cases hlt : lo < hi
    · rw [if_pos hlt]
      dsimp only
      have hm : (lo + hi) / 2 < hi := by omega
      have hm2 : lo ≤ (lo + hi) / 2 := by omega
      generalize (lo + hi) / 2 = mid at hm hm2 ⊢
      have hms : mid < xs.size := by omega
      have eg : xs[mid]? = some xs[mid] := by simp [hms]
      have ed : xs.getD mid j = xs[mid] := by simp [Array.getD, hms]
      rw [ed]
      by_cases hj : xs[mid] < j
      · rw [if_pos hj]
        refine ih (mid + 1) hi (by omega) (by omega) h3 (fun k v hk e => ?_) h5
        by_cases ek : k = mid
        · subst ek; rw [eg] at e; cases e; exact hj
        · exact Nat.lt_trans (rise_at hp (by omega) e eg) hj
      · rw [if_neg hj]
        refine ih lo mid (by omega) hm2 (by omega) h4 (fun k v hk e => ?_)
        by_cases ek : k = mid
        · subst ek; rw [eg] at e; cases e; omega
        · have := rise_at hp (show mid < k by omega) eg e
          omega
    · rw [if_neg hlt]
      have e : lo = hi := by omega
      subst e
      exact ⟨h3, h4, h5⟩
theorem below_ok {xs : Array Nat} {j : Nat} (hp : xs.toList.Pairwise (· < ·)) : SetTable.below xs j ≤ xs.size ∧ (∀ k v, k < SetTable.below xs j → xs[k]? = some v → v < j) ∧ ∀ k v, SetTable.below xs j ≤ k → xs[k]? = some v → j ≤ v :=
  below_go hp xs.size 0 xs.size (by omega) (by omega) (by omega) (fun k v h => absurd h (by omega)) fun k v h e => by
    have := (Array.getElem?_eq_some_iff.mp e).1
    omega
noncomputable def NotLive (t : SetTable) (j : Nat) : Prop := t.place[SetTable.below t.place j]? ≠ some j
theorem put_rise {t : SetTable} {j : Nat} (hr : RisingT t) (hj : NotLive t j) : RisingT (t.put j).1 := by
  unfold RisingT SetTable.put
  dsimp only
  rw [SetTable.toList_insertAt]
  obtain ⟨b1, b2, b3⟩ := below_ok (j := j) hr
  unfold NotLive at hj
  generalize SetTable.below t.place j = p at b1 b2 b3 hj ⊢
  have hd : ∀ v ∈ t.place.toList.drop p, j < v := fun v hv => by
    obtain ⟨i, hi, rfl⟩ := List.getElem_of_mem hv
    have e : t.place[p + i]? = some (t.place.toList.drop p)[i] := by rw [← Array.getElem?_toList, ← List.getElem?_drop]; simp [hi]
    have h1 := b3 (p + i) _ (by omega) e
    by_cases h0 : i = 0
    · subst h0
      have : (t.place.toList.drop p)[0] ≠ j := fun z => hj (by rw [z] at e; simpa using e)
      omega
    · have hl : p < t.place.size := by
        have := (Array.getElem?_eq_some_iff.mp e).1
        omega
      have e0 : t.place[p]? = some t.place[p] := by simp [hl]
      have h2 := b3 p _ (Nat.le_refl _) e0
      have h3 := rise_at hr (show p < p + i by omega) e0 e
      omega
  have ht : ∀ v ∈ t.place.toList.take p, v < j := fun v hv => by
    obtain ⟨i, hi, rfl⟩ := List.getElem_of_mem hv
    have hi' : i < p ∧ i < t.place.size := by simp at hi; omega
    exact b2 i _ hi'.1 (by rw [← Array.getElem?_toList, List.getElem_take]; simp [hi'.2])
  rw [List.pairwise_append, List.pairwise_cons]
  refine ⟨hr.sublist (List.take_sublist _ _), ⟨hd, hr.sublist (List.drop_sublist _ _)⟩, fun a ha b hb => ?_⟩
  rcases List.mem_cons.mp hb with rfl | hb
  · exact ht a ha
  · exact Nat.lt_trans (ht a ha) (hd b hb)
theorem laid_rise {mask f m : Nat} {led pl : Bool} {hs : Array Int} {t : SetTable} {od : Array Nat} (e : SetTable.laid mask f m led pl hs = some (t, od)) : RisingT t ∧ t.led = led := by
  unfold SetTable.laid at e
  cases eo : SetTable.layClean mask hs with
  | none => rw [eo] at e; cases e
  | some ow =>
    rw [eo] at e
    cases e
    refine ⟨?_, rfl⟩
    unfold RisingT
    dsimp only
    rw [List.pairwise_map]
    refine List.Pairwise.filterMap _ ?_ (List.pairwise_lt_range (n := mask + 1))
    intro a a' haa b hb b' hb'
    obtain ⟨x, hx, rfl⟩ := Option.map_eq_some_iff.mp hb
    obtain ⟨y, hy, rfl⟩ := Option.map_eq_some_iff.mp hb'
    exact haa
end L2
namespace PySem
open L2 PyProof.Rows PySem.Calls
section
variable {prog : Program} {w : World} {A : Around} {E : Value → Shared → Prop} {s : Shared}
noncomputable def hashNone : Int := 0xFCA86420
theorem pyHash_none {Q : Int → Shared → Prop} (h : Q hashNone { s with toks := s.toks + 1 }) : wpAny (model prog w) A (pyHash .none) Q E s := by
  have hT : s.TypeIs Value.none "NoneType" := rfl
  show wpAny _ _ (pyHashByItsType .none) Q E s
  unfold pyHashByItsType
  refine wpAny_bind ?_
  rw [cRoomFor, if_neg (by rw [show [Value.none].any Value.onHeap = false from rfl]; exact Bool.false_ne_true)]
  refine wpAny_pure (wpAny_bind (wpAny_specialOf hT PySem.F.slot_NoneType_hash.lookup ?_))
  refine wpAny_ite_split (fun z => by cases z) fun _ => ?_
  refine wpAny_bind (wpAny_specialOf hT PySem.F.slot_NoneType_hash.lookup ?_)
  refine wpAny_ite_split (fun z => by cases z) fun _ => ?_
  refine wpAny_bind (wpAny_callSpecialIfBoundUnlessNone?_slot hT PySem.F.slot_NoneType_hash (wpAny_call_entry PySem.F.slot_NoneType_hash hT PySem.F.entry_NoneType_hash (show wpAny _ _ (do ret (← mkInt hashNone)) _ _ s from wpAny_ret_mkInt ?_) (PySem.F.args_NoneType_hash_1 _)))
  show wpAny _ _ (if (decide (-(2 : Int) ^ 63 ≤ hashNone) && decide (hashNone < 2 ^ 63)) = true then _ else _) Q E _
  rw [if_pos (by decide)]
  exact wpAny_pure h
theorem eqBool_none {Q : Bool → Shared → Prop} (h : Q true s) : wpAny (model prog w) A (eqBool .none .none) Q E s := by
  unfold eqBool
  refine wpAny_holding ?_
  rw [if_pos (by decide)]
  exact wpAny_bind (wpAny_rule (wpAny_pure h))
end
end PySem
namespace L2
open PySem PySem.Spec PyProof.Rows
noncomputable def tVarM (i : Nat) : TE := fun σ H Q => match σ[i]? with | some (some v) => Q v H | _ => False
theorem tVarM_of {i : Nat} {σ : St} {H : Hp} {Q : VK} (h : tVarM i σ H Q) : tVar i σ H Q := by
  unfold tVarM at h
  split at h
  · exact ⟨_, by assumption, h⟩
  · exact h.elim
theorem pvM {X : Cx} (i : Nat) {x : Str} {pos : Pos} (hN : X.N[i]? = some x := by rfl) (hv : Vis X.env.scope x := by first | exact Or.inl rfl | exact Or.inr (Or.inl rfl) | exact Or.inr (Or.inr rfl)) (hd : (x == ("__debug__" : Str)) = false := by decide)
    (hcd : (x == ("__classdict__" : Str)) = false := by decide) : PE X (.Name x pos) (tVarM i) := fun pins s σ H Q I h => pe_var hN hv hd hcd pins s σ H Q I (tVarM_of h)
end L2
namespace L2
open PySem PySem.Spec PyProof.Rows
structure TabAt (w : World) (K : PySem.W.Frag) (a : Addr) : Prop where
  ex : ∃ es n, K.lookup a = some ⟨.type "dict", none, .dict es n, #[]⟩ ∧ PySem.W.KeysLit w.params es.toList
noncomputable def FnT (P : Program) (w : World) (K : PySem.W.Frag) (mg : Str → Option Value) (base : Heap) (a : Addr) (x : Str) (k : Nat) (ps : List Str) (sp : Sp) : Prop :=
  ∃ f fd, FnOk P w K mg base CX0 k f fd ps sp ∧ PySem.W.nsIn K a x = some (some (.ref f)) ∧ PySem.W.keepIn K (.ref f) = true ∧ Binds K fd ps []
theorem fnT_of {P : Program} {w : World} {K : PySem.W.Frag} {mg : Str → Option Value} {base : Heap} {a f : Addr} {x y : Str} {j k : Nat} {ps : List Str} {sp sp' : Sp} (F : Fn P w K mg base y j ps sp) (hm : mg y = some (.ref f)) (hn : PySem.W.nsIn K a x = some (some (.ref f))) (h : j ≤ k)
    (hs : ∀ vs H Q E, sp' vs H Q E → sp vs H Q E) : FnT P w K mg base a x k ps sp' := by
  obtain ⟨f', fd, F, m, kp, b⟩ := F
  rw [hm] at m
  cases m
  exact ⟨f, fd, (F.mono h).imp hs, hn, kp, b⟩
noncomputable def tCallT (names : List Str) (sp : Str → Sp) (tb : TE) (t : TA) : TE := fun σ H Q => tb σ H fun y H1 => ∃ x, y = .str x ∧ x ∈ names ∧ t σ H1 fun vs H2 => sp x vs H2 Q E0
section
variable {X : Cx} {k : Nat} {ps : List Str} {x : Str} {p p1 pos : Pos} {e b : Expr} {es : List Expr} {tb : TE} {t : TA} {a : Addr}
theorem pe_callT {names : List Str} {sp : Str → Sp} (TA : TabAt X.w X.K a) (F : ∀ y ∈ names, FnT X.prog X.w X.K X.mg X.base a y k ps (sp y)) (hr : Room k X.A) (hg : Gl X x) (hm : X.mg x = some (.ref a)) (hb : PE X b tb) (ha : PA X (e :: es) t)
    (hs : PlainIx b) (hdb : (x == ("__debug__" : Str)) = false := by decide)
    (he : starEach (e :: es) X.env = (false, eval e X.env) :: starEach es X.env := by rfl) (hpl : (backTo pos (starEach es X.env)).any (·.1) = false := by rfl) :
    PE X (.Call (.Subscript (.Name x p) b p1) (e :: es) [] pos) (tCallT names sp tb t) := by
  intro pins s σ H Q I h
  show wpAny _ _ (do callWith pos (← eval (.Subscript (.Name x p) b p1) X.env) [] (backTo pos (starEach (e :: es) X.env)) (backToKw pos (keywordEach [] X.env))) _ _ s
  refine wpAny_bind (Subscript_ (ld_glob I hg hm (thn (hb pins s σ H _ I h) fun u s1 zr4771 => ?_) hdb))
  obtain ⟨v, H1, I1, r, y, ey, hy, q⟩ := zr4771
  subst ey
  obtain ⟨tk, rfl⟩ := r
  obtain ⟨f, fd, F, hn, kp, bd⟩ := F y hy
  obtain ⟨es', n, hl, hk⟩ := TA.ex
  have hmap := PySem.W.mapOf_K (prog := X.prog) I1.kIn hl hk
  refine PyProof.Rows.tail_any hmap.typeIs PySem.F.slot_dict_getitem.lookup (wpAny_getItem_of (strKind_is X.prog X.w y tk) hmap (PySem.W.find_K hl hn) ?_) (hs _ _)
  have I2 : Inv X pins σ H1 { s1 with toks := s1.toks + 1 } := I1.tok _
  refine PySem.W.callWith_K (h₀ := X.base) I.ok.mod.kin kp (thn (ha pos pins _ σ H1 _ I2 q) fun us s3 ⟨vs, H3, I3, r3, q3⟩ => ⟨I3.kIn, ?_⟩) he hpl
  exact run_fn F hr bd .nil pass0 I3 r3 (by rw [List.append_nil]; exact q3)
end
section
variable {X : Cx}
noncomputable def ZTup (H : Hp) (p : Addr) (ys : List V) : Prop := ∃ o : Obj, o.dict = none ∧ H p = some (.frz o (.tup ys))
theorem ZTup.keep {H H' : Hp} {p : Addr} {ys : List V} (h : ZTup H p ys) (k : ∀ o u, H p = some (.frz o u) → H' p = some (.frz o u)) : ZTup H' p ys := by
  obtain ⟨o, d, h⟩ := h
  exact ⟨o, d, k _ _ h⟩
end
end L2
namespace PySem
open AutoSeq1 (wpAny_loadPart')
section
variable {prog : Program} {w : World} {A : Around} {E : Value → Shared → Prop} {s : Shared}
theorem collect_range {Q : List Value → Shared → Prop} {r : Addr} {a b c : Int} {t u v : Tok} {n : Nat} (hh : A.handled = none) (hr : IsRange s.heap r a b c t u v) (hsmall : Builtin.Range.small a b c = true)
    (hn : Builtin.Range.rangeSize a b c = n) (hlen : n ≤ 2 ^ 24)
    (hQ : ∀ h' tk (acc : Array Value), (∀ b o, s.heap.get? b = some o → h'.get? b = some o) → s.heap.objs.size < h'.objs.size → ItemsOf (fun i v => ∃ t, v = .int (a + i * c) t) acc n → Q acc.toList { s with heap := h', toks := tk }) :
    wpAny (model prog w) A (collect (.ref r)) Q E s := by
  unfold collect
  refine wpAny_bind (wpAny_runValue (codeAny_builtin F.entry_proto_collect ?_))
  rw [Around.under_plainId F.plain_proto_collect _]
  show wpAny _ A.in1 (newList [] >>= fun l => again (.builtin "list.__iadd__" ⟨[l, .ref r], []⟩)) _ _ s
  refine wpAny_bind (wpAny_newObj_type ?_)
  refine wpAny_pure ⟨plainId_quiet F.plain_list_iadd _, codeAny_builtin F.entry_list_iadd ?_⟩
  rw [Around.under_plainId F.plain_list_iadd _]
  show wpAny _ A.in1 (Builtin.List.listExtendWith (.ref s.heap.objs.size) (.ref r) (.ref s.heap.objs.size)) _ _ _
  have hS : (s.heap.push { cls := .type "list", data := .seq ([] : List Value).toArray }).get? s.heap.objs.size = some { cls := .type "list", data := .seq #[] 0 } := Heap.get?_push_size _ rfl
  have fin' : ∀ (s' : Shared), (∃ h' tk acc' c', s' = { s with heap := h', toks := tk } ∧ (∀ b o, s.heap.get? b = some o → h'.get? b = some o) ∧ h'.get? s.heap.objs.size = some { cls := .type "list", dict := none, data := .seq acc' c', slots := #[] } ∧ ItemsOf (fun i v => ∃ t, v = .int (a + i * c) t) acc' n) →
      wpAny (model prog w) A (match Value.ref s.heap.objs.size with
      | Value.ref a => do
        match (← load a).data with
          | Data.seq xs _ => pure xs.toList
          | _ => unsupported "internal:collect"
      | _ => unsupported "internal:collect") Q E s' := by
    rintro s' ⟨h', tk, acc', c', rfl, hk, hS', hacc⟩
    show wpAny _ A (load s.heap.objs.size >>= _) _ _ _
    refine wpAny_bind (wpAny_load hS' ?_)
    exact wpAny_pure (hQ h' tk acc' hk (Heap.lt_size hS') hacc)
  refine wpAny_mono (wpAny_extend_range (A := A) (R := fun x s' => x = .ok (.ret (.ref s.heap.objs.size)) ∧ ∃ h' tk acc' c', s' = { s with heap := h', toks := tk } ∧ (∀ b o, s.heap.get? b = some o → h'.get? b = some o) ∧ h'.get? s.heap.objs.size = some { cls := .type "list", dict := none, data := .seq acc' c', slots := #[] } ∧ ItemsOf (fun i v => ∃ t, v = .int (a + i * c) t) acc' n)
    (s := { s with heap := s.heap.push { cls := .type "list", data := .seq ([] : List Value).toArray } }) hh (Heap.get?_push_of_some _ hr) hsmall hn hlen _ _ 0 hS fun h' tk acc' c' hk hS' hacc => ⟨rfl, h', tk, acc', c', rfl, fun b o e => hk b o (Nat.ne_of_lt (Heap.lt_size e)) (Heap.get?_push_of_some _ e), hS', hacc⟩) (fun fin s' h => ?_) (fun e s' h => ?_)
  · cases fin with
    | done f =>
      obtain ⟨e, q⟩ := h
      cases e
      exact fin' _ q
    | again c' => exact ⟨h.1, codeAny_mono h.2 fun r s'' hr => by obtain ⟨rfl, q⟩ := hr; exact fin' _ q⟩
  · exact absurd h.1 (by simp)
end
theorem tuple_new_range (r : Addr) (a b c : Int) (t u v : Tok) (n : Nat) (hsmall : Builtin.Range.small a b c = true) (hn : Builtin.Range.rangeSize a b c = n) (hlen : n ≤ 2 ^ 24) :
    Meets (Builtin.«tuple.__new__» ⟨[.type "tuple", .ref r], []⟩)
      (fun A R s => A.handled = none ∧ IsRange s.heap r a b c t u v ∧ ∀ (h' : Heap) tk (acc : Array Value), (∀ b o', s.heap.get? b = some o' → h'.get? b = some o') → ItemsOf (fun i v => ∃ t, v = .int (a + i * c) t) acc n → R (.ok (.ret (.ref h'.objs.size))) { s with heap := h'.push { cls := .type "tuple", data := .seq acc }, toks := tk }) :=
  .of_wp fun prog w A R s h => by
    obtain ⟨hp, g, d, tk, os⟩ := s; obtain ⟨hh, ht, h⟩ := h
    have hsub := sub_tuple_self
    have hinit := init_tuple_lookup
    have hmh := madeHere_tuple
    have hT : Shared.TypeIs ⟨hp, g, d, tk, os⟩ (.ref r) "range" := ⟨_, ht, rfl⟩
    wp_walk using wpAny_loadPart' ht, wpAny_typeOf hT, collect_range (A := A.in1) hh ht hsmall hn hlen
    intro h' tk' acc hk _ hacc
    show wpAny _ _ (Builtin.Tuple.tupleExact acc.toList.toArray >>= fun v => ret v) _ _ _
    unfold Builtin.Tuple.tupleExact
    refine wpAny_bind (wpAny_newObj_type ?_ (by show acc.toList.toArray.size ≤ sizeLine; rw [Array.toArray_toList, hacc.1]; exact Nat.le_trans hlen (by decide)))
    refine wpAny_pure ⟨_, rfl, ?_⟩
    rw [Array.toArray_toList]
    exact h h' tk' acc hk hacc
section
variable {prog : Program} {w : World} {A : Around} {E : Value → Shared → Prop} {s : Shared}
theorem call_tuple_range {r : Addr} {a b c : Int} {t u v : Tok} {n : Nat} {Q : Value → Shared → Prop} (hh : A.handled = none) (hr : IsRange s.heap r a b c t u v) (hsmall : Builtin.Range.small a b c = true) (hn : Builtin.Range.rangeSize a b c = n) (hlen : n ≤ 2 ^ 24)
    (h : ∀ (h' : Heap) tk (acc : Array Value), (∀ b o', s.heap.get? b = some o' → h'.get? b = some o') → ItemsOf (fun i v => ∃ t, v = .int (a + i * c) t) acc n → Q (.ref h'.objs.size) { s with heap := h'.push { cls := .type "tuple", data := .seq acc }, toks := tk }) :
    wpAny (model prog w) A (call (.type "tuple") [.ref r]) Q E s :=
  callType_new F.called_tuple (by decide) (F.typeCall_tuple_1 _) (F.newCall_tuple_1 _) (fun obj => F.args_object_init_2 obj _) F.entry_tuple_new
    (tuple_new_range r a b c t u v n hsmall hn hlen) ⟨hh, hr, fun h' tk acc hk ha => ⟨⟨_, Heap.get?_push_size _ rfl, rfl⟩, h h' tk acc hk ha⟩⟩
end
end PySem
namespace L2
open PySem PySem.Spec PyProof.Rows
section
variable {X : Cx}
noncomputable def rIsBl (neg : Bool) : R2 := fun x y H Q => ∃ i, x = .bl i ∧ ∃ j, y = .bl j ∧ Q (.bl (xor neg (decide (i = j)))) H
theorem op_isBl : OpR X (compareOp .Is) (rIsBl false) := by
  intro pins s σ H x y v u Q I rx ry h
  obtain ⟨i, rfl, j, rfl, q⟩ := h
  cases rx
  cases ry
  cases i <;> cases j <;> exact wpAny_pure (fin_bl I q rfl)
theorem op_notBl : OpR X (compareOp .IsNot) (rIsBl true) := by
  intro pins s σ H x y v u Q I rx ry h
  obtain ⟨i, rfl, j, rfl, q⟩ := h
  cases rx
  cases ry
  cases i <;> cases j <;> exact wpAny_pure (fin_bl I q rfl)
end
end L2
namespace PySem
open AutoSeq1 (wpAny_loadPart')
theorem noFill_tuple_mul : fillsNumberSlot (.type "tuple") "mul" = pure false :=
  fillsNumberSlot_seq (id := "tuple.__mul__") (r := some (.builtin "tuple.__rmul__")) F.slot_tuple_mul.lookup (by decide +kernel) F.slot_tuple_rmul.lookup (by decide +kernel)
theorem repeat_tuple : seqRepeat? (.type "tuple") = pure (some (.builtin "tuple.__mul__")) := by
  unfold seqRepeat?
  rw [seqSlot_of (T := "tuple") (name := "__mul__") (id := "tuple.__mul__") F.slot_tuple_mul.lookup (by decide +kernel), seqSlot_of (T := "tuple") (name := "__rmul__") (id := "tuple.__rmul__") F.slot_tuple_rmul.lookup (by decide +kernel)]
  rfl
theorem int_rmul_tuple (a : Int) (t : Tok) (l : Addr) (items : Array Value) (n : Nat) (dd : Option Addr) (sl : Array (Option Value)) :
    Meets (Builtin.«int.__rmul__» ⟨[.int a t, .ref l], []⟩) (fun _ R s => s.heap.get? l = some { cls := .type "tuple", dict := dd, data := .seq items n, slots := sl } ∧ R (.ok (.ret Value.notImplemented)) s) :=
  .of_wp fun prog w A R s h => by obtain ⟨hp, g, d, tk, os⟩ := s; obtain ⟨hl, h⟩ := h; wp_walk; exact ⟨_, rfl, h⟩
end PySem
namespace PySem.W
open PySem PySem.Calls PyProof.Rows
inductive Ky where
  | s (x : Str) | i (n : Int) | r (l : List Int)
noncomputable def VKy (h : Heap) (v : Value) : Ky → Prop
  | .s x => ∃ t, v = .str x t
  | .i n => ∃ t, v = .int n t
  | .r l => ∃ a its, v = .ref a ∧ IsTup h a its.toArray ∧ IntsAre its l
end PySem.W
namespace PySem.W
open PySem PySem.Calls PyProof.Rows
theorem among_app {pos : Pos} {r : List Value} (l : List Value) (h : TriplesOk l) : codeAmong pos (l ++ r) = (codeAmong pos l).or (codeAmong pos r) := by
  fun_induction TriplesOk l with
  | case1 => simp [codeAmong]
  | case2 a t b u x rest ih =>
    simp only [List.cons_append, codeAmong]
    split
    · rfl
    · exact ih h
  | case3 l h1 h2 => exact h.elim
theorem triples_app {r : List Value} (l : List Value) (h : TriplesOk l) (g : TriplesOk r) : TriplesOk (l ++ r) := by
  fun_induction TriplesOk l with
  | case1 => simpa using g
  | case2 a t b u x rest ih => exact ih h
  | case3 l h1 h2 => exact h.elim
end PySem.W
namespace L2
open PySem PySem.Spec PyProof.Rows
noncomputable def BMain (mg : Str → Option Value) (base : Heap) : Prop := ∃ bm ob, mg "__builtins__" = some (.ref bm) ∧ bm ≠ builtinsNs ∧ base.get? bm = some ob ∧ ob.cls = .type "module" ∧ ob.dict = some builtinsNs ∧ ob.data = .plain
noncomputable def FnLT (K : PySem.W.Frag) (mg : Str → Option Value) (x : Str) (st : Stmt) (ps : List Str) (P : Addr) : Prop :=
  ∃ f fd c, Fun K x x st f fd ∧ fd.code = .ref c ∧ PySem.W.codeHdIn K c P = true ∧ mg x = some (.ref f) ∧ Binds K fd ps []
section
variable {P : Program} {w : World} {K : PySem.W.Frag} {mg : Str → Option Value} {base : Heap}
theorem FnLT.ok {x : Str} {st : Stmt} {N ps : List Str} {pt : Addr} {k : Nat} {sp : Sp} (F : FnLT K mg x st ps pt) (S : FnScope N ps (defScope st)) (len : ∀ vs H Q E, sp vs H Q E → vs.length = ps.length)
    (hbody : ∀ (f c : Addr) (hc : PySem.W.codeHdIn K c pt = true) (A : Around) (outer : List Env) (s : Shared) (H : Hp) (vs : List V) (Q : VK) (E : XK), Room k (A.deeper (envOfC x (defScope st) s.heap.objs.size f (.ref c))) → sp vs H Q E →
      ∃ t, PSs (cxOf CX0 P w K mg base N x (defScope st) f (.ref c) A outer s H E).nox (defBody st) t ∧ t { nx := fun _ H' => Q .non H', rt := Q } (start N vs) H) : Fn P w K mg base x (k + 1) ps sp := by
  obtain ⟨f, fd, c, F, hcd, hc, m, b⟩ := F
  refine ⟨f, fd, ?_, m, F.kp, b⟩
  obtain ⟨oc, od, kV, doc, pm, an, cdv, ct, osl, rfl, lk, hcd'⟩ := F.ex
  have e : cdv = .ref c := hcd
  subst e
  refine fn_of lk hcd' S len fun A outer s H vs Q E hr hsp => ?_
  obtain ⟨t, h, q⟩ := hbody f c hc A outer s H vs Q E hr hsp
  exact ⟨t, h.nox, q⟩
theorem fnLT_mk {x : Str} {st : Stmt} {ps : List Str} {h : Heap} {f c pt : Addr} {oc : Value} {od an : Option Addr} {osl : Array (Option Value)} {kV doc pm cdv ct : Value} (X : K.In h) (G : h.Ns mainGlobals mg)
    (a : PySem.W.nsIn K mainGlobals x = some (some (.ref f)))
    (l : K.lookup f = some ⟨oc, od, .func (PySem.W.fnOf x x (defArgs st) (defBody st) (defScope st) .none kV doc pm an cdv ct), osl⟩)
    (c' : PySem.W.codeIn K cdv x = true) (k : PySem.W.keepIn K (.ref f) = true) (hcd : cdv = .ref c) (hc : PySem.W.codeHdIn K c pt = true)
    (hb : ∀ (kV doc pm : Value) (an : Option Addr) (cdv ct : Value) (us : List Value), us.length = ps.length → bindArgs (PySem.W.fnOf x x (defArgs st) (defBody st) (defScope st) .none kV doc pm an cdv ct) ⟨us, []⟩ = pure (ps.zip us)) : FnLT K mg x st ps pt :=
  ⟨f, _, c, fun_mk l c' k, hcd, hc, PySem.W.mg_of X G a, (fun_mk l c' k).binds hb⟩
end
end L2
namespace L2
open PySem PySem.Spec PyProof.Rows
open PySem.W (Ky VKy)
noncomputable def tabsH (tabs : List (Addr × Addr × Str)) (H : Hp) : Prop := ∀ t ∈ tabs, H t.2.1 = some (.tab t.2.2)
theorem nd_inj {α : Type} {f : α → Addr} {t t' : α} : ∀ {l : List α}, (l.map f).Nodup → t ∈ l → t' ∈ l → f t = f t' → t = t'
  | [], _, h, _, _ => by simp at h
  | x :: l, hn, h, h', e => by
    have hn : (f x :: l.map f).Nodup := hn
    obtain ⟨h1, h2⟩ := List.nodup_cons.mp hn
    rcases List.mem_cons.mp h with rfl | h
    · rcases List.mem_cons.mp h' with rfl | h'
      · rfl
      · exact absurd (List.mem_map.mpr ⟨t', h', e.symm⟩) h1
    · rcases List.mem_cons.mp h' with h' | h'
      · exact absurd (List.mem_map.mpr ⟨t, h, by rw [← h']; exact e⟩ : f x ∈ l.map f) h1
      · exact nd_inj h2 h h' e
theorem law_callT {P : Program} {w : World} {K : PySem.W.Frag} {mg mb : Str → Option Value} {k : Nat} {fa a : Addr} {fd : FuncData} {x : Str} {sp : Sp} {s₁ : Shared} {vs : List Value} {ns : List Int} {tabs : List (Addr × Addr × Str)}
    (KX : K.In s₁.heap) (hns : s₁.heap.Ns mainGlobals mg) (hb : s₁.heap.Ns builtinsNs mb) (hbb : ∀ x : Str, x ≠ "__name__" → mb x = bootBuiltins x) (hlim : s₁.heap.NoLimit) (hg : s₁.gens = #[]) (hbm : BMain mg s₁.heap)
    (hT : ∀ t ∈ tabs, s₁.heap.get? t.2.1 = some (PySem.W.tabObj #[])) (hC : ∀ t ∈ tabs, PySem.W.codeHdIn K t.1 t.2.1 = true) (hKt : ∀ t ∈ tabs, K.lookup t.2.1 = none) (hnd : (tabs.map (·.2.1)).Nodup)
    (ha : s₁.heap.get? a = some { cls := .type "list", data := .seq vs.toArray }) (hi : IntsAre vs ns) (hl : ns.length ≤ sizeLine) (hr : Room k callerA)
    (F : ∀ base : Heap, K.In base → base.Ns mainGlobals mg → BMain mg base → FnOk P w K mg base CX0 k fa fd [x] sp) (hbind : ∀ (s : Shared) (u : Value), BindsTo s fd ⟨[u], []⟩ [(x, u)])
    (hsp : ∀ H : Hp, tabsH tabs H → SqL K H a (ns.map V.int) → sp [.ref a] H (fun v H' => v = .bl true ∧ tabsH tabs H') fun _ _ _ => False) :
    codeAny (model P w) callerA (.call (.ref fa) ⟨[.ref a], []⟩) (fun r s' => r = .ok (.ret (.bool true)) ∧ OldK s₁.heap s'.heap ∧ s'.os = s₁.os ∧ AllBare s'.gens) s₁ := by
  have rv := vals_ints hi
  have lenV := hi.length
  have naT : ∀ t ∈ tabs, t.2.1 ≠ a := fun t ht z => by
    have := hT t ht
    rw [z, ha] at this
    cases this
  obtain ⟨S, hS1, hS2⟩ : ∃ S : Hp, (∀ b u, S b = some u → b = a ∧ K.lookup a = none ∧ u = .frz { cls := .type "list", data := .seq vs.toArray } (.lst (ns.map V.int))) ∧ ∀ H : Hp, (∀ b u, S b = some u → H b = some u) → SqL K H a (ns.map V.int) := by
    cases hk : K.lookup a with
    | some o =>
      have e := KX a o hk
      rw [ha] at e
      cases e
      refine ⟨fun _ => none, fun b u z => (nomatch (show (none : Option HO) = some u from z)), fun H _ => ?_⟩
      exact .inr ⟨_, vs.toArray, _, hk, rfl, rfl, rfl, by rw [List.size_toArray, lenV]; exact hl, by simpa using rv⟩
    | none =>
      refine ⟨fun b => if b = a then some (.frz { cls := .type "list", data := .seq vs.toArray } (.lst (ns.map V.int))) else none, fun b u z => ?_, fun H z => .inl (.inr ⟨_, z a _ (if_pos rfl)⟩)⟩
      by_cases hb : b = a
      · have z' := (if_pos hb).symm.trans z
        cases z'
        exact ⟨hb, rfl, rfl⟩
      · have z' := (if_neg hb).symm.trans z
        cases z'
  obtain ⟨H, hH1, hH2, hH3⟩ : ∃ H : Hp, (∀ b u, H b = some u → S b = some u ∨ ∃ t ∈ tabs, b = t.2.1 ∧ u = .tab t.2.2) ∧ tabsH tabs H ∧ ∀ b u, S b = some u → H b = some u := by
    refine ⟨fun b => match tabs.find? (fun t => t.2.1 == b) with | some t => some (.tab t.2.2) | none => S b, fun b u z => ?_, fun t ht => ?_, fun b u z => ?_⟩
    · cases q : tabs.find? (fun t => t.2.1 == b) with
      | some t =>
        simp only [q] at z
        have e := List.find?_some q
        exact .inr ⟨t, List.mem_of_find?_eq_some q, (eq_of_beq e).symm, (Option.some.inj z).symm⟩
      | none =>
        simp only [q] at z
        exact .inl z
    · cases q : tabs.find? (fun t' => t'.2.1 == t.2.1) with
      | some t' =>
        simp only [q]
        have e0 := List.find?_some q
        have e : t'.2.1 = t.2.1 := by simpa using e0
        have : t' = t := by
          have hm := List.mem_of_find?_eq_some q
          exact nd_inj hnd hm ht e
        rw [this]
      | none =>
        have := List.find?_eq_none.mp q t ht
        simp at this
    · have hb := (hS1 b u z).1
      cases q : tabs.find? (fun t => t.2.1 == b) with
      | some t =>
        have e0 := List.find?_some q
        have e : t.2.1 = b := by simpa using e0
        exact absurd (e.trans hb) (naT t (List.mem_of_find?_eq_some q))
      | none =>
        simp only [q]
        exact z
  have hok : HOk P w H s₁.heap := fun b u z => by
    rcases hH1 b u z with z | ⟨t, ht, rfl, rfl⟩
    · obtain ⟨rfl, _, rfl⟩ := hS1 b u z
      exact ⟨ha, by rw [List.length_map]; exact hl, vs, _, rv, ha⟩
    · exact ⟨#[], hT t ht, trivial, fun pos cv z => by simp [codeAmong] at z⟩
  have base_of : ∀ {b : Addr} {o : Obj}, s₁.heap.get? b = some o → H b = none → (hidT s₁.heap H).get? b = some o := fun e n => hidT_get e n
  have noA : ∀ {b : Addr} {o : Obj}, s₁.heap.get? b = some o → o.cls ≠ .type "list" → o.cls ≠ .none → H b = none := fun {b o} e d d2 => by
    cases q : H b with
    | none => rfl
    | some u =>
      rcases hH1 b u q with z | ⟨t, ht, rfl, rfl⟩
      · obtain ⟨rfl, _, _⟩ := hS1 b u z
        rw [ha] at e; cases e
        exact absurd rfl d
      · rw [hT t ht] at e; cases e
        exact absurd rfl d2
  have noD : ∀ {b : Addr} {o : Obj} {es : Array DictEntry} {ep : Nat}, s₁.heap.get? b = some o → o.data = .dict es ep → H b = none := fun {b o es ep} e d => by
    cases q : H b with
    | none => rfl
    | some u =>
      rcases hH1 b u q with z | ⟨t, ht, rfl, rfl⟩
      · obtain ⟨rfl, _, _⟩ := hS1 b u z
        rw [ha] at e; cases e
        have d' : Data.seq vs.toArray _ = Data.dict es ep := d
        cases d'
      · rw [hT t ht] at e; cases e
        have d' : Data.fields #[] = Data.dict es ep := d
        cases d'
  have nsK : ∀ {b : Addr} {m : Str → Option Value}, s₁.heap.Ns b m → (hidT s₁.heap H).Ns b m := fun {b m} zq28 => by obtain ⟨o, es, ep, e, d, r⟩ := zq28; exact (⟨o, es, ep, base_of e (noD e d), d, r⟩)
  have hKb : K.In (hidT s₁.heap H) := fun b o e => base_of (KX b o e) (by
    cases q : H b with
    | none => rfl
    | some u =>
      rcases hH1 b u q with z | ⟨t, ht, rfl, rfl⟩
      · obtain ⟨rfl, z2, _⟩ := hS1 b u z
        rw [z2] at e; cases e
      · rw [hKt t ht] at e; cases e)
  have hBb : BMain mg (hidT s₁.heap H) := by
    obtain ⟨bm, ob, h1, h2, h3, h4, h5, h6⟩ := hbm
    exact ⟨bm, ob, h1, h2, base_of h3 (noA h3 (by rw [h4]; decide) (by rw [h4]; decide)), h4, h5, h6⟩
  have hM : Mod K mg (hidT s₁.heap H) := ⟨hKb, nsK hns, ⟨mb, nsK hb, hbb⟩, let ⟨mc, h1, h2⟩ := hlim; ⟨mc, nsK h1, h2⟩⟩
  have e0 : Env0 P w K mg (hidT s₁.heap H) callerA [] s₁ H := ⟨rfl, hM, fun b o e => of_hidT e, Nat.le_of_eq (hidT_size _ _), trivial, fun b hb => absurd (show b ∈ ([] : List Addr) from hb) (by simp), hok, .of_eq hg⟩
  refine codeAny_mono ((F _ hKb (nsK hns) hBb).run callerA [] s₁ H ⟨[.ref a], []⟩ [.ref a] [.ref a] _ _ hr e0 (hbind s₁ (.ref a)) (.cons rfl .nil) (hsp H hH2 (hS2 H hH3))) fun r s' h => ?_
  cases r with
  | error e => exact h.elim
  | ok fl =>
    cases fl with
    | next => exact False.elim h
    | brk => exact False.elim h
    | cont => exact False.elim h
    | ret u =>
      obtain ⟨v, H', os, bare, un, hok', r', q⟩ := h
      obtain ⟨q', qT⟩ := q
      subst q'
      obtain rfl : u = Value.bool true := r'
      have frz : ∀ b u, S b = some u → ∀ o, s₁.heap.get? b = some o → s'.heap.get? b = some o := fun b u z o e => by
        obtain ⟨rfl, _, rfl⟩ := hS1 b u z
        have z2 := un.frzs b _ _ (hH3 _ _ z)
        obtain ⟨e2, _⟩ := hok' b _ z2
        rw [ha] at e; cases e
        exact e2
      refine ⟨rfl, ⟨fun b o e => ?_, fun b o e => un.there b o e (by simp)⟩, os, bare⟩
      cases q : H b with
      | none => exact .inl (un.keep b o e q (by intro z; exact absurd (show b ∈ ([] : List Addr) from z) (by simp)) (by simp))
      | some u =>
        rcases hH1 b u q with z | ⟨t, ht, rfl, rfl⟩
        · exact .inl (frz b u z o e)
        · obtain ⟨ps, e2, _⟩ := hok' _ _ (qT t ht)
          rw [hT t ht] at e
          cases e
          exact .inr (.inl ⟨((PySem.W.codeHd_of_K KX (hC t ht)).tab (hT t ht)).isCodeTable, rfl, #[], ps, rfl, by rw [Array.empty_append]; exact e2⟩)
theorem walk_ofT {l : PySem.W.OpenLaw} {n k : Nat} {q : Program} {loose : List Str} {XP : (Str → Option Value) → Heap → Prop} {YP : World → Heap → Prop} {d : DefRec} {K : Params → PySem.W.Frag} {sp : World → Sp} {x : Str} {tabs : List (Addr × Addr × Str)}
    (hn : l.most = some n) (hn2 : n ≤ sizeLine) (hdf : d.params.defaults = []) (hr : Room k callerA)
    (hY : ∀ (w : World) (h : Heap), YP w h → (K w.params).In h) (hT : ∀ (w : World) (h : Heap), YP w h → ∀ t ∈ tabs, h.get? t.2.1 = some (PySem.W.tabObj #[]))
    (hC : ∀ w : World, ∀ t ∈ tabs, PySem.W.codeHdIn (K w.params) t.1 t.2.1 = true) (hKt : ∀ w : World, ∀ t ∈ tabs, (K w.params).lookup t.2.1 = none) (hnd : (tabs.map (·.2.1)).Nodup)
    (F : ∀ (w : World) (mg : Str → Option Value) (fa : Addr) (h : Heap), (K w.params).In h → h.Ns mainGlobals mg → mg d.name = some (.ref fa) →
      ∃ fd : FuncData, (∀ (s : Shared) (u : Value), BindsTo s fd ⟨[u], []⟩ [(x, u)]) ∧
        ∀ base : Heap, (K w.params).In base → base.Ns mainGlobals mg → BMain mg base → FnOk l.prog w (K w.params) mg base CX0 k fa fd [x] (sp w))
    (hsp : ∀ (w : World) (H : Hp) (a : Addr) (ns : List Int), ns.length ≤ n → tabsH tabs H → SqL (K w.params) H a (ns.map V.int) → sp w [.ref a] H (fun v H' => v = .bl true ∧ tabsH tabs H') fun _ _ _ => False) :
    PySem.W.WalkO q loose XP YP l.row.toRowW d [] (fun f vs => PySem.call f vs) := by
  refine Att.attach_call hn hdf fun w s₀ s₁ mg mb fa o pm cd doc a vs ns G Y ho hd hcd hmg hobj hints hlen hg => ?_
  have KX := hY w _ Y
  obtain ⟨fd, hb, hF⟩ := F w mg fa _ KX G.T.g hmg
  exact law_callT KX G.T.g G.T.b G.T.builtins G.T.nolimit hg G.T.bmain (hT w _ Y) (hC w) (hKt w) hnd hobj hints (Nat.le_trans hlen hn2) hr hF hb fun H hO hS => hsp w H a ns hlen hO hS
end L2
namespace PySem
open L2 PyProof.Rows PySem.Calls
section
variable {prog : Program} {w : World} {A : Around} {E : Value → Shared → Prop} {s : Shared}
noncomputable def b01 (b : Bool) : Int := if b then 1 else 0
theorem pyHash_bool {b : Bool} {Q : Int → Shared → Prop} (h : Q (hashInt (b01 b)) { s with toks := s.toks + 1 }) : wpAny (model prog w) A (pyHash (.bool b)) Q E s := by
  have hT : s.TypeIs (.bool b) "bool" := rfl
  show wpAny _ _ (pyHashByItsType (.bool b)) Q E s
  unfold pyHashByItsType
  refine wpAny_bind ?_
  rw [cRoomFor, if_neg (by rw [show [Value.bool b].any Value.onHeap = false from rfl]; exact Bool.false_ne_true)]
  refine wpAny_pure (wpAny_bind (wpAny_specialOf hT PySem.F.slot_bool_hash.lookup ?_))
  refine wpAny_ite_split (fun z => by cases z) fun _ => ?_
  refine wpAny_bind (wpAny_specialOf hT PySem.F.slot_bool_hash.lookup ?_)
  refine wpAny_ite_split (fun z => by cases z) fun _ => ?_
  refine wpAny_bind (wpAny_callSpecialIfBoundUnlessNone?_slot hT PySem.F.slot_bool_hash (wpAny_call_entry PySem.F.slot_bool_hash hT PySem.F.entry_int_hash ?_ (PySem.F.args_int_hash_1 _)))
  have hr := rawHash_range (b01 b)
  cases b with
  | true =>
    refine (show wpAny _ _ (do ret (← mkInt (rawHash 1))) _ _ s from wpAny_ret_mkInt ?_)
    show wpAny _ _ (if (decide (-(2 : Int) ^ 63 ≤ rawHash 1) && decide (rawHash 1 < 2 ^ 63)) = true then _ else _) Q E _
    rw [if_pos (by decide)]
    exact wpAny_pure h
  | false =>
    refine (show wpAny _ _ (do ret (← mkInt (rawHash 0))) _ _ s from wpAny_ret_mkInt ?_)
    show wpAny _ _ (if (decide (-(2 : Int) ^ 63 ≤ rawHash 0) && decide (rawHash 0 < 2 ^ 63)) = true then _ else _) Q E _
    rw [if_pos (by decide)]
    exact wpAny_pure h
noncomputable def anyIs : Option Key → Value → Bool
  | none, .none => true
  | some (.inl i), .bool b => b01 b == i
  | some k, v => keyIs k v
  | _, _ => false
theorem anyIs_shape {k : Option Key} {v : Value} (h : anyIs k v = true) : (k = none ∧ v = .none) ∨ (∃ i t, k = some (.inl i) ∧ v = .int i t) ∨ (∃ x t, k = some (.inr x) ∧ v = .str x t) ∨ ∃ b, k = some (.inl (b01 b)) ∧ v = .bool b := by
  cases k with
  | none => cases v <;> first | exact .inl ⟨rfl, rfl⟩ | cases h
  | some k =>
    have main : keyIs k v = true → (some k = none ∧ v = .none) ∨ (∃ i t, some k = some (.inl i) ∧ v = .int i t) ∨ (∃ x t, some k = some (.inr x) ∧ v = .str x t) ∨ ∃ b, some k = some (.inl (b01 b)) ∧ v = .bool b := fun h => by
      rcases keyIs_shape h with ⟨i, t, rfl, rfl⟩ | ⟨x, t, rfl, rfl⟩
      · exact .inr (.inl ⟨i, t, rfl, rfl⟩)
      · exact .inr (.inr (.inl ⟨x, t, rfl, rfl⟩))
    cases v with
    | bool b =>
      cases k with
      | inl i => exact .inr (.inr (.inr ⟨b, by rw [eq_of_beq (show (b01 b == i) = true from h)], rfl⟩))
      | inr x => exact main h
    | _ => exact main (by cases k <;> exact h)
theorem anyIs_of {k : Key} {v : Value} (h : keyIs k v = true) : anyIs (some k) v = true := by
  rcases keyIs_shape h with ⟨i, t, rfl, rfl⟩ | ⟨x, t, rfl, rfl⟩ <;> exact h
noncomputable def anyH (w : World) : Option Key → Int | none => hashNone | some k => keyH w k
theorem anyEq {a b : Option Key} {u v : Value} {Q : Bool → Shared → Prop} (hu : anyIs a u = true) (hv : anyIs b v = true) (h : Q (decide (a = b)) s) : wpAny (model prog w) A (eqBool u v) Q E s := by
  have ii : ∀ i j : Int, decide (some (Sum.inl i : Key) = some (.inl j)) = (i == j) := fun i j => by rw [Bool.eq_iff_iff]; simp
  rcases anyIs_shape hu with ⟨rfl, rfl⟩ | ⟨i, t, rfl, rfl⟩ | ⟨x, t, rfl, rfl⟩ | ⟨c, rfl, rfl⟩ <;> rcases anyIs_shape hv with ⟨rfl, rfl⟩ | ⟨j, t', rfl, rfl⟩ | ⟨y, t', rfl, rfl⟩ | ⟨d, rfl, rfl⟩
  · exact eqBool_none (by simpa using h)
  · exact SeqAt.EqAt.none_int j t' _ _ _ _ (by simpa using h)
  · exact SeqAt.EqAt.none_str y t' _ _ _ _ (by simpa using h)
  · exact SeqAt.EqAt.none_bool d _ _ _ _ (by simpa using h)
  · exact SeqAt.EqAt.int_none i t _ _ _ _ (by simpa using h)
  · rw [ii] at h; exact wpAny_eqBool_int h
  · exact SeqAt.EqAt.int_str i t y t' _ _ _ _ (by simpa using h)
  · rw [ii] at h; exact SeqAt.EqAt.int_bool i t d _ _ _ _ h
  · exact SeqAt.EqAt.str_none x t _ _ _ _ (by simpa using h)
  · exact SeqAt.EqAt.str_int x t j t' _ _ _ _ (by simpa using h)
  · refine wpAny_eqBool_str ?_
    have e : decide (x = y) = decide (some (Sum.inr x : Key) = some (.inr y)) := decide_eq_decide.mpr ⟨fun e => by rw [e], fun e => Sum.inr.inj (Option.some.inj e)⟩
    rw [e]; exact h
  · exact SeqAt.EqAt.str_bool x t d _ _ _ _ (by simpa using h)
  · exact SeqAt.EqAt.bool_none c _ _ _ _ (by simpa using h)
  · rw [ii] at h; exact SeqAt.EqAt.bool_int c j t' _ _ _ _ h
  · exact SeqAt.EqAt.bool_str c y t' _ _ _ _ (by simpa using h)
  · rw [ii] at h
    refine SeqAt.EqAt.bool_bool c d _ _ _ _ ?_
    have e : (c == d) = (b01 c == b01 d) := by cases c <;> cases d <;> rfl
    rw [e]; exact h
noncomputable def anyKind (prog : Program) (w : World) : KeyKind prog w (Option Key) where
  is := anyIs
  hash := anyH w
  inj := fun v a b ha hb => by
    rcases anyIs_shape ha with ⟨rfl, rfl⟩ | ⟨i, t, rfl, rfl⟩ | ⟨x, t, rfl, rfl⟩ | ⟨c, rfl, rfl⟩ <;> rcases anyIs_shape hb with ⟨rfl, e⟩ | ⟨j, u, rfl, e⟩ | ⟨y, u, rfl, e⟩ | ⟨d, rfl, e⟩ <;> first | rfl | (cases e; rfl) | cases e
  byValue := fun k v h => by
    rcases anyIs_shape h with ⟨rfl, rfl⟩ | ⟨i, t, rfl, rfl⟩ | ⟨x, t, rfl, rfl⟩ | ⟨c, rfl, rfl⟩ <;> rfl
  pyHash := fun hv h => by
    rcases anyIs_shape hv with ⟨rfl, rfl⟩ | ⟨i, t, rfl, rfl⟩ | ⟨x, t, rfl, rfl⟩ | ⟨c, rfl, rfl⟩
    · exact pyHash_none h
    · exact wpAny_pyHash_int h
    · exact wpAny_pyHash_str h
    · exact pyHash_bool h
  eqBool := fun hu hv h => anyEq hu hv h
  «strs» := fun k x t v h => by
    rcases anyIs_shape h with ⟨rfl, e⟩ | ⟨i, u, rfl, e⟩ | ⟨y, u, rfl, e⟩ | ⟨c, rfl, e⟩
    · cases e
    · cases e
    · cases e
      show anyIs (some (.inr x)) v = v.isStr x
      cases v <;> rfl
    · cases e
end
end PySem
namespace L2
open PySem PySem.Spec PyProof.Rows
noncomputable def itr {α : Type} (f : α → α) : Nat → α → α
  | 0, x => x
  | n + 1, x => itr f n (f x)
theorem itr_add {α : Type} (f : α → α) : ∀ (a b : Nat) (x : α), itr f (a + b) x = itr f b (itr f a x)
  | 0, b, x => by rw [Nat.zero_add]; rfl
  | a + 1, b, x => by rw [Nat.succ_add_eq_add_succ, Nat.add_succ]; exact itr_add f a b (f x)
theorem itr_succ {α : Type} (f : α → α) (n : Nat) (x : α) : itr f (n + 1) x = f (itr f n x) := itr_add f n 1 x
noncomputable abbrev Pb := SetTable.Probe
noncomputable def adv (m : Nat) (p : Pb) : Pb :=
  if p.more > 0 then { p with j := p.j + 1, more := p.more - 1 } else
  { p with j := (p.i * 5 + 1 + p.perturb / 32) % (m + 1), more := SetTable.runEnd m ((p.i * 5 + 1 + p.perturb / 32) % (m + 1)) - (p.i * 5 + 1 + p.perturb / 32) % (m + 1), i := (p.i * 5 + 1 + p.perturb / 32) % (m + 1), perturb := p.perturb / 32 }
noncomputable def runP (m : Nat) (x : Nat × Nat) : Pb := { j := x.1, more := SetTable.runEnd m x.1 - x.1, i := x.1, perturb := x.2, dummy := none }
noncomputable def lp (m : Nat) (x : Nat × Nat) : Nat × Nat := ((x.1 * 5 + 1 + x.2 / 32) % (m + 1), x.2 / 32)
noncomputable def st0 (m : Nat) (h : Int) : Nat × Nat := (SetTable.bits h % (m + 1), SetTable.bits h)
theorem adv_dummy (m : Nat) (p : Pb) : (adv m p).dummy = p.dummy := by unfold adv; split <;> rfl
theorem itr_dummy (m : Nat) : ∀ (n : Nat) (p : Pb), (itr (adv m) n p).dummy = p.dummy
  | 0, p => rfl
  | n + 1, p => (itr_dummy m n (adv m p)).trans (adv_dummy m p)
theorem run_le (m i : Nat) : SetTable.runEnd m i - i ≤ 9 := by unfold SetTable.runEnd; split <;> omega
theorem run_in {m i k : Nat} (hi : i ≤ m) (hk : k ≤ SetTable.runEnd m i - i) : i + k ≤ m := by unfold SetTable.runEnd at hk; split at hk <;> omega
theorem itr_run (m : Nat) : ∀ (k : Nat) (p : Pb), k ≤ p.more → itr (adv m) k p = { p with j := p.j + k, more := p.more - k }
  | 0, p, _ => rfl
  | k + 1, p, h => by
    have e : adv m p = { p with j := p.j + 1, more := p.more - 1 } := by unfold adv; rw [if_pos (by omega)]
    show itr (adv m) k (adv m p) = _
    rw [e, itr_run m k _ (by show k ≤ p.more - 1; omega)]
    simp [Nat.sub_sub, Nat.add_assoc, Nat.add_comm 1 k]
theorem itr_leap (m : Nat) (p : Pb) (hd : p.dummy = none) : itr (adv m) (p.more + 1) p = runP m (lp m (p.i, p.perturb)) := by
  rw [itr_succ, itr_run m _ p (Nat.le_refl _)]
  unfold adv
  rw [if_neg (by show ¬ p.more - p.more > 0; omega)]
  simp [runP, lp, hd]
theorem itr_leaps (m : Nat) : ∀ (k : Nat) (p : Pb), p.dummy = none → p.more ≤ 9 → ∃ n, n ≤ 10 * (k + 1) ∧ itr (adv m) n p = runP m (itr (lp m) (k + 1) (p.i, p.perturb))
  | 0, p, hd, hp => ⟨p.more + 1, by omega, itr_leap m p hd⟩
  | k + 1, p, hd, hp => by
    obtain ⟨n, hn, e⟩ := itr_leaps m k (runP m (lp m (p.i, p.perturb))) rfl (run_le _ _)
    exact ⟨p.more + 1 + n, by omega, by rw [itr_add, itr_leap m p hd, e]; rfl⟩
theorem lp_pert (m : Nat) : ∀ (k : Nat) (x : Nat × Nat), (itr (lp m) k x).2 = x.2 / 32 ^ k
  | 0, x => by simp [itr]
  | k + 1, x => by
    show (itr (lp m) k (lp m x)).2 = _
    rw [lp_pert m k, lp, Nat.pow_succ, Nat.mul_comm (32 ^ k), Nat.div_div_eq_div_mul]
noncomputable def fv (m i : Nat) : Nat := (i * 5 + 1) % (m + 1)
theorem lp_zero (m : Nat) : ∀ (k i : Nat), itr (lp m) k (i, 0) = (itr (fv m) k i, 0)
  | 0, i => rfl
  | k + 1, i => by
    show itr (lp m) k (lp m (i, 0)) = (itr (fv m) k (fv m i), 0)
    rw [← lp_zero m k]
    congr 1
    simp [lp, fv]
theorem lp_le (m : Nat) (x : Nat × Nat) : (lp m x).1 ≤ m := Nat.le_of_lt_succ (Nat.mod_lt _ (Nat.succ_pos _))
noncomputable def Msk (m : Nat) : Prop := m = 7 ∨ m = 31 ∨ m = 127
theorem full7 : itr (fv 7) 8 0 = 0 ∧ ∀ j, j < 8 → ∃ k, k < 8 ∧ itr (fv 7) k 0 = j := by decide +kernel
theorem full31 : itr (fv 31) 32 0 = 0 ∧ ∀ j, j < 32 → ∃ k, k < 32 ∧ itr (fv 31) k 0 = j := by decide +kernel
theorem full127 : itr (fv 127) 128 0 = 0 ∧ ∀ j, j < 128 → ∃ k, k < 128 ∧ itr (fv 127) k 0 = j := by decide +kernel
theorem full {m : Nat} (hm : Msk m) : itr (fv m) (m + 1) 0 = 0 ∧ ∀ j, j < m + 1 → ∃ k, k < m + 1 ∧ itr (fv m) k 0 = j := by
  rcases hm with rfl | rfl | rfl
  · exact full7
  · exact full31
  · exact full127
theorem period {m i j : Nat} (hm : Msk m) (hi : i ≤ m) (hj : j ≤ m) : ∃ k, k ≤ m ∧ itr (fv m) k i = j := by
  obtain ⟨h0, hf⟩ := full hm
  obtain ⟨a, ha, ea⟩ := hf i (by omega)
  obtain ⟨b, hb, eb⟩ := hf j (by omega)
  by_cases hab : a ≤ b
  · refine ⟨b - a, by omega, ?_⟩
    rw [← ea, ← itr_add, show a + (b - a) = b by omega, eb]
  · refine ⟨b + (m + 1) - a, by omega, ?_⟩
    rw [← ea, ← itr_add, show a + (b + (m + 1) - a) = m + 1 + b by omega, itr_add, h0, eb]
theorem bits_lt (h : Int) : SetTable.bits h < 2 ^ 64 := by
  unfold SetTable.bits
  have h1 := Int.emod_lt_of_pos h (show (0 : Int) < 2 ^ 64 by decide)
  have h2 := Int.emod_nonneg h (show (2 ^ 64 : Int) ≠ 0 by decide)
  omega
theorem leaps_reach {m j : Nat} {x : Nat × Nat} (hm : Msk m) (hx : x.2 < 2 ^ 64) (hj : j ≤ m) : ∃ k, k ≤ 12 + m ∧ (itr (lp m) (k + 1) x).1 = j := by
  have h0 : (itr (lp m) 13 x).2 = 0 := by
    rw [lp_pert]
    exact Nat.div_eq_of_lt (Nat.lt_of_lt_of_le hx (by decide))
  have hi : (itr (lp m) 13 x).1 ≤ m := by rw [itr_succ]; exact lp_le m _
  obtain ⟨k, hk, e⟩ := period hm hi hj
  refine ⟨12 + k, by omega, ?_⟩
  have e2 : itr (lp m) 13 x = ((itr (lp m) 13 x).1, 0) := by rw [← h0]
  rw [show 12 + k + 1 = 13 + k by omega, itr_add, e2, lp_zero]
  exact e
theorem reach {m j : Nat} {p : Pb} (hm : Msk m) (hd : p.dummy = none) (h9 : p.more ≤ 9) (hx : p.perturb < 2 ^ 64) (hj : j ≤ m) : ∃ n, n ≤ 10 * (m + 13) ∧ (itr (adv m) n p).j = j := by
  obtain ⟨k, hk, e⟩ := leaps_reach (x := (p.i, p.perturb)) hm hx hj
  obtain ⟨n, hn, e2⟩ := itr_leaps m k p hd h9
  exact ⟨n, by omega, by rw [e2]; exact e⟩
noncomputable def OkP (p : Pb) : Prop := p.dummy = none ∧ p.more ≤ 9 ∧ p.perturb < 2 ^ 64
theorem start_ok (m : Nat) (h : Int) : OkP (runP m (st0 m h)) := ⟨rfl, run_le _ _, bits_lt h⟩
noncomputable def pat (m : Nat) (h : Int) (n : Nat) : Pb := itr (adv m) n (runP m (st0 m h))
theorem pat_succ (m : Nat) (h : Int) (n : Nat) : pat m h (n + 1) = adv m (pat m h n) := itr_succ _ _ _
theorem pat_le {m : Nat} {h : Int} : ∀ n, (pat m h n).j + (pat m h n).more ≤ m ∧ (pat m h n).i ≤ m
  | 0 => by
    have hi : SetTable.bits h % (m + 1) ≤ m := Nat.le_of_lt_succ (Nat.mod_lt _ (Nat.succ_pos _))
    exact ⟨run_in hi (Nat.le_refl _), hi⟩
  | n + 1 => by
    obtain ⟨h1, h2⟩ := pat_le (m := m) (h := h) n
    rw [pat_succ]
    unfold adv
    split
    · refine ⟨?_, h2⟩
      show (pat m h n).j + 1 + ((pat m h n).more - 1) ≤ m
      omega
    · exact ⟨run_in (lp_le m ((pat m h n).i, (pat m h n).perturb)) (Nat.le_refl _), lp_le m ((pat m h n).i, (pat m h n).perturb)⟩
structure TabOk (t : SetTable) : Prop where
  rise : RisingT t
  nod : t.dummies = #[]
  msk : Msk t.mask
  ins : ∀ j ∈ t.place.toList, j ≤ t.mask
  room : t.place.size ≤ t.mask
section
variable {t : SetTable} {j : Nat}
theorem mem_below (hr : RisingT t) (h : j ∈ t.place.toList) : t.place[SetTable.below t.place j]? = some j := by
  obtain ⟨i, hi, e⟩ := List.getElem_of_mem h
  have e1 : t.place[i]? = some j := by rw [← Array.getElem?_toList, List.getElem?_eq_getElem hi, e]
  obtain ⟨b1, b2, b3⟩ := below_ok (j := j) hr
  generalize SetTable.below t.place j = p at b1 b2 b3 ⊢
  have h1 : ¬ i < p := fun z => absurd (b2 i j z e1) (Nat.lt_irrefl _)
  by_cases hp : p = i
  · rw [hp]; exact e1
  · have hl : p < t.place.size := by have := (Array.getElem?_eq_some_iff.mp e1).1; omega
    have e2 : t.place[p]? = some t.place[p] := by simp [hl]
    have := b3 p _ (Nat.le_refl _) e2
    have := rise_at hr (show p < i by omega) e2 e1
    omega
theorem slot_empty (T : TabOk t) (h : j ∉ t.place.toList) : t.slot j = .empty := by
  unfold SetTable.slot
  dsimp only
  rw [if_neg, if_neg]
  · rw [T.nod]; simp [SetTable.has]
  · intro z
    refine h ?_
    have : t.place[SetTable.below t.place j]? = some j := by simpa using z
    rw [← Array.getElem?_toList] at this
    exact List.mem_of_getElem? this
theorem has_free (T : TabOk t) : ∃ j, j ≤ t.mask ∧ j ∉ t.place.toList := by
  false_or_by_contra
  rename_i h
  have hs : List.range (t.mask + 1) ⊆ t.place.toList := fun j hj => by
    false_or_by_contra
    rename_i hn
    exact h ⟨j, by have := List.mem_range.mp hj; omega, hn⟩
  have := (List.nodup_range (n := t.mask + 1)).length_le_of_subset hs
  have := T.room
  simp at *
  omega
theorem least {P : Nat → Prop} [DecidablePred P] : ∀ n, P n → ∃ k, k ≤ n ∧ P k ∧ ∀ m, m < k → ¬ P m
  | 0, h => ⟨0, Nat.le_refl _, h, fun m z => absurd z (Nat.not_lt_zero _)⟩
  | n + 1, h => by
    by_cases hx : ∃ k, k ≤ n ∧ P k
    · obtain ⟨k, hk, hp⟩ := hx
      obtain ⟨l, hl, hp, hm⟩ := least k hp
      exact ⟨l, by omega, hp, hm⟩
    · exact ⟨n + 1, Nat.le_refl _, h, fun m hm hp => hx ⟨m, by omega, hp⟩⟩
theorem ends_at (T : TabOk t) (h : Int) : ∃ N, N ≤ 10 * (t.mask + 13) ∧ (pat t.mask h N).j ∉ t.place.toList ∧ ∀ n, n < N → (pat t.mask h n).j ∈ t.place.toList := by
  obtain ⟨j, hj, hn⟩ := has_free T
  obtain ⟨s1, s2, s3⟩ := start_ok t.mask h
  obtain ⟨n, hn2, e⟩ := reach (p := runP t.mask (st0 t.mask h)) T.msk s1 s2 s3 hj
  obtain ⟨k, hk, hp, hm⟩ := least (P := fun n => (pat t.mask h n).j ∉ t.place.toList) n (by show (pat t.mask h n).j ∉ _; unfold pat; rw [e]; exact hn)
  exact ⟨k, by omega, hp, fun m z => by have := hm m z; simpa using this⟩
theorem probe_go (ha : Nat → Int) (h : Int) : ∀ (n fuel : Nat) (p : Pb), n < fuel →
    (∀ k, k < n → ∃ i, t.slot (itr (adv t.mask) k p).j = .live i ∧ ha i ≠ h) →
    (t.slot (itr (adv t.mask) n p).j = .empty → SetTable.probe.go t ha h fuel p = some (.empty (itr (adv t.mask) n p).j p.dummy)) ∧
    (∀ i, t.slot (itr (adv t.mask) n p).j = .live i → ha i = h → SetTable.probe.go t ha h fuel p = some (.candidate (itr (adv t.mask) n p).j i (itr (adv t.mask) (n + 1) p)))
  | n, 0, p, hf, _ => absurd hf (Nat.not_lt_zero _)
  | 0, fuel + 1, p, hf, _ => by
    refine ⟨fun e => ?_, fun i e hh => ?_⟩
    · unfold SetTable.probe.go
      show (match t.slot p.j with | .empty => _ | .dummy => _ | .live i => _) = _
      rw [show t.slot p.j = .empty from e]
      rfl
    · unfold SetTable.probe.go
      rw [show t.slot p.j = .live i from e]
      dsimp only
      rw [if_pos (by simp [hh])]
      rfl
  | n + 1, fuel + 1, p, hf, hk => by
    obtain ⟨i, e, hne⟩ := hk 0 (by omega)
    have e0 : SetTable.probe.go t ha h (fuel + 1) p = SetTable.probe.go t ha h fuel (adv t.mask p) := by
      conv => lhs; unfold SetTable.probe.go
      rw [show t.slot p.j = .live i from e]
      dsimp only
      rw [if_neg (by simpa using hne)]
      rfl
    have ih := probe_go ha h n fuel (adv t.mask p) (by omega) fun k z => hk (k + 1) (by omega)
    rw [e0]
    rw [adv_dummy] at ih
    exact ih
end
end L2
namespace L2
open PySem PySem.Spec PyProof.Rows
structure LaidS (t : SetTable) (es : List (Int × Value)) : Prop where
  T : TabOk t
  len : t.place.size = es.length
  way : ∀ j e, (j, e) ∈ t.place.toList.zip es → ∃ n, (pat t.mask e.1 n).j = j ∧ ∀ m, m < n → (pat t.mask e.1 m).j ∈ t.place.toList
theorem LaidS.plain {t : SetTable} {es : List (Int × Value)} (h : LaidS t es) (b : Bool) : LaidS { t with plain := b } es := ⟨⟨h.T.rise, h.T.nod, h.T.msk, h.T.ins, h.T.room⟩, h.len, h.way⟩
theorem LaidS.fits {t : SetTable} {es : List (Int × Value)} (h : LaidS t es) : t.fits es.length = true := by
  unfold SetTable.fits SetTable.fill
  rw [h.T.nod, h.len]
  have := h.T.room
  rw [h.len] at this
  simpa using this
theorem laid_fresh (led : Bool) : LaidS (.fresh 0 0 led) [] := ⟨⟨by unfold RisingT; simp [SetTable.fresh], rfl, .inl rfl, fun j h => by simp [SetTable.fresh] at h, by simp [SetTable.fresh]⟩, rfl, fun j e h => by simp [SetTable.fresh] at h⟩
theorem zip_ins {α β : Type} {l : List α} {l' : List β} (h : l.length = l'.length) (p : Nat) (x : α) (y : β) : (l.take p ++ x :: l.drop p).zip (l'.take p ++ y :: l'.drop p) = (l.zip l').take p ++ (x, y) :: (l.zip l').drop p := by
  rw [List.zip_append (by simp [h]), List.zip_cons_cons]
  simp only [List.zip, List.take_zipWith, List.drop_zipWith]
theorem put_laid {t : SetTable} {es : Array (Int × Value)} {h : Int} {x : Value} {N : Nat} (L : LaidS t es.toList) (hN : (pat t.mask h N).j ∉ t.place.toList) (hb : ∀ n, n < N → (pat t.mask h n).j ∈ t.place.toList) (hr : es.size + 1 ≤ t.mask) :
    LaidS (t.put (pat t.mask h N).j).1 (SetTable.insertAt es (t.put (pat t.mask h N).j).2 (h, x)).toList ∧ (t.put (pat t.mask h N).j).1.mask = t.mask ∧ (t.put (pat t.mask h N).j).1.led = t.led ∧ (t.put (pat t.mask h N).j).1.plain = t.plain ∧ (t.put (pat t.mask h N).j).1.place.size = es.size + 1 := by
  have hr1 := put_rise L.T.rise (j := (pat t.mask h N).j) (fun z => hN (by rw [← Array.getElem?_toList] at z; exact List.mem_of_getElem? z))
  have hle := (pat_le (m := t.mask) (h := h) N).1
  generalize hj : (pat t.mask h N).j = j at *
  have em : (t.put j).1.mask = t.mask := rfl
  have ep : (t.put j).1.place.toList = t.place.toList.take (SetTable.below t.place j) ++ j :: t.place.toList.drop (SetTable.below t.place j) := SetTable.toList_insertAt ..
  have hmem : ∀ i, i ∈ (t.put j).1.place.toList ↔ i = j ∨ i ∈ t.place.toList := fun i => by
    rw [ep]
    conv => rhs; rw [← List.take_append_drop (SetTable.below t.place j) t.place.toList]
    simp only [List.mem_append, List.mem_cons]
    constructor
    · rintro (z | z | z)
      · exact .inr (.inl z)
      · exact .inl z
      · exact .inr (.inr z)
    · rintro (z | z | z)
      · exact .inr (.inl z)
      · exact .inl z
      · exact .inr (.inr z)
  have hlen : t.place.toList.length = es.toList.length := by rw [Array.length_toList]; exact L.len
  have hsz : (t.put j).1.place.size = es.size + 1 := by
    rw [← Array.length_toList, ep]
    have := congrArg List.length (List.take_append_drop (SetTable.below t.place j) t.place.toList)
    rw [List.length_append, hlen] at this
    have e2 : es.toList.length = es.size := Array.length_toList ..
    rw [List.length_append, List.length_cons]
    omega
  refine ⟨⟨⟨hr1, ?_, by rw [em]; exact L.T.msk, fun i hi => ?_, ?_⟩, ?_, fun i e hz => ?_⟩, em, rfl, rfl, hsz⟩
  · show (if SetTable.has t.dummies j = true then _ else t.dummies) = #[]
    rw [L.T.nod]
    simp [SetTable.has]
  · rw [em]
    rcases (hmem i).mp hi with rfl | z
    · omega
    · exact L.T.ins i z
  · rw [hsz, em]; exact hr
  · rw [hsz, (SetTable.insertAt_perm ..).length_eq]; simp
  · rw [ep, SetTable.toList_insertAt, show (t.put j).2 = SetTable.below t.place j from rfl, zip_ins hlen] at hz
    rw [em]
    have old : (i, e) ∈ t.place.toList.zip es.toList → ∃ n, (pat t.mask e.1 n).j = i ∧ ∀ m, m < n → (pat t.mask e.1 m).j ∈ (t.put j).1.place.toList := fun z => by
      obtain ⟨n, h1, h2⟩ := L.way i e z
      exact ⟨n, h1, fun m hm => (hmem _).mpr (.inr (h2 m hm))⟩
    rcases List.mem_append.mp hz with z | z
    · exact old (List.mem_of_mem_take z)
    · rcases List.mem_cons.mp z with z | z
      · cases z
        exact ⟨N, hj, fun m hm => (hmem _).mpr (.inr (hb m hm))⟩
      · exact old (List.mem_of_mem_drop z)
section
variable {m : Nat} {ow : Array (Option Nat)}
noncomputable def frO (ow : Array (Option Nat)) (j : Nat) : Bool := (ow.getD j (some 0)).isNone
theorem free_spec : ∀ (fuel : Nat) (x : Nat × Nat), (∃ k, k < fuel ∧ frO ow (itr (lp m) k x).1 = true) →
    ∃ j, SetTable.layClean.free m ow fuel x.1 x.2 = some j ∧ frO ow j = true ∧ ∃ n, (itr (adv m) n (runP m x)).j = j ∧ ∀ k, k < n → frO ow (itr (adv m) k (runP m x)).j = false
  | 0, x, h => by obtain ⟨k, hk, _⟩ := h; omega
  | fuel + 1, x, h => by
    have hrun : ∀ k, k ≤ SetTable.runEnd m x.1 - x.1 → (itr (adv m) k (runP m x)).j = x.1 + k := fun k hk => by rw [itr_run m k _ hk]; rfl
    have hge : x.1 ≤ SetTable.runEnd m x.1 := by unfold SetTable.runEnd; split <;> omega
    unfold SetTable.layClean.free
    cases hf : (List.range (SetTable.runEnd m x.1 + 1 - x.1)).find? fun k => (ow.getD (x.1 + k) (some 0)).isNone with
    | some k =>
      obtain ⟨h1, h2, h3⟩ := List.find?_range_eq_some.mp hf
      have hk : k ≤ SetTable.runEnd m x.1 - x.1 := by have := List.mem_range.mp h2; omega
      refine ⟨x.1 + k, rfl, h1, k, hrun k hk, fun l hl => ?_⟩
      rw [hrun l (by omega)]
      have := h3 l hl
      unfold frO
      cases z : (ow.getD (x.1 + l) (some 0)).isNone with
      | false => rfl
      | true => rw [z] at this; exact absurd this (by decide)
    | none =>
      have h3 := List.find?_range_eq_none.mp hf
      have hno : ∀ l, l ≤ SetTable.runEnd m x.1 - x.1 → frO ow (x.1 + l) = false := fun l hl => by
        have := h3 l (by omega)
        unfold frO
        cases z : (ow.getD (x.1 + l) (some 0)).isNone with
        | false => rfl
        | true => rw [z] at this; exact absurd this (by decide)
      obtain ⟨k, hk, e⟩ := h
      cases k with
      | zero =>
        have := hno 0 (by omega)
        rw [Nat.add_zero] at this
        rw [show (itr (lp m) 0 x).1 = x.1 from rfl, this] at e
        cases e
      | succ k =>
        obtain ⟨j, e1, e2, n, e3, e4⟩ := free_spec fuel (lp m x) ⟨k, by omega, e⟩
        have lpe : itr (adv m) (SetTable.runEnd m x.1 - x.1 + 1) (runP m x) = runP m (lp m x) := itr_leap m (runP m x) rfl
        refine ⟨j, e1, e2, SetTable.runEnd m x.1 - x.1 + 1 + n, by rw [itr_add, lpe]; exact e3, fun l hl => ?_⟩
        by_cases hx : l ≤ SetTable.runEnd m x.1 - x.1
        · rw [hrun l hx]; exact hno l hx
        · have el : l = SetTable.runEnd m x.1 - x.1 + 1 + (l - (SetTable.runEnd m x.1 - x.1 + 1)) := by omega
          rw [el, itr_add, lpe]
          exact e4 _ (by omega)
structure OwnOk (m : Nat) (hs : List Int) (ow : Array (Option Nat)) (d : Nat) : Prop where
  size : ow.size = m + 1
  perm : ((List.range (m + 1)).filterMap fun j => ow.getD j none).Perm (List.range d)
  way : ∀ j k, ow.getD j none = some k → ∃ h n, hs[k]? = some h ∧ (pat m h n).j = j ∧ ∀ l, l < n → (ow.getD (pat m h l).j none).isSome = true
theorem fm_congr {α β : Type} {f g : α → Option β} : ∀ {l : List α}, (∀ x ∈ l, f x = g x) → l.filterMap f = l.filterMap g
  | [], _ => rfl
  | a :: l, h => by rw [List.filterMap_cons, List.filterMap_cons, h a (by simp), fm_congr fun x z => h x (by simp [z])]
theorem fm_put {f g : Nat → Option Nat} {j k : Nat} (hf : f j = none) (hg : g j = some k) (hx : ∀ i, i ≠ j → g i = f i) : ∀ (l : List Nat), l.Nodup → j ∈ l → (l.filterMap g).Perm (k :: l.filterMap f)
  | [], _, h => by cases h
  | a :: l, hn, h => by
    rw [List.nodup_cons] at hn
    by_cases ha : a = j
    · subst ha
      rw [List.filterMap_cons_some hg, List.filterMap_cons_none hf]
      have : l.filterMap g = l.filterMap f := fm_congr fun x hxl => hx x fun e => hn.1 (e ▸ hxl)
      rw [this]
    · have hm : j ∈ l := (List.mem_cons.mp h).resolve_left fun e => ha e.symm
      have ih := fm_put hf hg hx l hn.2 hm
      rw [List.filterMap_cons, List.filterMap_cons, hx a ha]
      cases f a with
      | none => exact ih
      | some v => exact (ih.cons v).trans (List.Perm.swap _ _ _)
theorem fm_full {f : Nat → Option Nat} : ∀ (l : List Nat), (∀ x ∈ l, (f x).isSome = true) → (l.filterMap f).length = l.length
  | [], _ => rfl
  | a :: l, h => by
    obtain ⟨v, e⟩ := Option.isSome_iff_exists.mp (h a (by simp))
    rw [List.filterMap_cons_some e, List.length_cons, List.length_cons, fm_full l fun x z => h x (by simp [z])]
theorem frO_in {j : Nat} (h : frO ow j = true) : j < ow.size ∧ ow.getD j none = none := by
  unfold frO at h
  by_cases hj : j < ow.size
  · refine ⟨hj, ?_⟩
    rw [Array.getD_eq_getD_getElem?, Array.getElem?_eq_getElem hj, Option.getD_some] at h ⊢
    simpa using h
  · simp [Array.getD, hj] at h
theorem frO_no {j : Nat} (hj : j < ow.size) (h : frO ow j = false) : (ow.getD j none).isSome = true := by
  unfold frO at h
  rw [Array.getD_eq_getD_getElem?, Array.getElem?_eq_getElem hj, Option.getD_some] at h ⊢
  cases z : ow[j] with
  | none => rw [z] at h; cases h
  | some v => rfl
theorem own_step {hs : List Int} {d : Nat} {h : Int} (hm : Msk m) (O : OwnOk m hs ow d) (hd : d ≤ m) (hh : hs[d]? = some h) :
    ∃ j, SetTable.layClean.free m ow (SetTable.turns m) (SetTable.bits h % (m + 1)) (SetTable.bits h) = some j ∧ OwnOk m hs (ow.setIfInBounds j (some d)) (d + 1) := by
  have hx : ∃ j0, j0 ≤ m ∧ frO ow j0 = true := by
    false_or_by_contra
    rename_i hn
    have := fm_full (f := fun j => ow.getD j none) (List.range (m + 1)) fun x hx => by
      have hx := List.mem_range.mp hx
      refine frO_no (by rw [O.size]; exact hx) ?_
      cases z : frO ow x with
      | false => rfl
      | true => exact absurd ⟨x, by omega, z⟩ hn
    rw [O.perm.length_eq] at this
    simp at this
    omega
  obtain ⟨j0, hj0, hf0⟩ := hx
  obtain ⟨k, hk, ek⟩ := leaps_reach (x := st0 m h) hm (bits_lt h) hj0
  obtain ⟨j, e1, e2, n, e3, e4⟩ := free_spec (m := m) (ow := ow) (SetTable.turns m) (st0 m h) ⟨k + 1, by unfold SetTable.turns; omega, by rw [ek]; exact hf0⟩
  obtain ⟨hjl, hjn⟩ := frO_in e2
  have g1 : (ow.setIfInBounds j (some d)).getD j none = some d := by rw [Array.getD_eq_getD_getElem?, Array.getElem?_setIfInBounds_self_of_lt hjl]; rfl
  have g2 : ∀ i, i ≠ j → (ow.setIfInBounds j (some d)).getD i none = ow.getD i none := fun i hi => by
    simp only [Array.getD_eq_getD_getElem?]
    rw [Array.getElem?_setIfInBounds_ne (fun z => hi z.symm)]
  have g3 : ∀ i, (ow.getD i none).isSome = true → ((ow.setIfInBounds j (some d)).getD i none).isSome = true := fun i hi => by
    by_cases e : i = j
    · subst e; rw [g1]; rfl
    · rw [g2 i e]; exact hi
  refine ⟨j, e1, ⟨by simp [O.size], ?_, fun i q hq => ?_⟩⟩
  · have := fm_put (f := fun j => ow.getD j none) (g := fun i => (ow.setIfInBounds j (some d)).getD i none) hjn g1 g2 (List.range (m + 1)) List.nodup_range (List.mem_range.mpr (by rw [← O.size]; exact hjl))
    rw [List.range_succ (n := d)]
    exact this.trans ((O.perm.cons d).trans (List.perm_append_singleton d _).symm)
  · by_cases e : i = j
    · subst e
      rw [g1] at hq
      cases hq
      refine ⟨h, n, hh, e3, fun l hl => g3 _ (frO_no ?_ (e4 l hl))⟩
      have := (pat_le (m := m) (h := h) l).1
      rw [O.size]
      show (pat m h l).j < m + 1
      omega
    · rw [g2 i e] at hq
      obtain ⟨h', n', a1, a2, a3⟩ := O.way i q hq
      exact ⟨h', n', a1, a2, fun l hl => g3 _ (a3 l hl)⟩
theorem own_fold {hs : List Int} (hm : Msk m) : ∀ (left : List Int) (d : Nat) (ow : Array (Option Nat)), OwnOk m hs ow d → hs.drop d = left → d + left.length ≤ m + 1 → 
    ∃ ow', (left.foldl (fun acc h => do
      let (owner, k) ← acc
      let j ← SetTable.layClean.free m owner (SetTable.turns m) (SetTable.bits h % (m + 1)) (SetTable.bits h)
      pure (owner.setIfInBounds j (some k), k + 1)) (some (ow, d)) : Option (Array (Option Nat) × Nat)) = some (ow', d + left.length) ∧ OwnOk m hs ow' (d + left.length)
  | [], d, ow, O, _, _ => ⟨ow, rfl, O⟩
  | h :: left, d, ow, O, hl, hd => by
    have hh : hs[d]? = some h := by
      have := congrArg (fun l => l[0]?) hl
      simpa [List.getElem?_drop] using this
    rw [List.length_cons] at hd
    obtain ⟨j, e, O'⟩ := own_step hm O (by omega) hh
    obtain ⟨ow', e1, e2⟩ := own_fold hm left (d + 1) _ O' (by rw [← List.drop_drop, hl]; rfl) (by omega)
    refine ⟨ow', ?_, ?_⟩
    · rw [List.foldl_cons]
      have e0 : (do
        let (owner, k) ← some (ow, d)
        let j ← SetTable.layClean.free m owner (SetTable.turns m) (SetTable.bits h % (m + 1)) (SetTable.bits h)
        pure (owner.setIfInBounds j (some k), k + 1) : Option (Array (Option Nat) × Nat)) = some (ow.setIfInBounds j (some d), d + 1) := by
        show (SetTable.layClean.free m ow (SetTable.turns m) (SetTable.bits h % (m + 1)) (SetTable.bits h) >>= fun j => _) = _
        rw [e]; rfl
      rw [e0, e1, List.length_cons]
      congr 2
      omega
    · rw [List.length_cons, show d + (left.length + 1) = d + 1 + left.length by omega]; exact e2
theorem own_new (m : Nat) (hs : List Int) : OwnOk m hs (Array.replicate (m + 1) none) 0 := by
  have g : ∀ j, (Array.replicate (m + 1) (none : Option Nat)).getD j none = none := fun j => by
    by_cases h : j < m + 1
    · simp [Array.getD, h]
    · simp [Array.getD, h]
  refine ⟨by simp, ?_, fun j k e => by rw [g] at e; cases e⟩
  have : ((List.range (m + 1)).filterMap fun j => (Array.replicate (m + 1) (none : Option Nat)).getD j none) = [] := by
    rw [List.filterMap_eq_nil_iff]
    exact fun x _ => g x
  rw [this]
  simp
theorem clean_ok {hs : Array Int} (hm : Msk m) (hl : hs.size ≤ m + 1) : ∃ ow, SetTable.layClean m hs = some ow ∧ OwnOk m hs.toList ow hs.size := by
  obtain ⟨ow, e, O⟩ := own_fold (hs := hs.toList) hm hs.toList 0 _ (own_new m hs.toList) rfl (by simpa using hl)
  rw [Array.length_toList, Nat.zero_add] at O
  refine ⟨ow, ?_, O⟩
  unfold SetTable.layClean
  rw [← Array.foldl_toList, e]
  rfl
theorem zip_fm {β : Type} {g : Nat → Option β} {j : Nat} {e : β} : ∀ (l : List (Nat × Nat)), (∀ x ∈ l, (g x.2).isSome = true) → (j, e) ∈ (l.map (·.1)).zip ((l.map (·.2)).filterMap g) → ∃ k, (j, k) ∈ l ∧ g k = some e
  | [], _, h => by cases h
  | x :: l, hg, h => by
    obtain ⟨v, ev⟩ := Option.isSome_iff_exists.mp (hg x (by simp))
    rw [List.map_cons, List.map_cons, List.filterMap_cons_some ev, List.zip_cons_cons] at h
    rcases List.mem_cons.mp h with z | z
    · cases z
      exact ⟨x.2, by simp, ev⟩
    · obtain ⟨k, h1, h2⟩ := zip_fm l (fun y hy => hg y (by simp [hy])) z
      exact ⟨k, by simp [h1], h2⟩
theorem relaid_ok {es : Array (Int × Value)} {f mv : Nat} {led pl : Bool} (hm : Msk m) (hl : es.size ≤ m) :
    ∃ t od, SetTable.laid m f mv led pl (es.map (·.1)) = some (t, od) ∧ (od.filterMap (es[·]?)).toList.Perm es.toList ∧ LaidS t (od.filterMap (es[·]?)).toList ∧ t.led = led ∧ t.mask = m := by
  obtain ⟨ow, e, O⟩ := clean_ok (hs := es.map (·.1)) hm (by simp; omega)
  rw [Array.size_map] at O
  have eL : SetTable.laid m f mv led pl (es.map (·.1)) = some ({ mask := m, place := (((List.range (m + 1)).filterMap fun j => (ow.getD j none).map (j, ·)).map (·.1)).toArray, dummies := #[], finger := f, led, moves := mv, plain := pl }, (((List.range (m + 1)).filterMap fun j => (ow.getD j none).map (j, ·)).map (·.2)).toArray) := by
    unfold SetTable.laid
    rw [e]; rfl
  refine ⟨_, _, eL, ?_⟩
  have hrise := (laid_rise eL).1
  generalize hlv : ((List.range (m + 1)).filterMap fun j => (ow.getD j none).map (j, ·)) = live at hrise ⊢
  have hsnd : (live.map (·.2)).Perm (List.range es.size) := by
    rw [← hlv, List.map_filterMap]
    refine List.Perm.trans (List.Perm.of_eq (fm_congr fun x _ => ?_)) O.perm
    cases ow.getD x none <;> rfl
  have hin : ∀ x ∈ live, x.1 ≤ m ∧ ow.getD x.1 none = some x.2 := fun x hx => by
    rw [← hlv] at hx
    obtain ⟨a, ha, ea⟩ := List.mem_filterMap.mp hx
    obtain ⟨b, hb, rfl⟩ := Option.map_eq_some_iff.mp ea
    exact ⟨by have := List.mem_range.mp ha; show a ≤ m; omega, hb⟩
  have hlt : ∀ x ∈ live, x.2 < es.size := fun x hx => List.mem_range.mp (hsnd.mem_iff.mp (List.mem_map_of_mem hx))
  have hperm : ((live.map (·.2)).filterMap (es[·]?)).Perm es.toList := by
    have := hsnd.filterMap (es[·]?)
    rwa [filterMap_getElem?_range] at this
  have etl : ((live.map (·.2)).toArray.filterMap (es[·]?)).toList = (live.map (·.2)).filterMap (es[·]?) := by rw [Array.toList_filterMap]
  rw [etl]
  have hlen : live.length = es.size := by have := hsnd.length_eq; simpa using this
  refine ⟨hperm, ⟨⟨hrise, rfl, hm, fun j hj => ?_, ?_⟩, ?_, fun j x hz => ?_⟩, rfl, rfl⟩
  · obtain ⟨x, hx, rfl⟩ := List.mem_map.mp (show j ∈ live.map (·.1) by simpa using hj)
    exact (hin x hx).1
  · show (live.map (·.1)).toArray.size ≤ m
    simp; omega
  · show (live.map (·.1)).toArray.size = _
    rw [hperm.length_eq]
    simp; omega
  · obtain ⟨k, h1, h2⟩ := zip_fm (g := fun k => es[k]?) live (fun y hy => by show (es[y.2]?).isSome = true; simp [hlt y hy]) (show (j, x) ∈ (live.map (·.1)).zip _ by simpa using hz)
    obtain ⟨h, n, a1, a2, a3⟩ := O.way j k (hin _ h1).2
    have ex : h = x.1 := by
      rw [Array.toList_map, List.getElem?_map, Array.getElem?_toList, h2] at a1
      exact (Option.some.inj a1).symm
    subst ex
    refine ⟨n, a2, fun l hl => ?_⟩
    obtain ⟨v, hv⟩ := Option.isSome_iff_exists.mp (a3 l hl)
    show (pat m x.1 l).j ∈ (live.map (·.1)).toArray.toList
    refine (show (pat m x.1 l).j ∈ live.map (·.1) from List.mem_map.mpr ⟨((pat m x.1 l).j, v), ?_, rfl⟩)
    rw [← hlv]
    have hle := (pat_le (m := m) (h := x.1) l).1
    exact List.mem_filterMap.mpr ⟨(pat m x.1 l).j, List.mem_range.mpr (by omega), by rw [hv]; rfl⟩
end
end L2
namespace PySem
open L2 PyProof.Rows
section
variable {prog : Program} {w : World} {K : Type} [DecidableEq K] {knd : KeyKind prog w K} {A : Around} {E : Value → Shared → Prop} {s : Shared}
theorem class_byValue (n : Nat) {v : Value} (h : carriedByValue v = true) : ofAClassStatement n v = pure false := by
  cases v with
  | ref a => simp [carriedByValue] at h
  | _ => cases n <;> rfl
theorem class_tup {ks : List K} {a : Addr} {Q : Bool → Shared → Prop} (hk : IsTupleKey knd s.heap ks a) (h : Q false s) : wpAny (model prog w) A (ofAClassStatement 8 (.ref a)) Q E s := by
  have hT := hk.typeIs
  obtain ⟨o, items, n, ho, _, hd, hi⟩ := hk
  unfold ofAClassStatement
  refine wpAny_bind (wpAny_typeOf hT ?_)
  dsimp only
  rw [if_pos (by decide)]
  refine wpAny_bind (wpAny_pure ?_)
  simp only [Bool.not_true, Bool.false_eq_true, if_false]
  refine wpAny_bind (wpAny_seqItems ho hd ?_)
  dsimp only
  refine wpAny_bind ?_
  rw [← Array.forIn_toList]
  refine wpAny_forIn_list _ (fun rest r s' => r.1 = none ∧ s' = s ∧ ∀ v ∈ rest, carriedByValue v = true) _ ?_ ?_ _ _ ⟨rfl, rfl, hi.byValue⟩
  · rintro v rest r s' ⟨hr, rfl, hall⟩
    rw [class_byValue _ (hall v List.mem_cons_self)]
    refine wpAny_bind (wpAny_pure ?_)
    simp only [Bool.false_eq_true, if_false]
    exact wpAny_pure ⟨rfl, rfl, fun u hu' => hall u (List.mem_cons_of_mem _ hu')⟩
  · rintro ⟨r1, r2⟩ s' ⟨hr, rfl, _⟩
    simp only at hr
    subst hr
    exact wpAny_pure h
theorem seen_tup {k : List K} {b : Addr} {Q : Bool → Shared → Prop} (hk : IsTupleKey knd s.heap k b) (l : List Value) (hl : ∀ v ∈ l, ∃ k' b', v = .ref b' ∧ IsTupleKey knd s.heap k' b') (h : Q false s) : wpAny (model prog w) A (searchCouldBeSeen (.ref b) l) Q E s := by
  unfold searchCouldBeSeen
  refine wpAny_bind ?_
  refine wpAny_forIn_list _ (fun rest r s' => r.1 = none ∧ s' = s ∧ ∀ v ∈ rest, ∃ k' b', v = .ref b' ∧ IsTupleKey knd s.heap k' b') _ ?_ ?_ _ _ ⟨rfl, rfl, hl⟩
  · rintro v rest r s' ⟨hr, rfl, hall⟩
    obtain ⟨k', b', rfl, hk'⟩ := hall v List.mem_cons_self
    dsimp only
    have nx : ∀ u ∈ rest, ∃ k' b', u = Value.ref b' ∧ IsTupleKey knd s'.heap k' b' := fun u hu' => hall u (List.mem_cons_of_mem _ hu')
    refine wpAny_ite_split (fun _ => ?_) (fun _ => ?_)
    · exact wpAny_pure ⟨rfl, rfl, nx⟩
    refine wpAny_bind (wpAny_eqIsQuiet_tuple hk ?_)
    simp only [Bool.not_true, Bool.false_eq_true, if_false]
    refine wpAny_bind (wpAny_eqIsQuiet_tuple hk' ?_)
    simp only [Bool.not_true, Bool.false_eq_true, if_false]
    refine wpAny_bind (class_tup hk ?_)
    simp only [Bool.false_eq_true, if_false]
    refine wpAny_bind (class_tup hk' ?_)
    simp only [Bool.false_eq_true, if_false]
    exact wpAny_pure ⟨rfl, rfl, nx⟩
  · rintro ⟨r1, r2⟩ s' ⟨hr, rfl, _⟩
    simp only at hr
    subst hr
    exact wpAny_pure h
theorem hash_byValue (n : Nat) {v : Value} (h : (∃ i t, v = .int i t) ∨ ∃ x t, v = .str x t) : ∃ b, hashByValue n v = pure b := by
  rcases h with ⟨i, t, rfl⟩ | ⟨x, t, rfl⟩
  · cases n <;> exact ⟨true, rfl⟩
  · cases n <;> exact ⟨false, rfl⟩
theorem hashv_tup {a : Addr} {items : Array Value} {Q : Bool → Shared → Prop} (hk : s.heap.IsTuple a items) (hv : ∀ v ∈ items.toList, (∃ i t, v = .int i t) ∨ ∃ x t, v = .str x t) (h : ∀ b, Q b s) : wpAny (model prog w) A (hashByValue 8 (.ref a)) Q E s := by
  have hT := hk.typeIs
  obtain ⟨o, ho, _, n, hd⟩ := hk
  unfold hashByValue
  refine wpAny_bind (wpAny_specialOf hT F.slot_tuple_hash.lookup ?_)
  show wpAny _ _ (seqItems? (.ref a) >>= _) _ _ s
  refine wpAny_bind (wpAny_seqItems ho hd ?_)
  dsimp only
  refine wpAny_bind ?_
  rw [Option.getD_some, ← Array.forIn_toList]
  refine wpAny_forIn_list _ (fun rest r s' => s' = s ∧ (r.1 = none ∨ r.1 = some false) ∧ ∀ v ∈ rest, (∃ i t, v = .int i t) ∨ ∃ x t, v = .str x t) _ ?_ ?_ _ _ ⟨rfl, .inl rfl, hv⟩
  · rintro v rest r s' ⟨rfl, hr, hall⟩
    obtain ⟨b, e⟩ := hash_byValue 7 (hall v List.mem_cons_self)
    rw [e]
    refine wpAny_bind (wpAny_pure ?_)
    cases b with
    | true =>
      simp only [Bool.not_true, Bool.false_eq_true, if_false]
      exact wpAny_pure ⟨rfl, .inl rfl, fun u hu' => hall u (List.mem_cons_of_mem _ hu')⟩
    | false =>
      simp only [Bool.not_false, if_true]
      first | exact wpAny_pure (wpAny_pure (h _)) | exact wpAny_pure (h _) | exact wpAny_pure (wpAny_pure (wpAny_pure (h _)))
  · rintro ⟨r1, r2⟩ s' ⟨rfl, hr, _⟩
    rcases hr with hr | hr
    · simp only at hr
      subst hr
      exact wpAny_pure (h _)
    · simp only at hr
      subst hr
      exact wpAny_pure (h _)
noncomputable def tent (knd : KeyKind prog w K) (x : List K × Addr) : Int × Value := (tupleKeyHash knd x.1, .ref x.2)
theorem tent_at {es : Array (Int × Value)} {l : List (List K × Addr)} (hl : es.toList = l.map (tent knd)) (i : Nat) : es[i]? = (l[i]?).map (tent knd) := by
  rw [← Array.getElem?_toList, hl, List.getElem?_map]
theorem zip_at {α β : Type} {l : List α} {l' : List β} {i : Nat} {x : α} {y : β} (h1 : l[i]? = some x) (h2 : l'[i]? = some y) : (x, y) ∈ l.zip l' := by
  refine List.mem_of_getElem? (i := i) ?_
  rw [List.getElem?_zip_eq_some]
  exact ⟨h1, h2⟩
theorem search_tup {a b : Addr} {o : Obj} {es : Array (Int × Value)} {ep : Nat} {t : SetTable} {l : List (List K × Addr)} {k : List K} {N : Nat} {Q : SetFound → Shared → Prop}
    (hu : A.units < cLine) (ho : s.heap.get? a = some o) (hd : o.data = .set es ep t) (L : LaidS t es.toList) (hl : es.toList = l.map (tent knd)) (hk : ∀ x ∈ l, IsTupleKey knd s.heap x.1 x.2) (hx : IsTupleKey knd s.heap k b)
    (hN : (pat t.mask (tupleKeyHash knd k) N).j ∉ t.place.toList) (hb : ∀ n, n < N → (pat t.mask (tupleKeyHash knd k) n).j ∈ t.place.toList) (hle : N ≤ 10 * (t.mask + 13))
    (q1 : (∃ x ∈ l, x.1 = k) → Q (.there none) s) (q2 : (∀ x ∈ l, x.1 ≠ k) → Q (.free (pat t.mask (tupleKeyHash knd k) N).j false) s) :
    ∀ (fuel n : Nat) (st : Option Pb), n ≤ N → N - n < fuel → st.getD (t.probeStart (tupleKeyHash knd k)) = pat t.mask (tupleKeyHash knd k) n →
      (∀ (m i : Nat) (x : List K × Addr), m < n → t.place[i]? = some (pat t.mask (tupleKeyHash knd k) m).j → l[i]? = some x → x.1 ≠ k) →
      wpAny (model prog w) A (setSearchFrom a (.ref b) (tupleKeyHash knd k) true fuel st) Q E s
  | 0, n, st, _, h, _, _ => absurd h (Nat.not_lt_zero _)
  | fuel + 1, n, st, hn, hf, hst, hold => by
    have hfit : t.fits es.size = true := by have := L.fits; rwa [Array.length_toList] at this
    have hsz : t.place.size = es.size := by have := L.len; rwa [Array.length_toList] at this
    have hll : l.length = es.size := by have := congrArg List.length hl; simpa using this.symm
    have lat : ∀ i j, t.place[i]? = some j → ∃ x, l[i]? = some x := fun i j e => by
      have := (Array.getElem?_eq_some_iff.mp e).1
      exact ⟨l[i]'(by omega), List.getElem?_eq_getElem _⟩
    have hodd : t.gaveWay = false := by
      unfold SetTable.gaveWay
      rcases L.T.msk with e | e | e <;> rw [e] <;> decide
    unfold setSearchFrom
    refine wpAny_bind (wpAny_setState_of ho hd hfit ?_)
    dsimp only
    rw [hodd, hst]
    simp only [Bool.false_eq_true, if_false]
    generalize hh : tupleKeyHash knd k = h at *
    -- the first slot from n on that is free or bears the hash
    let P : Nat → Prop := fun m => (pat t.mask h (n + m)).j ∉ t.place.toList ∨ ∃ x, l[SetTable.below t.place (pat t.mask h (n + m)).j]? = some x ∧ tupleKeyHash knd x.1 = h
    haveI : DecidablePred P := fun m => Classical.propDecidable _
    obtain ⟨m, hm, hP, hmin⟩ := least (P := P) (N - n) (.inl (by rw [show n + (N - n) = N by omega]; exact hN))
    have pit : ∀ c, itr (adv t.mask) c (pat t.mask h n) = pat t.mask h (n + c) := fun c => by unfold pat; rw [itr_add]
    have slot_in : ∀ j, j ∈ t.place.toList → t.slot j = .live (SetTable.below t.place j) ∧ t.place[SetTable.below t.place j]? = some j := fun j hj => by
      have h1 := mem_below L.T.rise hj
      refine ⟨?_, h1⟩
      unfold SetTable.slot
      dsimp only
      rw [if_pos (by rw [h1]; simp)]
    have key : ∀ f : Nat → Int, (∀ i, f i = (es[i]?.map (·.1)).getD 0) → ∀ k', k' < m → ∃ i, t.slot (itr (adv t.mask) k' (pat t.mask h n)).j = .live i ∧ f i ≠ h := fun f hf k' hk' => by
      have h1 := hmin k' hk'
      have h2 : (pat t.mask h (n + k')).j ∈ t.place.toList := by
        false_or_by_contra
        rename_i z
        exact h1 (.inl z)
      obtain ⟨h3, h4⟩ := slot_in _ h2
      obtain ⟨x, hx⟩ := lat _ _ h4
      refine ⟨_, by rw [pit]; exact h3, fun z => h1 (.inr ⟨x, hx, ?_⟩)⟩
      rw [hf, tent_at hl, hx] at z
      exact z
    have pg : ∀ f : Nat → Int, (∀ i, f i = (es[i]?.map (·.1)).getD 0) → _ := fun f hf => probe_go (t := t) f h m (10 * SetTable.turns t.mask) (pat t.mask h n) (by unfold SetTable.turns; omega) (key f hf)
    have pd : (pat t.mask h n).dummy = none := itr_dummy ..
    by_cases hE : (pat t.mask h (n + m)).j ∈ t.place.toList
    · obtain ⟨h3, h4⟩ := slot_in _ hE
      obtain ⟨x, hxl, hxh⟩ : ∃ x, l[SetTable.below t.place (pat t.mask h (n + m)).j]? = some x ∧ tupleKeyHash knd x.1 = h := by
        rcases hP with z | z
        · exact absurd hE z
        · exact z
      generalize SetTable.below t.place (pat t.mask h (n + m)).j = i at h3 h4 hxl
      have hmN : n + m < N := by
        rcases Nat.lt_or_ge (n + m) N with z | z
        · exact z
        · have : n + m = N := by omega
          rw [this] at hE
          exact absurd hE hN
      have ee : es[i]? = some (tupleKeyHash knd x.1, .ref x.2) := by rw [tent_at hl, hxl]; rfl
      have e1 : ∀ f : Nat → Int, (∀ i, f i = (es[i]?.map (·.1)).getD 0) → t.probe f h (pat t.mask h n) = some (.candidate (pat t.mask h (n + m)).j i (pat t.mask h (n + m + 1))) := fun f hf => by
        have := (pg f hf).2 i (by rw [pit]; exact h3) (by rw [hf, ee]; exact hxh)
        rw [pit, pit] at this
        exact this
      rw [e1]
      rotate_left
      · intro i; rfl
      dsimp only
      have hkx := hk x (List.mem_of_getElem? hxl)
      have tail : wpAny (model prog w) A (do
          let some (_, y) := es[i]? | unsupported "internal:set-entry"
          let equal ← holding [y] (eqBool y (.ref b))
          let (es', _, t') ← setState a
          if true && equal then return .there none
          let some same := t'.sameMemory t.moves t.mask | unsupported "set.changed-during-lookup:is-the-new-block-at-the-old-address"
          let still ← match (if same then t'.slot (pat t.mask h (n + m)).j else .empty) with
            | .live i' => match es'[i']? with
              | some (_, y') => do pure (if ← isSame y' y then some i' else none)
              | none => pure none
            | _ => pure none
          match still with
          | none => rule "set.search.anew"; setSearchFrom a (.ref b) h true fuel none
          | some i' => if equal then return .there (some i') else setSearchFrom a (.ref b) h true fuel (some (pat t.mask h (n + m + 1)))) Q E s := by
        rw [ee]
        dsimp only
        refine wpAny_bind (wpAny_holding (wpAny_eqBool_tuple hu hkx hx ?_))
        refine wpAny_bind (wpAny_setState_of ho hd hfit ?_)
        dsimp only
        by_cases hkk : x.1 = k
        · rw [decide_eq_true hkk]
          simp only [Bool.and_self, if_true]
          exact wpAny_pure (q1 ⟨x, List.mem_of_getElem? hxl, hkk⟩)
        · rw [decide_eq_false hkk]
          simp only [Bool.and_false, Bool.false_eq_true, if_false]
          have hsm : t.sameMemory t.moves t.mask = some true := by unfold SetTable.sameMemory; rw [if_pos (by simp)]
          rw [hsm]
          dsimp only
          rw [if_pos rfl, h3]
          dsimp only
          rw [ee]
          dsimp only
          refine wpAny_bind (wpAny_isSame_ref_self (wpAny_bind (wpAny_pure ?_)))
          rw [if_pos rfl]
          dsimp only
          refine search_tup hu ho hd L hl hk hx (by rw [hh]; exact hN) (by rw [hh]; exact hb) hle q1 (by rw [hh]; exact q2) fuel (n + m + 1) _ (by omega) (by omega) ?_ ?_ |> fun z => by rw [hh] at z; exact z
          · rw [hh]; rfl
          · intro m' i' x' hm' ep' el'
            rw [hh] at ep'
            by_cases c1 : m' < n
            · exact hold m' i' x' c1 ep' el'
            · by_cases c2 : m' = n + m
              · subst c2
                obtain rfl : i' = i := by
                  have := L.T.rise
                  rcases Nat.lt_trichotomy i' i with z | z | z
                  · exact absurd (rise_at this z ep' h4) (Nat.lt_irrefl _)
                  · exact z
                  · exact absurd (rise_at this z h4 ep') (Nat.lt_irrefl _)
                rw [hxl] at el'
                cases el'
                exact hkk
              · intro z
                refine hmin (m' - n) (by omega) (.inr ⟨x', ?_, by rw [z, hh]⟩)
                rw [show n + (m' - n) = m' by omega]
                have hmem : (pat t.mask h m').j ∈ t.place.toList := hb m' (by omega)
                have h5 := (slot_in _ hmem).2
                obtain e : SetTable.below t.place (pat t.mask h m').j = i' := by
                  have := L.T.rise
                  generalize SetTable.below t.place (pat t.mask h m').j = i2 at h5 ⊢
                  rcases Nat.lt_trichotomy i2 i' with z | z | z
                  · exact absurd (rise_at this z h5 ep') (Nat.lt_irrefl _)
                  · exact z
                  · exact absurd (rise_at this z ep' h5) (Nat.lt_irrefl _)
                rw [e]; exact el'
      refine wpAny_ite_split (fun _ => ?_) (fun _ => ?_)
      · refine wpAny_bind (seen_tup hx _ (fun v hv => ?_) ?_)
        · obtain ⟨e, he, rfl⟩ := List.mem_map.mp hv
          have he := (Array.mem_filter.mp (Array.mem_toList_iff.mp he)).1
          have he2 : e ∈ es.toList := Array.mem_toList_iff.mpr he
          rw [hl] at he2
          obtain ⟨y, hy, rfl⟩ := List.mem_map.mp he2
          exact ⟨y.1, y.2, rfl, hk y hy⟩
        · simp only [Bool.false_eq_true, if_false]
          exact tail
      · exact tail
    · have hmN : n + m = N := by
        rcases Nat.lt_or_ge (n + m) N with z | z
        · exact absurd (hb _ z) hE
        · omega
      have e1 : ∀ f : Nat → Int, (∀ i, f i = (es[i]?.map (·.1)).getD 0) → t.probe f h (pat t.mask h n) = some (.empty (pat t.mask h N).j none) := fun f hf => by
        have := (pg f hf).1 (by rw [pit]; exact slot_empty L.T hE)
        rw [pit, pd, hmN] at this
        exact this
      rw [e1]
      rotate_left
      · intro i; rfl
      dsimp only
      refine wpAny_pure (q2 fun x hx hxk => ?_)
      obtain ⟨i, hi, e⟩ := List.getElem_of_mem hx
      have el : l[i]? = some x := by rw [List.getElem?_eq_getElem hi, e]
      have hip : i < t.place.size := by omega
      have epl : t.place[i]? = some t.place[i] := by simp [hip]
      have ee : es.toList[i]? = some (tent knd x) := by rw [hl, List.getElem?_map, el]; rfl
      obtain ⟨n0, w1, w2⟩ := L.way t.place[i] (tent knd x) (zip_at (by rw [Array.getElem?_toList]; exact epl) ee)
      have eh : (tent knd x).1 = h := by show tupleKeyHash knd x.1 = h; rw [hxk, hh]
      rw [eh] at w1 w2
      have hn0 : n0 < N := by
        rcases Nat.lt_trichotomy n0 N with z | z | z
        · exact z
        · subst z
          rw [w1] at hN
          exact absurd (by rw [← Array.getElem?_toList] at epl; exact List.mem_of_getElem? epl) hN
        · exact absurd (w2 N z) hN
      by_cases c1 : n0 < n
      · exact hold n0 i x c1 (by rw [w1]; exact epl) el hxk
      · refine hmin (n0 - n) (by omega) (.inr ⟨x, ?_, by rw [hxk, hh]⟩)
        rw [show n + (n0 - n) = n0 by omega]
        have h5 := (slot_in _ (hb n0 hn0)).2
        obtain e : SetTable.below t.place (pat t.mask h n0).j = i := by
          have := L.T.rise
          rw [w1] at h5 ⊢
          generalize SetTable.below t.place t.place[i] = i2 at h5 ⊢
          rcases Nat.lt_trichotomy i2 i with z | z | z
          · exact absurd (rise_at this z h5 epl) (Nat.lt_irrefl _)
          · exact z
          · exact absurd (rise_at this z epl h5) (Nat.lt_irrefl _)
        rw [e]; exact el
end
end PySem
namespace PySem
open L2 PyProof.Rows
theorem perm_map {α β : Type} {f : α → β} {xs ys : List β} (h : xs.Perm ys) : ∀ l : List α, ys = l.map f → ∃ l' : List α, xs = l'.map f ∧ l'.Perm l := by
  induction h with
  | nil => intro l e; exact ⟨l, e, .rfl⟩
  | cons x h ih =>
    intro l e
    cases l with
    | nil => cases e
    | cons a l =>
      rw [List.map_cons] at e
      injection e with e1 e2
      obtain ⟨l', h1, h2⟩ := ih l e2
      exact ⟨a :: l', by rw [List.map_cons, ← h1, e1], h2.cons a⟩
  | swap x y l =>
    intro l' e
    cases l' with
    | nil => cases e
    | cons a l' =>
      cases l' with
      | nil => simp at e
      | cons b l' =>
        simp only [List.map_cons, List.cons.injEq] at e
        obtain ⟨rfl, rfl, rfl⟩ := e
        exact ⟨b :: a :: l', rfl, List.Perm.swap _ _ _⟩
  | trans h1 h2 ih1 ih2 =>
    intro l e
    obtain ⟨l1, a1, a2⟩ := ih2 l e
    obtain ⟨l2, b1, b2⟩ := ih1 l1 a1
    exact ⟨l2, b1, b2.trans a2⟩
theorem above5 : SetTable.sizeAbove (SetTable.grown 5) = 32 := by decide
theorem above19 : SetTable.sizeAbove (SetTable.grown 19) = 128 := by decide
noncomputable def addK {K : Type} [DecidableEq K] (ks : List K) (k : K) : List K := if k ∈ ks then ks else ks ++ [k]
section
variable {prog : Program} {w : World} {K : Type} [DecidableEq K] {knd : KeyKind prog w K} {A : Around} {E : Value → Shared → Prop} {s : Shared}
noncomputable def SetT (knd : KeyKind prog w K) (h : Heap) (a : Addr) (ks : List (List K)) : Prop := ∃ (o : Obj) (es : Array (Int × Value)) (ep : Nat) (t : SetTable) (l : List (List K × Addr)), h.get? a = some o ∧ o.ExactSet ∧ o.data = .set es ep t ∧ LaidS t es.toList ∧ es.size * 5 < t.mask * 3 ∧ es.toList = l.map (tent knd) ∧ (l.map (·.1)).Perm ks ∧ ∀ x ∈ l, x.2 < a ∧ IsTupleKey knd h x.1 x.2
theorem IsTupleKey.keepS {h h' : Heap} {ks : List K} {a d : Addr} {o : Obj} {es ep t} (x : IsTupleKey knd h ks a) (ho : h.get? d = some o) (hd : o.data = .set es ep t) (hs : Heap.SameBut d h h') : IsTupleKey knd h' ks a := by
  obtain ⟨o', items, n, ho', hc, hd', hi⟩ := x
  have hne : a ≠ d := by
    rintro rfl
    obtain rfl : o' = o := Option.some.inj (ho'.symm.trans ho)
    rw [hd] at hd'; exact nomatch hd'
  exact ⟨o', items, n, (hs.2 a hne).trans ho', hc, hd', hi⟩
theorem IsTupleKey.keepG {h h' : Heap} {ks : List K} {a : Addr} (x : IsTupleKey knd h ks a) (hk : ∀ o, h.get? a = some o → h'.get? a = some o) : IsTupleKey knd h' ks a := by
  obtain ⟨o', items, n, ho', hc, hd', hi⟩ := x
  exact ⟨o', items, n, hk _ ho', hc, hd', hi⟩
theorem store_at {h : Heap} {a : Addr} {o : Obj} {es ep t} (ho : h.get? a = some o) (hd : o.data = .set es ep t) (es' : Array (Int × Value)) (t' : SetTable) : (h.update a (Obj.putSet es' t')).get? a = some { o with data := .set es' (ep + 1) t' } := by
  have := Heap.get?_update_self (Obj.putSet es' t') ho (by rw [putSet_of es' t' hd]; rfl)
  rw [putSet_of es' t' hd] at this; exact this
theorem items_vals (hv : ∀ k v, knd.is k v = true → (∃ i t, v = .int i t) ∨ ∃ x t, v = .str x t) : ∀ {ks : List K} {vs : List Value}, ItemsAre knd ks vs → ∀ v ∈ vs, (∃ i t, v = .int i t) ∨ ∃ x t, v = .str x t
  | _, _, .nil, v, h => by cases h
  | _, _, .cons h1 hr, v, h => by
    rcases List.mem_cons.mp h with rfl | z
    · exact hv _ _ h1
    · exact items_vals hv hr v z
theorem add_tup (hv : ∀ k v, knd.is k v = true → (∃ i t, v = .int i t) ∨ ∃ x t, v = .str x t) {a b : Addr} {k : List K} {ks : List (List K)} {Q : Bool → Shared → Prop} (hu : A.units < cLine) (hS : SetT knd s.heap a ks) (hba : b < a) (hx : IsTupleKey knd s.heap k b) (hroom : ks.length + 1 ≤ 70)
    (h : ∀ r h', Heap.SameBut a s.heap h' → SetT knd h' a (addK ks k) → Q r { s with heap := h' }) : wpAny (model prog w) A (setAddHashed a (.ref b) (tupleKeyHash knd k)) Q E s := by
  obtain ⟨o, es, ep, t, l, ho, hex, hd, L, hfull, hl, hp, hk⟩ := hS
  have hfit : t.fits es.size = true := by have := L.fits; rwa [Array.length_toList] at this
  have hll : l.length = es.size := by have := congrArg List.length hl; simpa using this.symm
  have hlk : l.length = ks.length := by have := hp.length_eq; simpa using this
  obtain ⟨N, hN1, hN2, hN3⟩ := ends_at L.T (tupleKeyHash knd k)
  have hm127 : t.mask ≤ 127 := by rcases L.T.msk with e | e | e <;> omega
  unfold setAddHashed setAddHashedIn
  refine wpAny_holding (wpAny_bind (wpAny_setState_of ho hd hfit ?_))
  dsimp only
  have hbs : byScan (.ref b) es = false := by simp [byScan, Value.scannable]
  rw [hbs]
  simp only [Bool.false_eq_true, if_false]
  unfold setSearch
  refine wpAny_bind (search_tup hu ho hd L hl (fun x h => (hk x h).2) hx hN2 hN3 hN1 (fun hin => ?_) (fun hno => ?_) 100000 0 none (Nat.zero_le _) (by omega) rfl (fun m i x hm => absurd hm (Nat.not_lt_zero _)))
  · dsimp only
    obtain ⟨x, hxl, rfl⟩ := hin
    have e : addK ks x.1 = ks := by unfold addK; rw [if_pos (hp.mem_iff.mp (List.mem_map_of_mem hxl))]
    have := h false s.heap (Heap.SameBut.refl a s.heap) (by rw [e]; exact ⟨o, es, ep, t, l, ho, hex, hd, L, hfull, hl, hp, hk⟩)
    exact wpAny_pure this
  · dsimp only
    have hnk : k ∉ ks := fun z => by
      obtain ⟨x, hx, e⟩ := List.mem_map.mp (hp.mem_iff.mpr z)
      exact hno x hx e
    have ek : addK ks k = ks ++ [k] := by unfold addK; rw [if_neg hnk]
    rw [ek] at h
    refine wpAny_bind (wpAny_setState_of ho hd hfit ?_)
    dsimp only
    obtain ⟨L1, em, el, epl, esz⟩ := put_laid (x := .ref b) L hN2 hN3 (by rcases L.T.msk with e | e | e <;> rw [e] at hfull ⊢ <;> omega)
    generalize hput : t.put (pat t.mask (tupleKeyHash knd k) N).j = pt at *
    obtain ⟨t1, p⟩ := pt
    dsimp only at L1 em el epl esz ⊢
    have het : (SetTable.insertAt es p (tupleKeyHash knd k, Value.ref b)).toList = (l.take p ++ (k, b) :: l.drop p).map (tent knd) := by
      rw [SetTable.toList_insertAt, hl, List.map_append, List.map_cons, List.map_take, List.map_drop]; rfl
    have hpl : (l.take p ++ (k, b) :: l.drop p).Perm (l ++ [(k, b)]) := by
      refine List.perm_middle.trans ?_
      rw [List.take_append_drop]
      exact (List.perm_append_singleton _ _).symm
    have hsz1 : (SetTable.insertAt es p (tupleKeyHash knd k, Value.ref b)).size = es.size + 1 := by
      rw [← Array.length_toList, het, List.length_map, hpl.length_eq, List.length_append, hll]; rfl
    generalize hes1 : SetTable.insertAt es p (tupleKeyHash knd k, Value.ref b) = es1 at *
    generalize hl1 : l.take p ++ (k, b) :: l.drop p = l1 at *
    have hk1 : ∀ {h' : Heap}, Heap.SameBut a s.heap h' → ∀ x ∈ l1, x.2 < a ∧ IsTupleKey knd h' x.1 x.2 := fun sb x hx1 => by
      rcases List.mem_append.mp (hpl.mem_iff.mp hx1) with z | z
      · exact ⟨(hk x z).1, (hk x z).2.keepS ho hd sb⟩
      · rw [List.mem_singleton] at z
        subst z
        exact ⟨hba, hx.keepS ho hd sb⟩
    have hp1 : (l1.map (·.1)).Perm (ks ++ [k]) := (hpl.map _).trans (by rw [List.map_append]; exact hp.append_right _)
    have tail : ∀ b2 : Bool, wpAny (model prog w) A (do
        storeSet a es1 { t1 with plain := b2 }
        if (!false && ({ t1 with plain := b2 } : SetTable).tooFull) = true then do
            setRelay a (SetTable.grown (es.size + 1))
            pure true
          else pure true) Q E s := fun b2 => by
      have L2 := L1.plain b2
      have hfit2 : ({ t1 with plain := b2 } : SetTable).fits es1.size = true := by have := L2.fits; rwa [Array.length_toList] at this
      refine wpAny_bind (wpAny_storeSet_of ho hd ?_ (by rw [hsz1, sizeLine_eq]; omega))
      have g1 := store_at ho hd es1 { t1 with plain := b2 }
      have sb1 := Heap.SameBut.update s.heap a (Obj.putSet es1 { t1 with plain := b2 })
      generalize s.heap.update a (Obj.putSet es1 { t1 with plain := b2 }) = h1 at g1 sb1 ⊢
      have hfill : ({ t1 with plain := b2 } : SetTable).tooFull = decide ((es.size + 1) * 5 ≥ t.mask * 3) := by
        unfold SetTable.tooFull SetTable.fill
        show decide ((t1.place.size + t1.dummies.size) * 5 ≥ t1.mask * 3) = _
        rw [L1.T.nod, esz, em]; rfl
      rw [hfill]
      refine wpAny_ite_split (fun z => ?_) (fun z => ?_)
      · have z : (es.size + 1) * 5 ≥ t.mask * 3 := by simpa using z
        obtain ⟨m2, hm2, hmsk2, hroom2, habove, hnf⟩ : ∃ m2, m2 = SetTable.sizeAbove (SetTable.grown (es.size + 1)) - 1 ∧ Msk m2 ∧ es1.size ≤ m2 ∧ SetTable.sizeAbove (SetTable.grown (es.size + 1)) ≤ 128 ∧ es1.size * 5 < m2 * 3 := by
          rcases L.T.msk with e | e | e
          · rw [e] at hfull z
            have e5 : es.size + 1 = 5 := by omega
            rw [hsz1, e5, above5]
            exact ⟨31, rfl, .inr (.inl rfl), by decide, by decide, by decide⟩
          · rw [e] at hfull z
            have e19 : es.size + 1 = 19 := by omega
            rw [hsz1, e19, above19]
            exact ⟨127, rfl, .inr (.inr rfl), by decide, by decide, by decide⟩
          · rw [e] at hfull z
            omega
        unfold setRelay
        refine wpAny_bind (wpAny_bind (wpAny_setState_of g1 rfl hfit2 ?_))
        dsimp only
        rw [if_neg (by rw [sizeLine_eq]; omega)]
        obtain ⟨t3, od, e3, pm3, L3, led3, mk3⟩ := relaid_ok (m := m2) (es := es1) (f := t1.finger) (mv := ({ t1 with plain := b2 } : SetTable).movedTo m2) (led := t1.led) (pl := b2) hmsk2 hroom2
        have e4 : ({ t1 with plain := b2 } : SetTable).relaid (es1.map (·.1)) (SetTable.grown (es.size + 1)) = some (t3, od) := by
          unfold SetTable.relaid
          rw [← hm2]
          exact e3
        rw [e4]
        have hs3 : (od.filterMap (es1[·]?)).size = es1.size := by rw [← Array.length_toList, pm3.length_eq, Array.length_toList]
        refine wpAny_bind (show wpAny _ _ (if ((od.filterMap (es1[·]?)).size != es1.size) = true then do { unsupported "internal:set-table-lost-an-element"; pure (od.filterMap (es1[·]?), t3) } else pure (od.filterMap (es1[·]?), t3)) _ _ _ from ?_)
        rw [if_neg (by rw [hs3]; simp)]
        refine wpAny_pure ?_
        dsimp only
        refine wpAny_storeSet_of g1 rfl ?_ (by rw [hs3, hsz1, sizeLine_eq]; omega)
        have g2 := store_at g1 rfl (od.filterMap (es1[·]?)) t3
        have sb2 := sb1.trans (Heap.SameBut.update h1 a (Obj.putSet (od.filterMap (es1[·]?)) t3))
        obtain ⟨l3, hl3, hp3⟩ := perm_map pm3 l1 het
        refine wpAny_pure (h true _ sb2 ⟨_, _, _, t3, l3, g2, ⟨hex.1, hex.2.1, hex.2.2⟩, rfl, L3, ?_, hl3, (hp3.map _).trans hp1, fun x hx3 => hk1 sb2 x (hp3.mem_iff.mp hx3)⟩)
        rw [hs3, mk3]; exact hnf
      · have z : ¬ (es.size + 1) * 5 ≥ t.mask * 3 := by simpa using z
        refine wpAny_pure (h true _ sb1 ⟨_, es1, _, _, l1, g1, ⟨hex.1, hex.2.1, hex.2.2⟩, rfl, L2, ?_, het, hp1, hk1 sb1⟩)
        show es1.size * 5 < t1.mask * 3
        rw [hsz1, em]; omega
    obtain ⟨ob, items, nn, hob, hcb, hdb, hib⟩ := id hx
    have hits := items_vals hv hib
    refine wpAny_ite_split (fun z => ?_) (fun z => ?_)
    · refine wpAny_bind (hashv_tup ⟨ob, hob, hcb, nn, hdb⟩ hits fun bb => ?_)
      cases bb with
      | true =>
        have := tail t1.plain
        simpa using this
      | false =>
        have := tail false
        simpa using this
    · refine wpAny_bind (wpAny_pure ?_)
      have := tail t1.plain
      simpa using this
theorem SetT.keep {h h' : Heap} {a : Addr} {ks : List (List K)} (x : SetT knd h a ks) (hk : ∀ b o, b ≤ a → h.get? b = some o → h'.get? b = some o) : SetT knd h' a ks := by
  obtain ⟨o, es, ep, t, l, ho, hex, hd, L, hf, hl, hp, hk'⟩ := x
  exact ⟨o, es, ep, t, l, hk a o (Nat.le_refl _) ho, hex, hd, L, hf, hl, hp, fun y hy => ⟨(hk' y hy).1, (hk' y hy).2.keepG fun o e => hk _ o (Nat.le_of_lt (hk' y hy).1) e⟩⟩
end
end PySem
namespace PySem
open PyProof.Rows
section
variable {prog : Program} {w : World} {A : Around} {R : Result → Shared → Prop} {I : Addr} {fp wr : List Addr} {G : Array GenState → Array GenState → Prop} {n : Nat} {P : Nat → Value → Prop} {St : Nat → Shared → Prop}
theorem loopG (W : WalksS prog w A.in1 I fp wr G n P St) (S : Addr) (hSf : S ∉ fp) (Sg : Nat → Heap → Prop)
    (keep : ∀ i h h', Sg i h → (∀ b o, b ∉ wr → h.get? b = some o → h'.get? b = some o) → Sg i h')
    (add : ∀ i v (s' : Shared) (Q : Bool → Shared → Prop) (E : Value → Shared → Prop), i < n → P i v → Sg i s'.heap → (∀ r h' tk, Heap.SameBut S s'.heap h' → Sg (i + 1) h' → s'.toks ≤ tk → Q r { s' with heap := h', toks := tk }) → wpAny (model prog w) A.in1 (setAdd S v) Q E s') :
    ∀ (k i : Nat) (s : Shared), n - i = k → i ≤ n → St i s → Sg i s.heap → (∀ s', Moved (S :: wr) G s s' → Sg n s'.heap → R (.ok (.ret .none)) s') →
      codeAny (model prog w) A (.builtin "set.update.loop" ⟨[.ref S, .ref I], []⟩) R s := by
  have hSw : S ∉ wr := fun h => hSf (W.sub _ h)
  have hsub : ∀ b ∈ wr, b ∈ S :: wr := fun b hb => List.mem_cons_of_mem _ hb
  intro k
  induction k with
  | zero =>
    intro i s hk hi hst hS hR
    have hin : i = n := by omega
    subst hin
    refine codeAny_builtin F.entry_set_update_loop ?_
    rw [Around.under_plainId F.plain_set_update_loop _]
    show wpAny _ A.in1 (pyNext (.ref I) >>= _) _ _ s
    refine wpAny_bind (W.done s _ _ hst fun s' hm => ?_)
    show wpAny _ A.in1 (ret Value.none) _ _ s'
    exact wpAny_pure (hR s' (hm.mono hsub) (keep _ _ _ hS hm.heap))
  | succ k ih =>
    intro i s hk hi hst hS hR
    have hlt : i < n := by omega
    refine codeAny_builtin F.entry_set_update_loop ?_
    rw [Around.under_plainId F.plain_set_update_loop _]
    show wpAny _ A.in1 (pyNext (.ref I) >>= _) _ _ s
    refine wpAny_bind (W.item i s _ _ hlt hst fun v s' hP hst' hm => ?_)
    show wpAny _ A.in1 (holding [v] (setAdd S v) >>= _) _ _ s'
    refine wpAny_bind (wpAny_holding (add i v s' _ _ hlt hP (keep _ _ _ hS hm.heap) fun r h' tk hsb hS2 htk => ?_))
    refine wpAny_pure ⟨plainId_quiet F.plain_set_update_loop _, ih (i + 1) _ (by omega) hlt (W.frame _ s' _ _ hst' htk fun b hb o e => ?_) hS2 fun s'' hm'' hS'' => ?_⟩
    · rw [hsb.2 b (fun h : b = S => hSf (by rw [← h]; exact hb))]; exact e
    · refine hR s'' (Moved.trans W.gtrans ((hm.mono hsub).then_heap htk fun b o hb e => ?_) hm'') hS''
      rw [hsb.2 b (fun h : b = S => hb (by rw [h]; exact List.mem_cons_self))]; exact e
end
section
variable {prog : Program} {w : World} {A : Around} {E : Value → Shared → Prop} {s : Shared}
theorem set_of_G {t : Addr} {its : Array Value} {Q : Value → Shared → Prop} (hA : A.handled = none) (ht : s.heap.IsTuple t its ∨ s.heap.IsList t its) (Sg : Nat → Heap → Prop)
    (keep : ∀ i h h', Sg i h → (∀ b o, b ≤ s.heap.objs.size → h.get? b = some o → h'.get? b = some o) → Sg i h')
    (add : ∀ i v (s' : Shared) (Q : Bool → Shared → Prop) (E : Value → Shared → Prop), i < its.size → its[i]? = some v → Sg i s'.heap → (∀ r h' tk, Heap.SameBut s.heap.objs.size s'.heap h' → Sg (i + 1) h' → s'.toks ≤ tk → Q r { s' with heap := h', toks := tk }) → wpAny (model prog w) A.in1.in1.in1 (setAdd s.heap.objs.size v) Q E s')
    (init : ∀ (led : Bool) (h : Heap), h.get? s.heap.objs.size = some ⟨.type "set", none, .set #[] 0 (.fresh 0 0 led), #[]⟩ → (∀ b o, s.heap.get? b = some o → h.get? b = some o) → Sg 0 h)
    (fin : ∀ (h' : Heap) (tk : Nat), Sg its.size h' → (∀ b o, b < s.heap.objs.size → s.heap.get? b = some o → h'.get? b = some o) → Q (.ref s.heap.objs.size) { s with heap := h', toks := tk }) :
    wpAny (model prog w) A (call (.type "set") [.ref t]) Q E s := by
  have TC := F.called_set
  obtain ⟨_, _, hmro⟩ := TC.mro
  have hmade := TC.made
  have hsub := TC.sub
  have h1 := TC.notType
  have h2 := TC.canCreate
  have hct := F.typeCall_set_1 (.ref t)
  refine wpAny_call (codeAny_of_tree (show wpAny _ _ (callAny (.type "set") _) _ _ _ from wpAny_pure ⟨Code.quiet_builtin _ (by decide +kernel), codeAny_builtin F.entry_type_call ?_⟩))
  rw [Around.under_plain (weight_type_call_type "set" [.ref t] []) rfl]
  repeat (any_goals (first | assumption | wp_step))
  refine codeAny_mono (code_set_new_1 (.ref t) (E := E) (Q₁ := fun obj s₁ => ∃ led : Bool, obj = .ref s.heap.objs.size ∧ s₁ = { s with heap := s.heap.push ⟨.type "set", none, .set #[] 0 (.fresh 0 0 led), #[]⟩ }) fun led => ⟨led, rfl, rfl⟩) fun r s₁ hr => ?_
  cases r with
  | error e => exact hr
  | ok fl =>
    cases fl with
    | ret obj =>
      obtain ⟨led, rfl, rfl⟩ := hr
      generalize hG : s.heap.push ⟨.type "set", none, .set #[] 0 (.fresh 0 0 led), #[]⟩ = G
      have hSz : G.objs.size = s.heap.objs.size + 1 := by rw [← hG, Heap.size_push]
      have hS : G.get? s.heap.objs.size = some ⟨.type "set", none, .set #[] 0 (.fresh 0 0 led), #[]⟩ := by rw [← hG]; exact Heap.get?_push_size _ rfl
      have hold : ∀ b o, s.heap.get? b = some o → G.get? b = some o := fun b o e => by rw [← hG]; exact Heap.get?_push_of_some _ e
      have hT : Shared.TypeIs { s with heap := G } (.ref s.heap.objs.size) "set" := ⟨_, hS, rfl⟩
      have hli := TC.init.lookup
      have hbi := TC.init.bind (.ref s.heap.objs.size)
      repeat (any_goals (first | assumption | wp_step))
      refine codeAny_mono (codeAny_call_builtin (R := wants (fun r s₂ => r = .none ∧ ∃ h' tk, s₂ = { s with heap := h', toks := tk } ∧ Sg its.size h' ∧ (∀ b o, b < s.heap.objs.size → s.heap.get? b = some o → h'.get? b = some o)) E) TC.init.plain F.entry_set_init (check_set_init_1 hT ?_)) fun r₂ s₂ hr₂ => ?_
      · have hlt : t < s.heap.objs.size := by
          rcases ht with ⟨o, e, _⟩ | ⟨o, e, _⟩ <;> exact Heap.lt_size e
        have tneI : t ≠ G.objs.size := by rw [hSz]; exact Nat.ne_of_lt (Nat.lt_succ_of_lt hlt)
        have SneI : s.heap.objs.size ≠ G.objs.size := by rw [hSz]; exact Nat.ne_of_lt (Nat.lt_succ_self _)
        have nin : s.heap.objs.size ∉ [G.objs.size, t] := by
          intro z
          rcases List.mem_cons.mp z with z | z
          · exact SneI z
          · exact absurd (List.mem_singleton.mp z) (Nat.ne_of_gt hlt)
        have keep' : ∀ i h h', Sg i h → (∀ b o, b ∉ [G.objs.size] → h.get? b = some o → h'.get? b = some o) → Sg i h' := fun i h h' a b => keep i h h' a fun c o hc e => b c o (fun z => by rw [List.mem_singleton.mp z, hSz] at hc; omega) e
        have tail : ∀ {s' : Shared} {x : Obj}, Moved (s.heap.objs.size :: [G.objs.size]) (fun a b => b = a) { s with heap := G.push x } s' → Sg its.size s'.heap → s' = { s with heap := s'.heap, toks := s'.toks } ∧ ∀ b o, b < s.heap.objs.size → s.heap.get? b = some o → s'.heap.get? b = some o := fun {s' x} mv hS' => by
          have eq := Moved.eq_with mv
          refine ⟨eq, fun b o hb e => mv.heap b o (fun z => ?_) (Heap.get?_push_of_some _ (hold b o e))⟩
          rcases List.mem_cons.mp z with z | z
          · exact absurd z (Nat.ne_of_lt hb)
          · have := List.mem_singleton.mp z
            rw [this, hSz] at hb
            omega
        rcases ht with ht | ht
        · have ht1 : G.IsTuple t its := ht.at fun o e => hold t o e
          obtain ⟨⟨tc, td, tdat, tsl⟩, hot, hcl, nl, hdl⟩ := id ht1
          dsimp only at hcl hdl
          subst hcl hdl
          have hne : (Value.type "tuple" == Value.type "dict") = false := by decide
          have hsls := F.sub_tuple_set
          have hslf := tup_frozen
          unfold Builtin.«set.__init__» noKeywords Builtin.Frozenset.updateFrom
          generalize hPI : pyIter = PI
          wp_walk
          rw [← hPI]
          have Wt := Walks.tuple (prog := prog) (w := w) (A := A.in1.in1.in1) (by simp [hA]) G.objs.size t tneI its
          refine wpAny_pyIter_tuple ht1 (wpAny_bind (wpAny_runValue ?_))
          refine loopG Wt.toS _ nin Sg keep' (fun i v s' Q E hi hP => add i v s' Q E hi hP) (its.size - 0) 0 _ rfl (Nat.zero_le _) ⟨⟨_, Heap.get?_push_size _ rfl, rfl, rfl⟩, ht1.at fun o e => Heap.get?_push_of_some _ e⟩ (init led _ (Heap.get?_push_of_some _ hS) fun b o e => Heap.get?_push_of_some _ (hold b o e)) fun s' mv hS' => ?_
          obtain ⟨eq, hk⟩ := tail mv hS'
          rw [eq] at hS' ⊢
          exact wpAny_pure (show wpAny _ _ (ret Value.none) _ _ _ from wpAny_pure ⟨rfl, s'.heap, s'.toks, rfl, hS', hk⟩)
        · have ht1 : G.IsList t its := by
            obtain ⟨o, e, r⟩ := ht
            exact ⟨o, hold t o e, r⟩
          obtain ⟨⟨tc, td, tdat, tsl⟩, hot, hcl, nl, hdl⟩ := id ht1
          dsimp only at hcl hdl
          subst hcl hdl
          have hne : (Value.type "list" == Value.type "dict") = false := by decide
          have hsls := F.sub_list_set
          have hslf := F.sub_list_frozenset
          unfold Builtin.«set.__init__» noKeywords Builtin.Frozenset.updateFrom
          generalize hPI : pyIter = PI
          wp_walk
          rw [← hPI]
          have Wt := Walks.list (prog := prog) (w := w) (A := A.in1.in1.in1) (by simp [hA]) G.objs.size t tneI its
          refine wpAny_pyIter_list ht1 (wpAny_bind (wpAny_runValue ?_))
          refine loopG Wt.toS _ nin Sg keep' (fun i v s' Q E hi hP => add i v s' Q E hi hP) (its.size - 0) 0 _ rfl (Nat.zero_le _) ⟨⟨_, Heap.get?_push_size _ rfl, rfl, rfl⟩, ht1.push _⟩ (init led _ (Heap.get?_push_of_some _ hS) fun b o e => Heap.get?_push_of_some _ (hold b o e)) fun s' mv hS' => ?_
          obtain ⟨eq, hk⟩ := tail mv hS'
          rw [eq] at hS' ⊢
          exact wpAny_pure (show wpAny _ _ (ret Value.none) _ _ _ from wpAny_pure ⟨rfl, s'.heap, s'.toks, rfl, hS', hk⟩)
      · cases r₂ with
        | error e => exact hr₂
        | ok fl₂ =>
          cases fl₂ with
          | ret r =>
            obtain ⟨rfl, h', tk, rfl, hS', hk'⟩ := hr₂
            repeat (any_goals (first | assumption | wp_step))
            exact fin _ _ hS' hk'
          | _ => exact hr₂.elim
    | _ => exact hr.elim
end
end PySem
namespace L2
open PySem PySem.Spec PyProof.Rows
section
variable {K : Type} [DecidableEq K]
noncomputable def dedK (ks : List K) : List K := ks.foldl addK []
theorem dedK_aux : ∀ (ns σ : List K), σ.Nodup → (ns.foldl addK σ).length ≤ σ.length + ns.length ∧ ((ns.foldl addK σ).length = σ.length + ns.length ↔ (σ ++ ns).Nodup)
  | [], σ, h => by simp [h]
  | v :: ns, σ, h => by
    rw [List.foldl_cons]
    by_cases hv : v ∈ σ
    · have e : addK σ v = σ := by unfold addK; rw [if_pos hv]
      rw [e]
      have ih := dedK_aux ns σ h
      refine ⟨by simp; omega, ?_⟩
      constructor
      · intro z; simp at z; omega
      · intro z
        rw [List.nodup_append] at z
        exact absurd rfl (z.2.2 v hv v (by simp))
    · have e : addK σ v = σ ++ [v] := by unfold addK; rw [if_neg hv]
      have hn : (σ ++ [v]).Nodup := by
        rw [List.nodup_append]
        exact ⟨h, by simp, fun a ha b hb => by rw [List.mem_singleton.mp hb]; rintro rfl; exact hv ha⟩
      rw [e]
      have ih := dedK_aux ns (σ ++ [v]) hn
      have el : (σ ++ [v]).length + ns.length = σ.length + (v :: ns).length := by simp; omega
      rw [el, List.append_assoc] at ih
      exact ih
theorem dedK_iff (ns : List K) : (dedK ns).length = ns.length ↔ ns.Nodup := by
  have := (dedK_aux ns [] (by simp)).2
  simpa [dedK] using this
theorem dedK_le (ns : List K) : (dedK ns).length ≤ ns.length := by
  have := (dedK_aux ns [] (by simp)).1
  simpa [dedK] using this
theorem dedK_take {ks : List K} {i : Nat} {k : K} (h : ks[i]? = some k) : dedK (ks.take (i + 1)) = addK (dedK (ks.take i)) k := by
  have e : ks.take (i + 1) = ks.take i ++ [k] := by rw [List.take_succ, h]; rfl
  rw [e]
  unfold dedK
  rw [List.foldl_append]; rfl
end
noncomputable def SzP (a : Addr) (n : Nat) (h : Heap) : Prop := ∃ o es ep t, h.get? a = some o ∧ o.ExactSet ∧ o.data = .set es ep t ∧ t.fits es.size = true ∧ es.size = n ∧ n < 4096
noncomputable def SzS (a : Addr) (n : Nat) : HO := .ext (SzP a n)
noncomputable def KTs (H : Hp) : List V → List (List Key) → Prop
  | [], [] => True
  | v :: vs, k :: ks => (∃ b, v = .ref b ∧ H b = some (.tup (k.map kV))) ∧ KTs H vs ks
  | _, _ => False
theorem kts_at {H : Hp} : ∀ {vs : List V} {ks : List (List Key)}, KTs H vs ks → vs.length = ks.length ∧ ∀ (i : Nat) (k : List Key), ks[i]? = some k → ∃ b, vs[i]? = some (.ref b) ∧ H b = some (.tup (k.map kV))
  | [], [], _ => ⟨rfl, fun i k e => by simp at e⟩
  | v :: vs, k :: ks, h => by
    obtain ⟨⟨b, rfl, hb⟩, hr⟩ := h
    obtain ⟨h1, h2⟩ := kts_at hr
    refine ⟨by simp [h1], fun i k' e => ?_⟩
    cases i with
    | zero => simp at e; subst e; exact ⟨b, rfl, hb⟩
    | succ i => simpa using h2 i k' (by simpa using e)
  | [], _ :: _, h => h.elim
  | _ :: _, [], h => h.elim
section
variable {X : Cx}
theorem keyIs_val {k : Key} {v : Value} (h : (mixKind X.prog X.w).is k v = true) : (∃ i t, v = .int i t) ∨ ∃ x t, v = .str x t := by
  rw [mixKind_is] at h
  cases k <;> cases v <;> simp_all [keyIs, Value.isInt, Value.isStrOf]
theorem vals_get : ∀ {xs : List V} {its : List Value}, Vals xs its → ∀ (i : Nat) (x : V), xs[i]? = some x → ∃ u, its[i]? = some u ∧ RelV x u
  | _, _, h, i, x, e => by
    induction h generalizing i with
    | nil => simp at e
    | cons h1 _ ih =>
      cases i with
      | zero => simp at e; subst e; exact ⟨_, rfl, h1⟩
      | succ i => simpa using ih i (by simpa using e)
noncomputable def inK (l : List Key) (k : Key) : Bool := l.any fun c => decide (c = k)
theorem inK_iff {l : List Key} {k : Key} : inK l k = true ↔ k ∈ l := by simp [inK]
theorem inK_add (l : List Key) (k c : Key) : inK (addK l k) c = (inK l c || decide (c = k)) := by
  rw [Bool.eq_iff_iff, Bool.or_eq_true, inK_iff, inK_iff, decide_eq_true_eq]
  unfold addK
  split
  · exact ⟨.inl, fun z => z.elim id fun e => e ▸ ‹_›⟩
  · simp
theorem addK_len (l : List Key) (k : Key) : (addK l k).length = if inK l k then l.length else l.length + 1 := by
  unfold addK
  by_cases h : k ∈ l
  · rw [if_pos h, if_pos (inK_iff.mpr h)]
  · rw [if_neg h, if_neg (fun z => h (inK_iff.mp z))]; simp
theorem setOf_c {h : Heap} {a : Addr} {S S' : Key → Bool} {n n' : Nat} (hS : h.SetOf (mixKind X.prog X.w) a S n) (e : ∀ k, S k = S' k) (en : n = n') : h.SetOf (mixKind X.prog X.w) a S' n' := by
  obtain rfl : S = S' := funext e
  subst en; exact hS
noncomputable def rSetK : List V → Hp → VK → Prop := fun xs H Q => ∃ p, xs = [.ref p] ∧ ∃ vs : List V, (H p = some (.tup vs) ∨ H p = some (.lst vs)) ∧ vs.length ≤ 69 ∧
  ((∃ ks : List Key, vs = ks.map kV ∧ ∀ q, H q = none → Q (.ref q) (upd H q (SzS q (dedK ks).length))) ∨ ∃ kss : List (List Key), KTs H vs kss ∧ ∀ q, H q = none → Q (.ref q) (upd H q (SzS q (dedK kss).length)))
theorem call_setK (hc : X.calm = true) (hu : X.A.units + 100 < cLine) : CallR X (.type "set") rSetK := by
  intro pins s σ H xs us Q I r h
  obtain ⟨p, rfl, vs, hp, hl, h⟩ := h
  obtain ⟨u, rfl, ru⟩ := vals1 r
  cases ru
  obtain ⟨its, rv, pl⟩ : ∃ its : List Value, Vals vs its ∧ (s.heap.IsTuple p its.toArray ∨ s.heap.IsList p its.toArray) := by
    rcases hp with hp | hp
    · obtain ⟨its, rv, pl, hz⟩ := I.tuple (SqT.of hp)
      exact ⟨its, rv, .inl pl⟩
    · obtain ⟨its, rv, pl, hz⟩ := I.list (SqL.of hp)
      exact ⟨its, rv, .inr pl.isList⟩
  have hlen := rv.length
  have fin : ∀ (n : Nat) (h' : Heap) (tk : Nat), SzP s.heap.objs.size n h' → (∀ b o, b < s.heap.objs.size → s.heap.get? b = some o → h'.get? b = some o) → (∀ q, H q = none → Q (.ref q) (upd H q (SzS q n))) → EP X pins σ Q (.ref s.heap.objs.size) { s with heap := h', toks := tk } := by
    intro n h' tk hS hold q
    have hS2 : ∃ o, h'.get? s.heap.objs.size = some o := let ⟨o, _, _, _, z, _⟩ := hS; ⟨o, z⟩
    exact ⟨.ref s.heap.objs.size, _, I.laid (a := s.heap.objs.size) (o := SzS s.heap.objs.size n) (t' := tk) (fun b o eb => hold b o (Heap.lt_size eb) eb) (Nat.le_refl _) ⟨hS, hS2, fun h1 h2 zq29 b => by obtain ⟨o, es, ep, t, z, r⟩ := zq29; exact (⟨o, es, ep, t, b o z, r⟩)⟩, rfl, q _ (I.hok.fresh (Nat.le_refl _))⟩
  rcases h with ⟨ks, rfl, q⟩ | ⟨kss, hk, q⟩
  · rw [List.length_map] at hl hlen
    have kat : ∀ (i : Nat) v, its[i]? = some v → ∃ k, ks[i]? = some k ∧ (mixKind X.prog X.w).is k v = true := fun i v e => by
      have hi : i < ks.length := by rw [hlen]; exact (List.getElem?_eq_some_iff.mp e).1
      obtain ⟨u, e1, e2⟩ := vals_get rv i (kV ks[i]) (by simp [hi])
      rw [e] at e1
      cases e1
      exact ⟨ks[i], by simp [hi], kV_is e2⟩
    refine set_of_G (I.ok.hd hc) pl (fun i h => h.SetOf (mixKind X.prog X.w) s.heap.objs.size (inK (dedK (ks.take i))) (dedK (ks.take i)).length) (fun i h h' hS hold => ?_) (fun i v s' Q' E' hi hv hS k' => ?_) (fun led h g hold => ?_) (fun h' tk hS hold => ?_)
    · obtain ⟨o, es, ep, t, ho, r⟩ := hS
      exact ⟨o, es, ep, t, hold _ o (Nat.le_refl _) ho, r⟩
    · obtain ⟨k, ek, hk⟩ := kat i v (by simpa using hv)
      unfold setAdd
      refine wpAny_holding (wpAny_bind ((mixKind X.prog X.w).pyHash (k := k) hk ?_))
      have hsc : v.scannable = true := by rcases keyIs_val hk with ⟨a, b, rfl⟩ | ⟨a, b, rfl⟩ <;> rfl
      have hroom : (dedK (ks.take i)).length + 1 < scanBound := by
        have h1 := dedK_le (ks.take i)
        have h2 : (ks.take i).length ≤ ks.length := by simp; omega
        show _ < 4096
        omega
      refine wpAny_setAddHashed_of (knd := mixKind X.prog X.w) (s := { s' with toks := s'.toks + 1 }) hk hsc hS hroom fun h' hsb hS2 => ?_
      refine k' _ h' _ hsb ?_ (Nat.le_succ _)
      have e := dedK_take ek
      exact setOf_c hS2 (fun c => by rw [e, inK_add]) (by rw [e, addK_len])
    · exact ⟨_, #[], 0, _, g, ⟨rfl, rfl, rfl⟩, rfl, fun e he => by simp at he, fun k => by simp [inK, dedK], by decide, rfl, rfl⟩
    · refine fin (dedK ks).length h' tk ?_ hold q
      obtain ⟨o, es, ep, t, ho, hx, hd, _, _, hb, hf, hn⟩ := hS
      have e0 : its.toArray.size = ks.length := by simp [hlen]
      rw [e0, List.take_length] at hn
      exact ⟨o, es, ep, t, ho, hx, hd, hf, hn, by rw [← hn]; exact hb⟩
  · obtain ⟨hl2, hat⟩ := kts_at hk
    have kat : ∀ (i : Nat) k, kss[i]? = some k → ∃ b, its[i]? = some (.ref b) ∧ b < s.heap.objs.size ∧ IsTupleKey (mixKind X.prog X.w) s.heap k b := fun i k e => by
      obtain ⟨b, e1, e2⟩ := hat i k e
      obtain ⟨u, e3, e4⟩ := vals_get rv i _ e1
      cases e4
      have hk : IsTupleKey (mixKind X.prog X.w) s.heap k b := key_of I.hok e2
      exact ⟨b, e3, let ⟨o, _, _, z, _⟩ := hk; Heap.lt_size z, hk⟩
    refine set_of_G (I.ok.hd hc) pl (fun i h => SetT (mixKind X.prog X.w) h s.heap.objs.size (dedK (kss.take i)) ∧ ∀ b o, b < s.heap.objs.size → s.heap.get? b = some o → h.get? b = some o) (fun i h h' hS hold => ?_) (fun i v s' Q' E' hi hv hS k' => ?_) (fun led h g hold => ?_) (fun h' tk hS hold => ?_)
    · exact ⟨hS.1.keep hold, fun b o hb e => hold b o (Nat.le_of_lt hb) (hS.2 b o hb e)⟩
    · have hik : i < kss.length := by rw [← hl2, hlen]; simpa using hi
      have ek : kss[i]? = some kss[i] := by simp [hik]
      obtain ⟨b, eb, hlt, hkb⟩ := kat i _ ek
      obtain rfl : v = .ref b := by
        have : its[i]? = some v := by simpa using hv
        rw [eb] at this
        exact (Option.some.inj this).symm
      have hkb' : IsTupleKey (mixKind X.prog X.w) s'.heap kss[i] b := hkb.keepG fun o e => hS.2 b o hlt e
      have hu3 : X.A.in1.in1.in1.units < cLine := by show X.A.units + 1 + 1 + 1 < cLine; omega
      unfold setAdd
      refine wpAny_holding (wpAny_bind (wpAny_pyHash_tuple hu3 hkb' ?_))
      have hroom : (dedK (kss.take i)).length + 1 ≤ 70 := by
        have h1 := dedK_le (kss.take i)
        have h2 : (kss.take i).length ≤ kss.length := by simp; omega
        omega
      refine add_tup (s := { s' with toks := s'.toks + (kss[i].length + 1) }) (fun k v => keyIs_val) hu3 hS.1 hlt hkb' hroom fun r h' hsb hS2 => ?_
      refine k' r h' _ hsb ⟨by rw [dedK_take ek]; exact hS2, fun c o hc e => ?_⟩ (by show s'.toks ≤ s'.toks + (kss[i].length + 1); omega)
      rw [hsb.2 c (Nat.ne_of_lt hc)]
      exact hS.2 c o hc e
    · refine ⟨⟨_, #[], 0, _, [], g, ⟨rfl, rfl, rfl⟩, rfl, laid_fresh led, by simp [SetTable.fresh], rfl, by simp [dedK], fun x z => by cases z⟩, fun b o hb e => hold b o e⟩
    · refine fin (dedK kss).length h' tk ?_ hold q
      obtain ⟨⟨o, es, ep, t, l, ho, hx, hd, L, hfull, hel, hp, _⟩, _⟩ := hS
      have e0 : its.toArray.size = kss.length := by simp [← hlen, hl2]
      rw [e0, List.take_length] at hp
      have hn : es.size = (dedK kss).length := by
        rw [← hp.length_eq, List.length_map, ← Array.length_toList, hel, List.length_map]
      exact ⟨o, es, ep, t, ho, hx, hd, by have := L.fits; rwa [Array.length_toList] at this, hn, by have := dedK_le kss; omega⟩
noncomputable def rLenSz : List V → Hp → VK → Prop := fun xs H Q => ∃ p, xs = [.ref p] ∧ ∃ n, H p = some (SzS p n) ∧ Q (.int n) H
theorem call_lenSz : CallR X (.builtin "len") rLenSz := by
  intro pins s σ H xs us Q I r h
  obtain ⟨p, rfl, n, hp, q⟩ := h
  obtain ⟨u, rfl, ru⟩ := vals1 r
  cases ru
  have hS : SzP p n s.heap := (show ObjOk X.prog X.w H s.heap p (SzS p n) from I.hok p _ hp).1
  obtain ⟨o, es, ep, t, ho, hex, hd, hf, hn, hb⟩ := hS
  refine PySem.call_len_set ho hex hd hf (by omega) ?_
  rw [hn]
  exact ⟨.int n, H, I.tok _, ⟨_, rfl⟩, q⟩
end
end L2
namespace L2
open PySem PySem.Spec PyProof.Rows
theorem frames_wide {h base B : Heap} : ∀ {l : List Env}, h.FunFrames base l → (∀ b ∈ frs l, B.get? b = none) → h.FunFrames B l
  | [], _, _ => trivial
  | env :: rest, hl, hB => by
    obtain ⟨hk, ⟨L, o, hf, hn, ho, hd⟩, hr⟩ := hl
    have e : frs (env :: rest) = L :: frs rest := by unfold frs; rw [List.filterMap_cons, hf]
    rw [e] at hB
    exact ⟨hk, ⟨L, o, hf, hB L List.mem_cons_self, ho, hd⟩, frames_wide hr fun b hb => hB b (List.mem_cons_of_mem _ hb)⟩
section
variable {X : Cx} {pins : List (Addr × Obj)} {σ : St} {H : Hp} {s : Shared}
theorem Inv.wide (I : Inv X pins σ H s) : ∃ B : Heap, Env0 X.prog X.w X.K X.mg B X.A X.stack s H ∧ ∀ b o, s.heap.get? b = some o → H b = none → b ∉ frs X.stack → B.get? b = some o := by
  let L : List Addr := (List.range s.heap.objs.size).filter fun b => (H b).isSome || decide (b ∈ frs X.stack)
  have hin : ∀ b, b < s.heap.objs.size → (b ∈ L ↔ ((H b).isSome = true ∨ b ∈ frs X.stack)) := fun b hb => by
    show b ∈ List.filter _ _ ↔ _
    simp [List.mem_filter, hb]
  have get : ∀ b o, s.heap.get? b = some o → H b = none → b ∉ frs X.stack → (PySem.W.hideAll s.heap L).get? b = some o := fun b o e n hb => by
    refine PySem.W.hideAll_get _ e fun z => ?_
    rcases (hin b (Heap.lt_size e)).mp z with z | z
    · rw [n] at z; cases z
    · exact hb z
  have e0 := I.env0
  have stk : ∀ b o, X.base.get? b = some o → b ∉ frs X.stack := fun b o e z => by
    have := (I.stack.mem z).1
    rw [e] at this; cases this
  have bk : ∀ b o, X.base.get? b = some o → (PySem.W.hideAll s.heap L).get? b = some o := fun b o e => get b o (I.bs b o e).1 (I.bs b o e).2 (stk b o e)
  refine ⟨PySem.W.hideAll s.heap L, ⟨e0.frames, ⟨e0.mod.kin.keeps bk, e0.mod.glob.keeps bk, ?_, e0.mod.nolimit.keeps bk⟩, fun b o e => ?_, Nat.le_of_eq (PySem.W.hideAll_size _ _), frames_wide e0.funs fun b hb => ?_, e0.frf, e0.hok, e0.bare⟩, get⟩
  · obtain ⟨mb, h1, h2⟩ := e0.mod.blt
    exact ⟨mb, h1.keeps bk, h2⟩
  · have e1 := PySem.W.of_hideAll _ e
    refine ⟨e1, ?_⟩
    cases q : H b with
    | none => rfl
    | some u =>
      have : b ∈ L := (hin b (Heap.lt_size e1)).mpr (.inl (by rw [q]; rfl))
      rw [PySem.W.hideAll_none _ this] at e
      cases e
  · obtain ⟨_, o, ho, _⟩ := I.stack.mem hb
    exact PySem.W.hideAll_none _ ((hin b (Heap.lt_size ho)).mpr (.inr hb))
theorem Inv.addPn {f : Addr} {o : Obj} (I : Inv X pins σ H s) (h : s.heap.get? f = some o ∧ H f = none ∧ f ≠ X.env.locals ∧ f ∉ X.fs ∧ ∀ v, o.data ≠ .cell v) : Inv { X with pn := (f, o) :: X.pn } pins σ H s :=
  ⟨⟨I.ok.mod, I.ok.kind, I.ok.glob, I.ok.blt, I.ok.above, I.ok.inj, I.ok.has, I.ok.cab, I.ok.hd, I.ok.frames, I.ok.stk, I.ok.exf, I.ok.bs, I.ok.bsz, I.ok.noex, I.ok.exfs, I.ok.funs, I.ok.frf⟩, I.os, I.bare, I.base, I.loc, I.cell, I.free, I.freeC, fun p hp => (List.mem_cons.mp hp).elim (fun z => by subst z; exact h) (fun z => I.pin p z), I.hok, I.len⟩
theorem Inv.dropPn {f : Addr} {o : Obj} (I : Inv { X with pn := (f, o) :: X.pn } pins σ H s) : Inv X pins σ H s :=
  ⟨⟨I.ok.mod, I.ok.kind, I.ok.glob, I.ok.blt, I.ok.above, I.ok.inj, I.ok.has, I.ok.cab, I.ok.hd, I.ok.frames, I.ok.stk, I.ok.exf, I.ok.bs, I.ok.bsz, I.ok.noex, I.ok.exfs, I.ok.funs, I.ok.frf⟩, I.os, I.bare, I.base, I.loc, I.cell, I.free, I.freeC, fun p hp => I.pin p (List.mem_cons_of_mem _ hp), I.hok, I.len⟩
theorem SP.dropPn {f : Addr} {o : Obj} {D : Ends} {fl : Flow} {s' : Shared} (h : SP { X with pn := (f, o) :: X.pn } pins D fl s') : SP X pins D fl s' := by
  cases fl with
  | next => obtain ⟨a, b, I, q⟩ := h; exact ⟨a, b, I.dropPn, q⟩
  | brk => obtain ⟨a, b, I, q⟩ := h; exact ⟨a, b, I.dropPn, q⟩
  | cont => obtain ⟨a, b, I, q⟩ := h; exact ⟨a, b, I.dropPn, q⟩
  | ret u => obtain ⟨v, a, b, I, r, q⟩ := h; exact ⟨v, a, b, I.dropPn, r, q⟩
end
section
variable {CX : CXT} {P : Program} {w : World} {K : PySem.W.Frag} {mg : Str → Option Value} {B : Heap} {f c c' : Addr} {name qual x y : Str} {params : Arguments} {body : List Stmt} {scope : Scope} {doc pm ctv : Value}
noncomputable def cxClo (CX : CXT) (P : Program) (w : World) (K : PySem.W.Frag) (mg : Str → Option Value) (base : Heap) (x y : Str) (qual : Str) (scope : Scope) (f : Addr) (cd : Value) (c : Addr) (A : Around) (outer : List Env) (s : Shared) (H : Hp) (E : XK) : Cx where
  prog := P
  w := w
  K := K
  mg := mg
  base := base
  A := A.deeper (PySem.W.envX qual scope s.heap.objs.size f cd [(y, c)])
  N := [x, y]
  s₀ := s
  H₀ := H
  env := PySem.W.envX qual scope s.heap.objs.size f cd [(y, c)]
  outer := outer
  stack := PySem.W.envX qual scope s.heap.objs.size f cd [(y, c)] :: outer
  ex := []
  calm := true
  fn := fun z => z != y
  pn := []
  xe := fun e s' => wpAny (model P w) (A.deeper (PySem.W.envX qual scope s.heap.objs.size f cd [(y, c)])) (leaving (PySem.W.envX qual scope s.heap.objs.size f cd [(y, c)]) e) (fun _ s'' => CX outer H s E e s'') (fun e' s'' => CX outer H s E e' s'') s'
structure CloScope (x y : Str) (sc : Scope) : Prop where
  kind : sc.kind = .function
  co : sc.isCoroutine = false
  gen : sc.isGenerator = false
  loc : sc.names.lookup x = some .local
  fre : sc.names.lookup y = some .free
  nocell : ∀ z ∈ sc.names, z.2 ≠ .cell
  one : ∀ z ∈ sc.names, z.2 = .free → z.1 = y
theorem look1 {y z : Str} {c d : Addr} (h : ([(y, c)] : List (Str × Addr)).lookup z = some d) : z = y ∧ d = c := by
  rw [List.lookup_cons] at h
  cases hb : z == y with
  | true => rw [hb] at h; cases h; exact ⟨eq_of_beq hb, rfl⟩
  | false => rw [hb] at h; cases h
theorem clo_ok {k : Nat} {sp : Sp} {oc : Addr → Obj → Prop} {v : V} {u : Value} (S : CloScope x y scope) (hf : B.get? f = some (PySem.W.fnMade name qual params body scope [(y, c)] doc pm c' ctv)) (hc : B.IsCell c (some u)) (rv : RelV v u)
    (len : ∀ vs H Q E, sp vs H Q E → vs.length = [x].length) (hcode : ∀ vs H Q E, sp vs H Q E → ∃ oc uo, H c' = some (.frz oc uo) ∧ CodeO oc qual)
    (hbody : ∀ (A : Around) (outer : List Env) (s : Shared) (H : Hp) (v0 : V) (Q : VK) (E : XK), Room k (A.deeper (PySem.W.envX qual scope s.heap.objs.size f (.ref c') [(y, c)])) → sp [v0] H Q E →
      ∃ t, PSs (cxClo CX P w K mg B x y qual scope f (.ref c') c A outer s H E) body t ∧ t { nx := fun _ H' => Q .non H', rt := Q } [some v0, some v] H) :
    FnOk P w K mg B CX (k + 1) f (PySem.W.fnX name qual params body scope [(y, c)] .none .none doc pm none (.ref c') ctv) [x] sp := by
  refine ⟨len, fun A outer s H args us vs Q E hr e0 hb r hsp => ?_⟩
  have hl := len _ _ _ _ hsp
  obtain ⟨oc, uo, hoc, vc, tc, hcd1, hcd2⟩ := hcode _ _ _ _ hsp
  have hco : s.heap.CodeRec (.ref c') qual := ⟨c', oc, vc, tc, rfl, (show ObjOk P w H s.heap c' (.frz oc uo) from e0.hok c' _ hoc).1, hcd1, hcd2⟩
  obtain ⟨v0, rfl⟩ : ∃ v0, vs = [v0] := by
    match vs, hl with
    | [v0], _ => exact ⟨v0, rfl⟩
  obtain ⟨u0, rfl, r0⟩ := vals1 r
  have lim : s.heap.NoLimit := e0.mod.nolimit.keeps fun b o e => (e0.bs b o e).1
  refine codeAny_call_function hr.depth (e0.bs _ _ hf).1 rfl S.co S.gen rfl hco (hb _ _ _ _ ?_)
  refine wpAny_newFunctionEnv S.nocell (fun z hz => ?_) (fun h' hns hsb => ?_) S.kind
  · rw [List.mem_singleton.mp hz]; exact S.loc
  have hk : ∀ b o, s.heap.get? b = some o → h'.get? b = some o := fun b o e => hsb.extBut b o (Nat.ne_of_lt (Heap.lt_size e)) (Heap.get?_push_of_some _ e)
  refine ⟨lim.keeps hk, codeAny_func ?_⟩
  obtain ⟨t, ht, hq⟩ := hbody A outer s H v0 Q E (hr.deeper _) hsp
  have hcs : s.heap.IsCell c (some u) ∧ H c = none := by
    obtain ⟨o, e, d⟩ := hc
    exact ⟨⟨o, (e0.bs _ _ e).1, d⟩, (e0.bs _ _ e).2⟩
  have hch : h'.IsCell c (some u) := let ⟨o, e, d⟩ := hcs.1; ⟨o, hk _ _ e, d⟩
  have noA : ∀ b : Addr, b ∉ (cxClo CX P w K mg B x y qual scope f (.ref c') c A outer s H E).ex := fun b z => absurd (show b ∈ ([] : List Addr) from z) (by simp)
  have I : Inv (cxClo CX P w K mg B x y qual scope f (.ref c') c A outer s H E) [] [some v0, some v] H { s with heap := h', toks := s.toks + 1 } := by
    refine ⟨⟨e0.mod, S.kind, rfl, rfl, Nat.le_refl _, fun a b d h1 h2 => ?_, fun z hz => ?_, fun z d hz h => ?_, fun _ => hr.hd, Around.frames_deeper e0.frames, .inr ⟨rfl, rfl⟩, fun b z => absurd z (noA b), e0.bs, e0.bsz, fun b _ _ => noA b, fun b z => absurd z (noA b), e0.funs, e0.frf⟩,
      rfl, e0.bare, Un.kept hk, ⟨_, hns, fun i z a h1 h2 h3 => ?_⟩, fun z d h => ?_, e0.hok.fresh (Nat.le_refl _), fun z d h => ?_, fun p hp => absurd (show p ∈ ([] : List (Addr × Obj)) from hp) (by simp), e0.hok.kept hk, rfl⟩
    · exact (look1 h1).1.trans (look1 h2).1.symm
    · have hz : scope.names.lookup z = some .cell ∨ scope.names.lookup z = some .free := hz
      rcases hz with hz | hz
      · exact absurd rfl (S.nocell _ (PySem.mem_of_lookup hz))
      · have := S.one _ (PySem.mem_of_lookup hz) rfl
        have e : z = y := this
        subst e
        exact ⟨c, by show ([(z, c)] : List (Str × Addr)).lookup z = some c; simp⟩
    · have e := (look1 h).1
      subst e
      simp [cxClo] at hz
    · match i, h1, h2 with
      | 0, h1, h2 =>
        have e1 : x = z := by simpa [cxClo] using h1
        have e2 : v0 = a := by simpa using h2
        subst e1 e2
        exact ⟨u0, r0, .inl ⟨S.loc, by simp⟩⟩
      | 1, h1, h2 =>
        have e1 : y = z := by simpa [cxClo] using h1
        have e2 : v = a := by simpa using h2
        subst e1 e2
        exact ⟨u, rv, .inr ⟨.inr S.fre, c, by show ([(y, c)] : List (Str × Addr)).lookup y = some c; simp, hch⟩⟩
      | i + 2, h1, h2 => simp at h2
    · rw [(look1 h).2]; exact ⟨_, hch⟩
    · rw [(look1 h).2]; exact hcs.2
  refine wpAny_mono (ht [] _ [some v0, some v] H _ I hq) (fun fl s' hs => ?_) fun e s' hs => hs
  have fin : ∀ {σ' : St} {H' : Hp} {v : V} {u : Value}, Inv (cxClo CX P w K mg B x y qual scope f (.ref c') c A outer s H E) [] σ' H' s' → RelV v u → Q v H' → CE outer P w H s Q u s' :=
    fun {σ' H' v u} J rv q => ⟨v, H', J.os, J.bare, J.base, J.hok, rv, q⟩
  cases fl with
  | ret u =>
    obtain ⟨v, σ', H', J, rv, q⟩ := hs
    exact fin J rv q
  | next =>
    obtain ⟨σ', H', J, q⟩ := hs
    exact fin (v := V.non) (u := Value.none) J rfl q
  | brk =>
    obtain ⟨_, _, _, q⟩ := hs
    exact False.elim q
  | cont =>
    obtain ⟨_, _, _, q⟩ := hs
    exact False.elim q
end
section
variable {X : Cx}
noncomputable def tDefn (i : Nat) (pt : Addr) (q : Str) (t : Addr → Addr → TS) : TS := fun D σ H => H pt = some (.tab q) ∧ ∀ f c' oc H', Same H H' → H' f = none → H' c' = some (.frz oc (.own pt)) → CodeO oc q → t f c' D (σ.set i (some (.ref f))) H'
theorem pss_defn {i : Nat} {c pt : Addr} {q name : Str} {params : Arguments} {body : List Stmt} {scope : Scope} {pos : Pos} {clos : List (Str × Addr)} {rest : List Stmt} {t : Addr → Addr → TS} (hN : X.N.Nodup) (hi : X.N[i]? = some name) (hx : Loc X.env.scope name)
    (hq : qualnameIn X.env name name = q) (hcode : X.env.code = .ref c) (hc : PySem.W.codeHdIn X.K c pt = true) (bm : BMain X.mg X.base) (hcl : closureFor scope X.env = pure clos)
    (hrest : ∀ (f c' : Addr) (doc pm ctv : Value), PSs { X with pn := (f, PySem.W.fnMade name q params body scope clos doc pm c' ctv) :: X.pn } rest (t f c'))
    (hd0 : params.defaults = [] := by rfl) (hk0 : params.kw_defaults = [] := by rfl) (ha : annTrees params none X.env = [] := by rfl) (hfn : X.fn name = true ∨ X.env.scope.names.lookup name = some .local := by first | exact .inl rfl | exact .inr rfl | assumption) :
    PSs X (.FunctionDef name params body [] none [] scope none name pos :: rest) (tDefn i pt q t) := by
  intro pins s σ H D I h
  obtain ⟨hP, h⟩ := h
  obtain ⟨ps, e, ht, hcs⟩ := (show ObjOk X.prog X.w H s.heap pt (.tab q) from I.hok pt _ hP)
  have C : PySem.W.CodeHd s.heap c pt := (PySem.W.codeHd_of_K I.mod.kin hc).keeps I.bk
  obtain ⟨b, ob, b1, b2, b3, b4, b5, b6⟩ := bm
  have hgs : s.heap.Ns mainGlobals X.mg := I.mod.glob.keeps I.bk
  have hgP : mainGlobals ≠ pt := fun z => by
    obtain ⟨o, es, ep, e', hd, _⟩ := hgs
    rw [z, e] at e'; cases e'; cases hd
  have hbP : b ≠ pt := fun z => by
    have := (I.bs _ _ b3).2
    rw [z, hP] at this; cases this
  have hbG : b ≠ mainGlobals := fun z => by
    obtain ⟨o, es, ep, e', hd, _⟩ := I.mod.glob
    rw [z, e'] at b3; cases b3; rw [hd] at b6; cases b6
  have hB : s.heap.BuiltinsAt X.mg pt := ⟨b, ob, b1, b2, hbG, hbP, I.bk _ _ b3, b4, b5, b6⟩
  -- the function is made: store it, go on
  have next : ∀ (f c' : Addr) (oc : Obj) (doc pm ctv : Value) (s' : Shared) (H' : Hp), Inv X pins σ H' s' → Same H H' → s.heap.objs.size ≤ f → H' c' = some (.frz oc (.own pt)) → CodeO oc q → s'.heap.get? f = some (PySem.W.fnMade name q params body scope clos doc pm c' ctv) → H' f = none →
      wpAny (model X.prog X.w) X.A (storeName X.env name (.ref f)) (fun _ s'' => wpAny (model X.prog X.w) X.A (execs rest X.env) (SP X pins D) X.xe s'') X.xe s' := by
    intro f c' oc doc pm ctv s' H' I' S hge hw hco hf hfn'
    have hlt := Heap.lt_size hf
    refine store_ok2 I' hN hi hx (v := .ref f) rfl (fun s2 I2 zr6653 => ?_) hfn
    obtain ⟨a, sb, ha⟩ := zr6653
    have hfL : f ≠ X.env.locals := fun z => by
      obtain ⟨m, ⟨o', es, ep, ho', hd', _⟩, _⟩ := I'.loc
      rw [← z, hf] at ho'; cases ho'; cases hd'
    have hfs : f ∉ X.fs := fun z => by
      obtain ⟨_, o, ho, _⟩ := I.funs.mem z
      exact absurd (Heap.lt_size ho) (Nat.not_lt.mpr hge)
    have hfa : f ≠ a := fun z => by
      rcases ha with ha | ha
      · exact hfL (z.trans ha)
      · obtain ⟨v, o, ho, hd⟩ := I'.cell _ _ ha
        rw [← z, hf] at ho; cases ho; cases hd
    have hf2 : s2.heap.get? f = some (PySem.W.fnMade name q params body scope clos doc pm c' ctv) := (sb.2 f hfa).trans hf
    have I3 := I2.addPn (f := f) (o := PySem.W.fnMade name q params body scope clos doc pm c' ctv) ⟨hf2, hfn', hfL, hfs, fun v z => nomatch z⟩
    exact wpAny_mono (hrest f c' doc pm ctv pins s2 _ H' D I3 (h f c' oc H' S hfn' hw hco)) (fun fl s3 q => SP.dropPn q) fun _ _ q => q
  refine wpAny_execs_cons (PySem.W.nestDef_K hd0 hk0 ha ?_)
  rw [hq]
  cases hf : codeAmong pos ps.toList with
  | some cv =>
    obtain ⟨c', oc, rfl, ne, hw, hco⟩ := hcs pos cv hf
    refine PySem.W.makeFunction_hit hcl I.ok.glob hgs hcode C e ht hf hB fun ctv doc h' tk hk hsz => ?_
    have k2 : ∀ b o, s.heap.get? b = some o → (h'.push (PySem.W.fnMade name q params body scope clos doc ((X.mg "__name__").getD .none) c' ctv)).get? b = some o := fun b o e => Heap.get?_push_of_some _ (hk b o e)
    exact next _ c' oc doc _ ctv _ H (I.kept (t' := tk) k2) (Same.refl H) hsz hw hco (Heap.get?_push_size _ rfl) (I.hok.fresh hsz)
  | none =>
    refine PySem.W.makeFunction_K hcl I.ok.glob hgs hcode C e ht hf hgP hB fun c' ctv doc h' tk hx hge hlt hrec htb => ?_
    have hfr : H c' = none := I.hok.fresh hge
    have hcp : c' ≠ pt := fun z => by rw [z, hP] at hfr; cases hfr
    generalize hfo : PySem.W.fnMade name q params body scope clos doc ((X.mg "__name__").getD .none) c' ctv = fo
    have k1 : ∀ b o, b ≠ pt → s.heap.get? b = some o → (h'.push fo).get? b = some o := fun b o hb e => Heap.get?_push_of_some _ (hx b o hb e)
    have nP : ∀ b, H b = none → b ≠ pt := fun b n z => by rw [z, hP] at n; cases n
    have nc : ∀ b o, s.heap.get? b = some o → b ≠ c' := fun b o e => Nat.ne_of_lt (Nat.lt_of_lt_of_le (Heap.lt_size e) hge)
    have htb' : (h'.push fo).get? pt = some (PySem.W.tabObj (ps ++ #[rawInt pos.line, rawInt pos.col, .ref c'])) := Heap.get?_push_of_some _ htb
    have hrec' := hrec.push fo
    obtain ⟨cc, oc, vc, tc, ec1, ec2, ec3⟩ := id hrec'
    cases ec1
    have S : Same H (upd H c' (.frz oc (.own pt))) := fun b o e => by rw [upd_ne (ne_of_none e hfr)]; exact e
    have un : Un X.fs [] H (upd H c' (.frz oc (.own pt))) s.heap (h'.push fo) :=
      ⟨fun b o e n _ _ => k1 b o (nP b n) e, fun b o e n _ _ => ⟨o.slots, k1 b o (nP b n) e⟩, fun b o e n _ => by rw [upd_ne (nc b o e)]; exact n,
        fun b o e _ => by
          by_cases hb : b = pt
          · subst hb; exact ⟨_, htb'⟩
          · exact ⟨o, k1 b o hb e⟩,
        fun b xs e => S _ _ e, fun b o u e => S _ _ e, fun b ps e => ⟨#[], by rw [S _ _ e]; simp⟩⟩
    have hok : HOk X.prog X.w (upd H c' (.frz oc (.own pt))) (h'.push fo) := fun b u eb => by
      by_cases hbc : b = c'
      · subst hbc
        rw [upd_same] at eb
        cases eb
        exact ⟨ec2, oc, ec2⟩
      · rw [upd_ne hbc] at eb
        by_cases hb : b = pt
        · subst hb
          rw [hP] at eb
          cases eb
          refine ⟨ps ++ #[rawInt pos.line, rawInt pos.col, .ref c'], htb', ?_, fun pos' cv z => ?_⟩
          · rw [Array.toList_append]
            exact PySem.W.triples_app _ ht trivial
          · rw [Array.toList_append, PySem.W.among_app _ ht] at z
            cases z1 : codeAmong pos' ps.toList with
            | some cv' =>
              rw [z1] at z
              have z' : cv' = cv := by simpa using z
              subst z'
              obtain ⟨d, od, rfl, ne, hw, hco⟩ := hcs pos' cv' z1
              exact ⟨d, od, rfl, ne, S _ _ hw, hco⟩
            | none =>
              rw [z1] at z
              have z' : Value.ref c' = cv := by
                simp only [Option.none_or, rawInt, codeAmong] at z
                split at z
                · exact Option.some.inj z
                · cases z
              subst z'
              exact ⟨c', oc, rfl, hcp, upd_same, vc, tc, ec3⟩
        · refine (I.hok b u eb).stay (fun d v hd r => k1 d v ?_ r) (fun d r => S _ _ r) (fun d xs r => S _ _ r) fun d _ _ r => S _ _ r
          rcases hd with rfl | hd
          · exact hb
          · exact fun z => by rw [z, hP] at hd; cases hd
    have hsz : s.heap.objs.size ≤ h'.objs.size := Nat.le_trans hge (Nat.le_of_lt hlt)
    have hfn' : upd H c' (.frz oc (.own pt)) h'.objs.size = none := by rw [upd_ne (Nat.ne_of_gt hlt)]; exact I.hok.fresh hsz
    subst hfo
    exact next _ c' oc doc _ ctv _ _ (I.un (t' := tk) un hok) S hsz upd_same ⟨vc, tc, ec3⟩ (Heap.get?_push_size _ rfl) hfn'
variable {CX : CXT} {k : Nat} {x : Str} {p pos : Pos} {e : Expr} {es : List Expr} {t : TA}
noncomputable def tCallW (sp : St → Sp) (t : TA) : TE := fun σ H Q => t σ H fun vs H1 => sp σ vs H1 Q E0
noncomputable def tCallH (i : Nat) (f : Addr) (sp : Sp) (t : TA) : TE := fun σ H Q => σ[i]? = some (some (.ref f)) ∧ t σ H fun vs H1 => sp vs H1 Q E0
theorem pe_callH {i : Nat} {f : Addr} {fd : FuncData} {ps : List Str} {sp : Sp} (F : FnOk X.prog X.w X.K X.mg X.base CX k f fd ps sp) (hf : PySem.W.FnAt f X.base) (hb : Binds X.K fd ps []) (hr : Room k X.A) (hx : Passes CX X E0)
    (hN : X.N[i]? = some x) (hv : Vis X.env.scope x) (ha : PA X (e :: es) t) (hd : (x == ("__debug__" : Str)) = false := by decide) (hcd : (x == ("__classdict__" : Str)) = false := by decide)
    (he : starEach (e :: es) X.env = (false, eval e X.env) :: starEach es X.env := by rfl) (hpl : (backTo pos (starEach es X.env)).any (·.1) = false := by rfl) :
    PE X (.Call (.Name x p) (e :: es) [] pos) (tCallH i f sp t) := by
  intro pins s σ H Q I h
  obtain ⟨hs, h⟩ := h
  have at' : ∀ {σ' : St} {H' : Hp} {s' : Shared}, Inv X pins σ' H' s' → PySem.W.FnAt f s'.heap := fun I => let ⟨oc, od, fd, sl, e⟩ := hf; ⟨oc, od, fd, sl, I.bk _ _ e⟩
  refine wpAny_Call_Name_kw (thn (pe_var hN hv hd hcd pins s σ H (fun v H' => v = .ref f ∧ H' = H) I ⟨_, hs, rfl, rfl⟩) fun v s1 zr6745 => ?_)
  obtain ⟨x1, H1, I1, r1, ex, eH⟩ := zr6745
  subst ex eH
  cases (show v = Value.ref f from r1)
  exact PySem.W.callWith_F (at' I1) (thn (ha pos pins s1 σ _ _ I1 h) fun us s2 zq30 => by obtain ⟨vs, H2, I2, r, q⟩ := zq30; exact (⟨at' I2, run_fn F hr hb .nil hx I2 r (by rw [List.append_nil]; exact q)⟩)) he hpl
noncomputable def rLenLT : List V → Hp → VK → Prop := fun xs H Q => ∃ p, xs = [.ref p] ∧ ∃ ys, (H p = some (.tup ys) ∨ H p = some (.lst ys)) ∧ Q (.int ys.length) H
theorem call_lenLT : CallR X (.builtin "len") rLenLT := call_len_seq.imp fun _ _ _ zq31 => by obtain ⟨p, e, ys, h, q⟩ := zq31; exact (⟨p, ys, e, h.elim (fun z => .inr (.of z)) (fun z => .inl (.of z)), q⟩)
noncomputable def tCallIx (mg : Str → Option Value) (y z : Str) (sp sp2 : Sp) (tb : TE) (t : TA) : TE := fun σ H Q => tb σ H fun v H1 => ∃ f, v = .ref f ∧ ((mg y = some (.ref f) ∧ t σ H1 fun vs H2 => sp vs H2 Q E0) ∨ (mg z = some (.ref f) ∧ t σ H1 fun vs H2 => sp2 vs H2 Q E0))
theorem pe_callIx {mg : Str → Option Value} (hM : X.mg = mg) {k2 : Nat} {y z : Str} {ps ps2 : List Str} {sp sp2 : Sp} {o i : Expr} {p1 : Pos} {tb : TE} (F : Fn X.prog X.w X.K X.mg X.base y k ps sp) (G : Fn X.prog X.w X.K X.mg X.base z k2 ps2 sp2) (hr : Room k X.A) (hr2 : Room k2 X.A) (hb : PE X (.Subscript o i p1) tb) (ha : PA X (e :: es) t)
    (he : starEach (e :: es) X.env = (false, eval e X.env) :: starEach es X.env := by rfl) (hpl : (backTo pos (starEach es X.env)).any (·.1) = false := by rfl) :
    PE X (.Call (.Subscript o i p1) (e :: es) [] pos) (tCallIx mg y z sp sp2 tb t) := by
  subst hM
  intro pins s σ H Q I h
  obtain ⟨f1, fd1, F, m1, kp1, b1⟩ := F
  obtain ⟨f2, fd2, G, m2, kp2, b2⟩ := G
  show wpAny _ _ (do callWith pos (← eval (.Subscript o i p1) X.env) [] (backTo pos (starEach (e :: es) X.env)) (backToKw pos (keywordEach [] X.env))) _ _ s
  refine wpAny_bind (thn (hb pins s σ H _ I h) fun v s1 zr6760 => ?_)
  obtain ⟨x1, H1, I1, r1, f, ex, h⟩ := zr6760
  subst ex
  cases (show v = Value.ref f from r1)
  rcases h with ⟨hm, h⟩ | ⟨hm, h⟩
  · rw [m1] at hm
    cases hm
    exact PySem.W.callWith_K (h₀ := X.base) I.ok.mod.kin kp1 (thn (ha pos pins s1 σ _ _ I1 h) fun us s2 zq32 => by obtain ⟨vs, H2, I2, r, q⟩ := zq32; exact (⟨I2.kIn, run_fn F hr b1 .nil pass0 I2 r (by rw [List.append_nil]; exact q)⟩)) he hpl
  · rw [m2] at hm
    cases hm
    exact PySem.W.callWith_K (h₀ := X.base) I.ok.mod.kin kp2 (thn (ha pos pins s1 σ _ _ I1 h) fun us s2 zq33 => by obtain ⟨vs, H2, I2, r, q⟩ := zq33; exact (⟨I2.kIn, run_fn G hr2 b2 .nil pass0 I2 r (by rw [List.append_nil]; exact q)⟩)) he hpl
noncomputable def keyS (e : DictEntry) : Str := match e.key with | .str x _ => x | _ => Str.empty
noncomputable def TabN (w : World) (K : PySem.W.Frag) (a : Addr) (N : List Str) : Prop := ∃ es n, K.lookup a = some ⟨.type "dict", none, .dict es n, #[]⟩ ∧ PySem.W.KeysLit w.params es.toList ∧ es.toList.map keyS = N
noncomputable def rInTab (a : Addr) (N : List Str) : R2 := fun x y H Q => y = .ref a ∧ ((x = .non ∧ Q (.bl false) H) ∨ ∃ s, x = .str s ∧ Q (.bl (N.any fun y => decide (y = s))) H)
theorem op_inTab {a : Addr} {N : List Str} (TA : TabN X.w X.K a N) (hs : (a == sysModules) = false) : OpR X (compareOp .In) (rInTab a N) := by
  intro pins s σ H x y v u Q I rx ry h
  obtain ⟨rfl, h⟩ := h
  cases (show u = Value.ref a from ry)
  obtain ⟨es, n, hl, hk, hN⟩ := TA
  have hall : ∀ e ∈ es.toList, ∃ x t, e.key = .str x t ∧ e.hash = PyData.keyHash X.w.params x := hk.all
  have hm : s.heap.MapOf (anyKind X.prog X.w) a (fun k => findBy anyIs es k) := ⟨_, es, n, I.kIn _ _ hl, ⟨rfl, rfl, rfl⟩, rfl, fun e he => by
    obtain ⟨x, t, e1, e2⟩ := hall e (Array.mem_toList_iff.mpr he)
    exact ⟨some (.inr x), by rw [e1]; exact anyIs_of (keyIs_str x t), e2⟩, fun _ => rfl⟩
  have fnd : ∀ k : Option Key, (findBy anyIs es k).isSome = es.toList.any fun e => anyIs k e.key := fun k => by
    unfold findBy
    rw [Option.isSome_map, ← Array.find?_toList, Bool.eq_iff_iff, List.find?_isSome, List.any_eq_true]
  rcases h with ⟨rfl, q⟩ | ⟨z, rfl, q⟩
  · cases rx
    refine wpAny_in_of (knd := anyKind X.prog X.w) (k := none) rfl hs hm ?_
    have e : (findBy anyIs es none).isSome = false := by
      rw [fnd, List.any_eq_false]
      intro e he
      obtain ⟨x, t, e1, _⟩ := hall e he
      rw [e1]; simp [anyIs]
    rw [e]
    exact ⟨.bl false, H, I.tok _, rfl, q⟩
  · obtain ⟨tk, rfl⟩ := rx
    refine wpAny_in_of (knd := anyKind X.prog X.w) (k := some (.inr z)) (anyIs_of (keyIs_str z tk)) hs hm ?_
    have e : (findBy anyIs es (some (.inr z))).isSome = N.any fun y => decide (y = z) := by
      rw [fnd, ← hN, List.any_map]
      rw [Bool.eq_iff_iff, List.any_eq_true, List.any_eq_true]
      constructor
      · rintro ⟨e, he, h2⟩
        obtain ⟨x, t, e1, _⟩ := hall e he
        refine ⟨e, he, ?_⟩
        rw [e1] at h2
        rcases anyIs_shape h2 with ⟨z1, z2⟩ | ⟨_, _, z1, z2⟩ | ⟨y, t', z1, z2⟩ | ⟨_, z1, z2⟩
        · cases z2
        · cases z2
        · cases z1; cases z2; simp [keyS, e1]
        · cases z2
      · rintro ⟨e, he, h2⟩
        obtain ⟨x, t, e1, _⟩ := hall e he
        refine ⟨e, he, ?_⟩
        have h3 : x = z := by simpa [keyS, e1] using h2
        rw [e1, h3]
        exact anyIs_of (keyIs_str z t)
    rw [e]
    exact ⟨.bl _, H, I.tok _, rfl, q⟩
end
end L2
namespace L2
open PySem PySem.Spec PyProof.Rows
section
variable {X : Cx} {k k0 : Nat} {x : Str} {p pos : Pos} {e : Expr} {es : List Expr} {t : TA} {ps ps0 : List Str} {sp0 : Sp} {sp : St → Sp}
theorem pe_callWF (F0 : Fn X.prog X.w X.K X.mg X.base x k0 ps0 sp0) (hr : Room k X.A) (hg : Gl X x)
    (hF : ∀ (B : Heap) (pins : List (Addr × Obj)) (σ : St) (H : Hp) (s : Shared) (vs : List V) (Q : VK), Inv X pins σ H s → Mod X.K X.mg B → (∀ b o, s.heap.get? b = some o → H b = none → b ∉ frs X.stack → B.get? b = some o) → sp σ vs H Q E0 → ∃ sp', sp' vs H Q E0 ∧ Fn X.prog X.w X.K X.mg B x k ps sp')
    (ha : PA X (e :: es) t) (hdb : (x == ("__debug__" : Str)) = false := by decide) (he : starEach (e :: es) X.env = (false, eval e X.env) :: starEach es X.env := by rfl) (hpl : (backTo pos (starEach es X.env)).any (·.1) = false := by rfl) :
    PE X (.Call (.Name x p) (e :: es) [] pos) (tCallW sp t) := by
  obtain ⟨g, fd0, _, hm, hk, _⟩ := F0
  intro pins s σ H Q I h
  refine wpAny_Call_Name_kw (ld_glob I hg hm ?_ hdb)
  refine PySem.W.callWith_K (h₀ := X.base) I.ok.mod.kin hk (thn (ha pos pins s σ H _ I h) fun us s1 ⟨vs, H1, I1, r, q⟩ => ⟨I1.kIn, ?_⟩) he hpl
  obtain ⟨B, e0, hB⟩ := I1.wide
  obtain ⟨sp', q', g', fd, F, hm', _, hb⟩ := hF B pins σ H1 s1 vs Q I1 e0.mod hB q
  rw [hm] at hm'
  cases hm'
  have hl : (us ++ []).length = ps.length := by rw [List.append_nil, ← r.length]; exact F.len _ _ _ _ q'
  have hbb := hb s1 us I1.kIn hl
  rw [List.append_nil] at hbb
  refine wpAny_call (codeAny_mono (F.run X.A X.stack s1 H1 ⟨us, []⟩ us vs Q E0 hr e0 hbb r q') fun r s' hq => ?_)
  cases r with
  | error e => exact pass0 pins σ H1 s1 e s' I1 hq
  | ok fl =>
    cases fl with
    | ret u => exact I1.after hq
    | next => exact False.elim hq
    | brk => exact False.elim hq
    | cont => exact False.elim hq
theorem cell_wide {pins : List (Addr × Obj)} {σ : St} {H : Hp} {s : Shared} {B : Heap} {i : Nat} {y : Str} {v : V} {c : Addr} (I : Inv X pins σ H s) (hB : ∀ b o, s.heap.get? b = some o → H b = none → b ∉ frs X.stack → B.get? b = some o)
    (hN : X.N[i]? = some y) (hσ : σ[i]? = some (some v)) (hk : X.env.scope.names.lookup y = some .cell) (hc : X.env.cells.lookup y = some c) (hf : X.fn y = true) : ∃ u, RelV v u ∧ B.IsCell c (some u) := by
  obtain ⟨m, hn, hl⟩ := id I.loc
  obtain ⟨u, r, hlook⟩ := hl i y v hN hσ (.inr (.inl hk))
  refine ⟨u, r, ?_⟩
  rcases hlook with ⟨hk2, _⟩ | ⟨_, c', hc', hcell⟩
  · rw [show X.env.kindOf y = X.env.scope.names.lookup y from rfl, hk] at hk2; cases hk2
  · rw [hc] at hc'
    cases hc'
    obtain ⟨o, ho, hd⟩ := hcell
    refine ⟨o, hB c o ho (I.freeC y c hc) fun z => ?_, hd⟩
    rcases List.mem_cons.mp (I.stkSub c z) with e | e
    · obtain ⟨o', es, ep, ho', hd', _⟩ := hn
      rw [← e, ho] at ho'; cases ho'; rw [hd] at hd'; cases hd'
    · obtain ⟨_, o', ho', _⟩ := I.ok.funs.mem e
      exact absurd (Heap.lt_size ho') (Nat.not_lt.mpr (I.ok.cab y c hf hc))
theorem pin_wide {pins : List (Addr × Obj)} {σ : St} {H : Hp} {s : Shared} {B : Heap} {f : Addr} {o : Obj} (I : Inv { X with pn := (f, o) :: X.pn } pins σ H s) (hB : ∀ b o, s.heap.get? b = some o → H b = none → b ∉ frs X.stack → B.get? b = some o) : B.get? f = some o := by
  obtain ⟨h1, h2, h3, h4, _⟩ := I.pin (f, o) (List.mem_append_left _ List.mem_cons_self)
  refine hB f o h1 h2 fun z => ?_
  rcases List.mem_cons.mp (I.dropPn.stkSub f z) with e | e
  · exact h3 e
  · exact h4 e
end
end L2
namespace L2
open PySem PySem.Spec PyProof.Rows
theorem vals_rngA {lo : Int} {n : Nat} {acc : Array Value} (h : ItemsOf (fun i v => ∃ t, v = Value.int (lo + i * 1) t) acc n) : Vals (rngV lo n) acc.toList := by
  have key : ∀ (k : Nat) (us : List Value), (∀ (j : Nat) v, us[j]? = some v → ∃ t, v = Value.int (lo + ((k : Int) + j)) t) → Vals ((List.range' k us.length).map fun i : Nat => V.int (lo + (i : Int))) us := by
    intro k us
    induction us generalizing k with
    | nil => intro _; exact .nil
    | cons u us ih =>
      intro hu
      rw [List.length_cons, List.range'_succ, List.map_cons]
      refine .cons ?_ (ih (k + 1) fun j v e => ?_)
      · obtain ⟨t, rfl⟩ := hu 0 u rfl
        exact ⟨t, by simp⟩
      · obtain ⟨t, rfl⟩ := hu (j + 1) v (by simpa using e)
        exact ⟨t, by congr 1; push_cast; omega⟩
  have := key 0 acc.toList fun j v e => by
    obtain ⟨t, rfl⟩ := h.2 j v (by simpa using e)
    exact ⟨t, by simp⟩
  rw [Array.length_toList, h.1, ← List.range_eq_range'] at this
  exact this
noncomputable def tTupRng2 (ta : TA) : TE := fun σ H Q => ta σ H fun vs H1 => ∃ i j : Int, vs = [.int i, .int j] ∧ 0 ≤ i ∧ i ≤ j ∧ j ≤ 1000 ∧ ∀ l, H1 l = none → Q (.ref l) (upd H1 l (.tup (rngV i (j - i).toNat)))
section
variable {X : Cx} {e1 e2 : Expr} {ta : TA} {p p2 pos pos2 : Pos}
theorem pe_tuprange2 (hc : X.calm = true) (hg : Gl X "tuple") (hm : X.mg "tuple" = none) (hg2 : Gl X "range") (hm2 : X.mg "range" = none) (ha : PA X [e1, e2] ta) (hs : starEach [e1, e2] X.env = [(false, eval e1 X.env), (false, eval e2 X.env)] := by rfl) (hs2 : starEach [e2] X.env = [(false, eval e2 X.env)] := by rfl) :
    PE X (.Call (.Name "tuple" p) [.Call (.Name "range" p2) [e1, e2] [] pos2] [] pos) (tTupRng2 ta) := by
  intro pins s σ H Q I h
  refine wpAny_Call_Name_kw (ld_blt I hg hm (by decide +kernel : bootBuiltins "tuple" = some (.type "tuple")) ?_)
  refine PyProof.Rows.callWith_type1 (Calls.spliced_cons ?_) rfl rfl
  refine wpAny_Call_Name_kw (ld_blt I hg2 hm2 boot_range ?_)
  refine PyProof.Rows.callWith_type1 (thn (ha pos2 pins s σ H _ I h) fun us s1 ⟨vs, H1, I1, r1, q1⟩ => ?_) (by rw [hs, hs2]) (by rw [hs2]; rfl)
  obtain ⟨i, j, e, q0, q1, q2, q⟩ := q1
  subst e
  obtain ⟨u, u', rfl, ru, ru'⟩ := vals2 r1
  obtain ⟨t, rfl⟩ := ru
  obtain ⟨t', rfl⟩ := ru'
  refine call_range_2 ?_
  refine Calls.spliced_nil ?_
  have hsz : Builtin.Range.rangeSize i j 1 = (((j - i).toNat : Nat) : Int) := by rw [rangeSize_one]; split <;> omega
  refine call_tuple_range (I.ok.hd hc) (IsRange.new ..) (small_one (by omega) (by omega) (by omega) (by omega)) hsz (by omega) fun h' tk acc hk hacc => ?_
  have I2 : Inv X pins σ H1 { s1 with heap := h', toks := tk } := I1.kept fun b o e => hk b o (Heap.get?_push_of_some _ e)
  have I3 : Inv X pins σ (upd H1 h'.objs.size (.tup (rngV i (j - i).toNat))) { s1 with heap := h'.push { cls := .type "tuple", data := .seq acc }, toks := tk } :=
    I2.laid (t' := tk) (fun b o e => Heap.get?_push_of_some _ e) (Nat.le_refl _) (show ObjOk X.prog X.w _ _ _ (.tup (rngV i (j - i).toNat)) from ⟨by rw [rngV_length]; exact Nat.le_of_lt (small1000 (by omega)), acc.toList, vals_rngA hacc, IsTup.new _ _⟩)
  exact ⟨.ref h'.objs.size, _, I3, rfl, q _ (I2.hok.fresh (Nat.le_refl _))⟩
end
end L2
namespace PySem
open AutoSeq1 (wpAny_loadPart')
theorem fold_rep (x : Value) : ∀ (n : Nat) (acc : Array Value), List.foldl (fun x1 x2 => x1 ++ x2) acc (List.replicate n #[x]) = acc ++ (List.replicate n x).toArray
  | 0, acc => by simp
  | n + 1, acc => by
    rw [List.replicate_succ, List.foldl_cons, fold_rep x n]
    apply Array.ext'
    simp [List.replicate_succ]
theorem tuple_mulN (l : Addr) (x : Value) (n : Nat) (dd : Option Addr) (sl : Array (Option Value)) (i : Int) (u : Tok) (h1 : 1 ≤ i) (h2 : i ≤ 1000) :
    Meets (Builtin.«tuple.__mul__» ⟨[.ref l, .int i u], []⟩) (fun _ R s => s.heap.get? l = some { cls := .type "tuple", dict := dd, data := .seq #[x] n, slots := sl } ∧ (i = 1 → R (.ok (.ret (.ref l))) s) ∧ (i ≠ 1 → R (.ok (.ret (.ref s.heap.objs.size))) { s with heap := s.heap.push { cls := .type "tuple", data := .seq (List.replicate i.toNat x).toArray } })) :=
  .of_wp fun prog w A R s h => by
    obtain ⟨hp, g, d, tk, os⟩ := s; obtain ⟨hl, q1, q2⟩ := h
    by_cases hi : i = 1
    · subst hi
      wp_walk using wpAny_loadPart' hl
      all_goals first | exact ⟨_, rfl, q1 rfl⟩ | trace_state
    · wp_walk using wpAny_loadPart' hl
      rw [if_neg (by simp; omega)]
      (try dsimp only)
      refine wpAny_bind (wpAny_tupleItemsOf hl rfl ?_)
      (try dsimp only)
      rw [if_neg (by simp [hi]), if_neg (by simp; omega), if_neg (by simp; omega), if_neg (by simp [Builtin.Tuple.tupleTooMany, sizeLine]; omega)]
      have e := fold_rep x i.toNat #[]
      rw [e, Array.empty_append]
      unfold Builtin.Tuple.tupleExact
      refine wpAny_bind (wpAny_newObj_type ?_ (by show (List.replicate i.toNat x).toArray.size ≤ sizeLine; simp [sizeLine]; omega))
      exact wpAny_pure ⟨_, rfl, q2 hi⟩
end PySem
namespace L2
open PySem PySem.Spec PyProof.Rows
section
variable {X : Cx}
noncomputable def rMulN : R2 := fun x y H Q => ∃ a, x = .ref a ∧ ∃ i : Int, y = .int i ∧ 1 ≤ i ∧ i ≤ 1000 ∧ ∃ z, H a = some (.tup [z]) ∧ ∀ p H', H' p = some (.tup (List.replicate i.toNat z)) → Same H H' → Q (.ref p) H'
theorem op_mulN : OpR X (binaryOp .Mult) rMulN := by
  intro pins s σ H x y v u Q I rx ry h
  obtain ⟨a, rfl, i, rfl, h1, h2, z, ha, q⟩ := h
  cases rx
  obtain ⟨t, rfl⟩ := ry
  obtain ⟨its, r, ⟨⟨cls, dd, data, sl⟩, ho, hc, n, hd⟩, hz⟩ := I.tuple (.of ha)
  simp only at hc hd
  subst hc hd
  obtain ⟨uz, rfl, rz⟩ := vals1 r
  refine wpAny_binaryOp_repeat_ref (T := "tuple") (U := "int") (by decide) ⟨_, ho, rfl⟩ (fun s' => typeIs_int s' i t) noFill_tuple_mul F.fills_int_mul F.slot_int_rmul repeat_tuple F.slot_int_index.lookup
    (call_meets F.slot_int_rmul (typeIs_int s i t) F.entry_int_rmul (F.args_int_rmul_2 _ _) (int_rmul_tuple i t a _ n dd sl)
      ⟨ho, rfl, ⟨_, ho, rfl⟩, call_meets F.slot_tuple_mul ⟨_, ho, rfl⟩ F.entry_tuple_mul (F.args_tuple_mul_2 _ _)
        (tuple_mulN a uz n dd sl i t h1 h2) ⟨ho, fun e => ?_, fun e => ?_⟩⟩)
  · exact ⟨.ref a, H, I, rfl, q a H (by rw [e]; exact ha) (Same.refl H)⟩
  · have hf := I.hok.fresh (Nat.le_refl s.heap.objs.size)
    refine ⟨.ref s.heap.objs.size, _, I.laid (t' := s.toks) (o := .tup (List.replicate i.toNat z)) (fun b ob q => Heap.get?_push_of_some _ q) (Nat.le_refl _) ?_, rfl, q _ _ upd_same (Same.upd0 hf)⟩
    refine ⟨by rw [List.length_replicate]; exact Nat.le_of_lt (small1000 (by omega)), List.replicate i.toNat uz, ?_, IsTup.new _ _⟩
    generalize i.toNat = m
    induction m with
    | zero => exact .nil
    | succ m ih => exact .cons rz ih
end
end L2
namespace L2
open PySem PySem.Spec PyProof.Rows
section
variable {X : Cx} {o e : Expr} {td ty : TE} {apos cpos : Pos}
noncomputable def tDUpd (td ty : TE) : TE := fun σ H Q => td σ H fun x H1 => ∃ a, x = .ref a ∧ (∃ kvs, H1 a = some (.dK kvs)) ∧ ty σ H1 fun y H2 => ∃ b, y = .ref b ∧ ∃ kvs, H2 a = some (.dK kvs) ∧ ∃ more, H2 b = some (.dK more) ∧ a ≠ b ∧ kvs.length + more.length ≤ 1000 ∧ Q .non (upd H2 a (.dK (mergeK kvs more)))
theorem pe_dupd (ho : PE X o td) (he : PE X e ty) (m : M1 X o "update" apos e cpos) : PE X (.Call (.Attribute o "update" apos) [e] [] cpos) (tDUpd td ty) := by
  intro pins s σ H Q I h
  refine wpAny_Call_method m.base m.few m.line PySem.F.plainAttrs_dict PySem.F.slot_dict_update PySem.F.type_dict_update (thn (ho pins s σ H _ I h) fun u s1 ⟨x, H1, I1, rx, a, ex, ⟨kv0, d⟩, q1⟩ => ?_)
  subst ex
  obtain rfl : u = Value.ref a := rx
  obtain ⟨t1, t2, _⟩ := isD_at I1 (.inl ⟨_, .inl d⟩)
  refine ⟨t1, t2, ?_⟩
  rw [m.trees]
  refine Calls.callWith_builtin rfl (Calls.evalArgs_plain (Calls.spliced_cons (thn (he pins s1 σ H1 _ I1 q1) fun iv s2 ⟨y, H2, I2, ry, b, ey, kvs, ea, more, eb, hab, hl, q2⟩ => Calls.spliced_nil ?_)))
  subst ey
  obtain rfl : iv = Value.ref b := ry
  obtain ⟨z, hd, vs, rel, dd⟩ := dk_of I2.hok ea
  obtain ⟨z2, hd2, rs, rel2, dd2⟩ := dk_of I2.hok eb
  refine call_meetsIn PySem.F.slot_dict_update dd.typeIs PySem.F.entry_dict_update (PySem.F.args_dict_update_2 _ _) (meets_dict_update (mixKind X.prog X.w) a b hab hd2)
    ⟨vs, rs, dd, dd2, by rw [← rel.length, ← rel2.length]; exact Nat.le_of_lt (small1000 hl), fun h' dd' _ hs => ?_⟩
  have hx : ∃ q, h'.get? a = some q := let ⟨q, _, _, hq, _⟩ := dd'; ⟨q, hq⟩
  exact ⟨.non, _, d_write (t' := s2.toks) I2 (by rw [ea]; exact True.intro) hs hx (dk_new (Nat.le_trans (length_mergeK more kvs) (Nat.le_of_lt (small1000 hl))) hd (rel2.merge rel) dd'), rfl, q2⟩
end
end L2
namespace Lw
open PySem L2
local macro_rules | `(tactic| ctx_has vcx $ids*) => `(tactic| ((try dsimp only [tVarM, List.map, List.append_eq, List.set, L2.start, List.length_cons, List.length_nil, List.replicate, List.cons_append, List.nil_append, Nat.reduceAdd, Nat.reduceSub, Nat.zero_add, Nat.add_zero, tNever, tYes, iStr, iRng1, rIsB, IsB, tCT, rAll, rSum, tSeq, tNext, tIfS, tRet, tDrop, tAsg, gName, tVar, tC, tOp, tUn, tTest, tB, tAnd, tOr, tNot, tAndV, tOrV, tNotV, tChain, tCB, tCall, tCons, tNil, tLst, tTup, tDG, sDP, rI0, rI, rU, rEq, rNe, rLenL, rLenT, rIL, rIT, rIS, rSL, rSQ, rST, rSlS, iL, iT, tML, tMS, rmJoin, rmIndex, rCT, rCTs, rSTs, tIsN, gTupT, gCons, gNil, gSub, rSetLs, rmAppend, rmPop, rmInsert, rInL, rInT, rInM, rTupL, rCS, rLenS, rLeS, tListRev, tDisp, tPairs, rAllL, tSl, tNoPart, tPart, List.set_cons_zero, List.set_cons_succ, List.getElem?_cons_zero, List.getElem?_cons_succ, List.map_cons, List.map_nil]); (simp only [tVarM, tNever, cxK, cpK, tComp_eq, tFor_eq, inner0, inner1, inner2, inner3, Option.join_some, tYes, iStr, iRng1, rIsB, IsB, tCT, rAll, rSum, tSeq, tNext, tIfS, tRet, tDrop, tAsg, gName, tVar, tC, tOp, tUn, tTest, tB, tAnd, tOr, tNot, tAndV, tOrV, tNotV, tChain, tCB, tCall, tCons, tNil, tLst, tTup, tDG, sDP, ex_kS, ex_kI, rI0, rI, rU, rEq, rNe, scal_ii, scal_ss, scal_bb, scal_nn, scal_in, scal_si, rLenL, rLenT, rIL, rIT, rIS, rSL, rSQ, rST, rSlS, iL, iT, tML, tMS, rmJoin, rmIndex, rCT, rCTs, rSTs, tIsN, gTupT, gCons, gNil, atI0, atI1, atI2, atI3, atI4, ofS_inj, gSub, rSetLs, rmAppend, rmPop, rmInsert, rInL, rInT, rInM, rTupL, rCS, rLenS, rLeS, tListRev, tDisp, tPairs, HO.dK.injEq, HO.lst.injEq, HO.tup.injEq, HO.ins.injEq, rAllL, tSl, tNoPart, tPart, L2.start, List.map_cons, List.map_nil, List.length_cons, List.length_nil, List.replicate, List.cons_append, List.nil_append, List.append_nil, List.getElem?_cons_zero, List.getElem?_cons_succ, List.set_cons_zero, List.set_cons_succ, Option.some.injEq, V.int.injEq, V.ref.injEq, V.str.injEq, V.bl.injEq, V.ty.injEq, List.cons.injEq, and_assoc, and_true, true_and, and_self, exists_eq_left, exists_eq_left', exists_eq_right, exists_eq_right', exists_and_left, exists_eq, exists_eq', reduceCtorEq, false_and, and_false, false_or, or_false, exists_false, decide_eq_true_eq, String.reduceEq, String.reduceBEq, Bool.or_true, Bool.true_or, Bool.or_false, Bool.false_or, or_true, true_or, if_true, if_false, Bool.not_eq_true', Nat.reduceAdd, Nat.reduceSub, Nat.zero_add, $[$ids:ident],*]))) | `(tactic| kpf_say ($H:ident, $q:ident, $hq:ident, $hh:ident, $ss:ident) al $G:ident $o) => `(tactic| (refine ⟨by decide, fun $q $hq => ?_⟩; have $hh : upd $H $q $o $q = some $o := upd_same; have $ss : Same $H (upd $H $q $o) := Same.upd0 $hq; generalize upd $H $q $o = $G at $hh:ident $ss:ident ⊢))
variable {P : Program} {w : World} {K : PySem.W.Frag} {mg : Str → Option Value} {base : Heap}
noncomputable abbrev s_is_number : Stmt := top 13
noncomputable abbrev s_is_whole : Stmt := top 14
noncomputable abbrev s_is_value : Stmt := top 15
noncomputable abbrev s_is_state : Stmt := top 16
noncomputable abbrev s_is_name : Stmt := top 17
noncomputable abbrev s_is_tuple_of : Stmt := top 18
noncomputable abbrev s_are_unlike : Stmt := top 19
noncomputable abbrev s_are_names : Stmt := top 20
noncomputable abbrev s_are_values : Stmt := top 21
noncomputable abbrev s_is_unlike : Stmt := top 22
noncomputable abbrev s_is_many_bound : Stmt := top 23
noncomputable abbrev s_is_many : Stmt := top 24
noncomputable abbrev s_is_term : Stmt := top 25
noncomputable abbrev s_is_sum_bound : Stmt := top 26
noncomputable abbrev s_are_terms : Stmt := top 27
noncomputable abbrev s_is_sum : Stmt := top 28
noncomputable abbrev s_are_rows : Stmt := top 29
noncomputable abbrev s_is_table : Stmt := top 30
noncomputable abbrev s_is_step : Stmt := top 31
noncomputable abbrev s_are_steps : Stmt := top 32
noncomputable abbrev s_are_ends : Stmt := top 33
noncomputable abbrev s_is_way : Stmt := top 34
noncomputable abbrev s_is_behind : Stmt := top 35
noncomputable abbrev s_sort_of : Stmt := top 37
noncomputable abbrev s_is_plain_wish : Stmt := top 38
noncomputable abbrev s_is_same : Stmt := top 39
noncomputable abbrev s_is_wish : Stmt := top 40
noncomputable abbrev s_plain_cells_of : Stmt := top 41
noncomputable abbrev s_cells_of : Stmt := top 42
noncomputable abbrev s__law_deal : Stmt := top 44
noncomputable abbrev s__law_draw : Stmt := top 45
noncomputable abbrev s__law_names : Stmt := top 46
noncomputable abbrev s__law_number : Stmt := top 47
noncomputable abbrev s__law_numbers : Stmt := top 48
noncomputable abbrev s__law_many : Stmt := top 49
noncomputable abbrev s__law_big_sum : Stmt := top 50
noncomputable abbrev s__law_big_rows : Stmt := top 51
noncomputable abbrev s__law_big_way : Stmt := top 52
noncomputable abbrev s__law_big_wish : Stmt := top 53
noncomputable abbrev s__law_bad_number : Stmt := top 54
noncomputable abbrev s__law_bad_name : Stmt := top 55
noncomputable abbrev s__law_put : Stmt := top 56
noncomputable abbrev s__law_bad_names : Stmt := top 57
noncomputable abbrev s__law_bad_values : Stmt := top 58
noncomputable abbrev s__law_bad_terms : Stmt := top 59
noncomputable abbrev s__law_bad_rows : Stmt := top 60
noncomputable abbrev s__law_bad_steps : Stmt := top 61
noncomputable abbrev s__law_bad_ends : Stmt := top 62
noncomputable abbrev s__law_bad_inner : Stmt := top 63
noncomputable abbrev s__law_bad_part : Stmt := top 64
noncomputable abbrev s__law_spoilt : Stmt := top 65
noncomputable abbrev s_law : Stmt := top 66
theorem sc_is_number : FnScope ["thing"] ["thing"] (defScope s_is_number) := ⟨rfl, rfl, rfl, by decide +kernel, rfl, by decide +kernel, by decide +kernel⟩
theorem sc_is_whole : FnScope ["thing", "least", "greatest"] ["thing", "least", "greatest"] (defScope s_is_whole) := ⟨rfl, rfl, rfl, by decide +kernel, rfl, by decide +kernel, by decide +kernel⟩
theorem sc_is_value : FnScope ["thing"] ["thing"] (defScope s_is_value) := ⟨rfl, rfl, rfl, by decide +kernel, rfl, by decide +kernel, by decide +kernel⟩
theorem sc_is_state : FnScope ["thing"] ["thing"] (defScope s_is_state) := ⟨rfl, rfl, rfl, by decide +kernel, rfl, by decide +kernel, by decide +kernel⟩
theorem sc_is_name : FnScope ["thing"] ["thing"] (defScope s_is_name) := ⟨rfl, rfl, rfl, by decide +kernel, rfl, by decide +kernel, by decide +kernel⟩
theorem sc_is_tuple_of : FnScope ["thing", "is_one", "least", "most"] ["thing", "is_one", "least", "most"] (defScope s_is_tuple_of) := ⟨rfl, rfl, rfl, by decide +kernel, rfl, by decide +kernel, by decide +kernel⟩
theorem sc_are_unlike : FnScope ["things"] ["things"] (defScope s_are_unlike) := ⟨rfl, rfl, rfl, by decide +kernel, rfl, by decide +kernel, by decide +kernel⟩
theorem sc_are_names : FnScope ["thing"] ["thing"] (defScope s_are_names) := ⟨rfl, rfl, rfl, by decide +kernel, rfl, by decide +kernel, by decide +kernel⟩
theorem sc_are_values : FnScope ["thing"] ["thing"] (defScope s_are_values) := ⟨rfl, rfl, rfl, by decide +kernel, rfl, by decide +kernel, by decide +kernel⟩
theorem sc_is_unlike : FnScope ["wish"] ["wish"] (defScope s_is_unlike) := ⟨rfl, rfl, rfl, by decide +kernel, rfl, by decide +kernel, by decide +kernel⟩
theorem sc_is_many_bound : FnScope ["thing"] ["thing"] (defScope s_is_many_bound) := ⟨rfl, rfl, rfl, by decide +kernel, rfl, by decide +kernel, by decide +kernel⟩
theorem sc_is_many : FnScope ["wish"] ["wish"] (defScope s_is_many) := ⟨rfl, rfl, rfl, by decide +kernel, rfl, by decide +kernel, by decide +kernel⟩
theorem sc_is_term : FnScope ["thing"] ["thing"] (defScope s_is_term) := ⟨rfl, rfl, rfl, by decide +kernel, rfl, by decide +kernel, by decide +kernel⟩
theorem sc_is_sum_bound : FnScope ["thing"] ["thing"] (defScope s_is_sum_bound) := ⟨rfl, rfl, rfl, by decide +kernel, rfl, by decide +kernel, by decide +kernel⟩
theorem sc_are_terms : FnScope ["thing"] ["thing"] (defScope s_are_terms) := ⟨rfl, rfl, rfl, by decide +kernel, rfl, by decide +kernel, by decide +kernel⟩
theorem sc_is_sum : FnScope ["wish"] ["wish"] (defScope s_is_sum) := ⟨rfl, rfl, rfl, by decide +kernel, rfl, by decide +kernel, by decide +kernel⟩
theorem sc_are_rows : FnScope ["thing", "length", "is_row"] ["thing", "length"] (defScope s_are_rows) := ⟨rfl, rfl, rfl, by decide +kernel, rfl, by decide +kernel, by decide +kernel⟩
theorem sc_is_table : FnScope ["wish"] ["wish"] (defScope s_is_table) := ⟨rfl, rfl, rfl, by decide +kernel, rfl, by decide +kernel, by decide +kernel⟩
theorem sc_is_step : FnScope ["thing"] ["thing"] (defScope s_is_step) := ⟨rfl, rfl, rfl, by decide +kernel, rfl, by decide +kernel, by decide +kernel⟩
theorem sc_are_steps : FnScope ["thing"] ["thing"] (defScope s_are_steps) := ⟨rfl, rfl, rfl, by decide +kernel, rfl, by decide +kernel, by decide +kernel⟩
theorem sc_are_ends : FnScope ["thing"] ["thing"] (defScope s_are_ends) := ⟨rfl, rfl, rfl, by decide +kernel, rfl, by decide +kernel, by decide +kernel⟩
theorem sc_is_way : FnScope ["wish"] ["wish"] (defScope s_is_way) := ⟨rfl, rfl, rfl, by decide +kernel, rfl, by decide +kernel, by decide +kernel⟩
theorem sc_is_behind : FnScope ["wish"] ["wish"] (defScope s_is_behind) := ⟨rfl, rfl, rfl, by decide +kernel, rfl, by decide +kernel, by decide +kernel⟩
theorem sc_sort_of : FnScope ["thing"] ["thing"] (defScope s_sort_of) := ⟨rfl, rfl, rfl, by decide +kernel, rfl, by decide +kernel, by decide +kernel⟩
theorem sc_is_plain_wish : FnScope ["thing", "sort"] ["thing"] (defScope s_is_plain_wish) := ⟨rfl, rfl, rfl, by decide +kernel, rfl, by decide +kernel, by decide +kernel⟩
theorem sc_is_same : FnScope ["wish"] ["wish"] (defScope s_is_same) := ⟨rfl, rfl, rfl, by decide +kernel, rfl, by decide +kernel, by decide +kernel⟩
theorem sc_is_wish : FnScope ["thing"] ["thing"] (defScope s_is_wish) := ⟨rfl, rfl, rfl, by decide +kernel, rfl, by decide +kernel, by decide +kernel⟩
theorem sc_plain_cells_of : FnScope ["wish"] ["wish"] (defScope s_plain_cells_of) := ⟨rfl, rfl, rfl, by decide +kernel, rfl, by decide +kernel, by decide +kernel⟩
theorem sc_cells_of : FnScope ["wish", "own", "inner"] ["wish"] (defScope s_cells_of) := ⟨rfl, rfl, rfl, by decide +kernel, rfl, by decide +kernel, by decide +kernel⟩
theorem sc__law_deal : FnScope ["_law_script", "_law_start", "_law_cells", "_law_number_here", "_law_cell"] ["_law_script", "_law_start"] (defScope s__law_deal) := ⟨rfl, rfl, rfl, by decide +kernel, rfl, by decide +kernel, by decide +kernel⟩
theorem sc__law_draw : FnScope ["_law_deal_here", "_law_many_here", "_law_number_here", "_law_one", "_law_other"] ["_law_deal_here", "_law_many_here"] (defScope s__law_draw) := ⟨rfl, rfl, rfl, by decide +kernel, rfl, by decide +kernel, by decide +kernel⟩
theorem sc__law_names : FnScope ["_law_deal_here", "_law_many_here", "_law_letters", "_law_names_here", "_law_k", "_law_word", "_law_place"] ["_law_deal_here", "_law_many_here"] (defScope s__law_names) := ⟨rfl, rfl, rfl, by decide +kernel, rfl, by decide +kernel, by decide +kernel⟩
theorem sc__law_number : FnScope ["_law_deal_here", "_law_most", "_law_way"] ["_law_deal_here", "_law_most"] (defScope s__law_number) := ⟨rfl, rfl, rfl, by decide +kernel, rfl, by decide +kernel, by decide +kernel⟩
theorem sc__law_numbers : FnScope ["_law_deal_here", "_law_many_here", "_law_low", "_law_found", "_law_k"] ["_law_deal_here", "_law_many_here"] (defScope s__law_numbers) := ⟨rfl, rfl, rfl, by decide +kernel, rfl, by decide +kernel, by decide +kernel⟩
theorem sc__law_many : FnScope ["_law_deal_here", "_law_most"] ["_law_deal_here", "_law_most"] (defScope s__law_many) := ⟨rfl, rfl, rfl, by decide +kernel, rfl, by decide +kernel, by decide +kernel⟩
theorem sc__law_big_sum : FnScope ["_law_deal_here", "_law_some", "_law_terms", "_law_name", "_law_a", "_law_bounds"] ["_law_deal_here", "_law_some"] (defScope s__law_big_sum) := ⟨rfl, rfl, rfl, by decide +kernel, rfl, by decide +kernel, by decide +kernel⟩
theorem sc__law_big_rows : FnScope ["_law_deal_here", "_law_wide", "_law_many_here", "_law_first", "_law_place", "_law_rows", "_law_value", "_law_row"] ["_law_deal_here", "_law_wide", "_law_many_here"] (defScope s__law_big_rows) := ⟨rfl, rfl, rfl, by decide +kernel, rfl, by decide +kernel, by decide +kernel⟩
theorem sc__law_big_way : FnScope ["_law_deal_here", "_law_some", "_law_states", "_law_values", "_law_steps", "_law_k", "_law_ends"] ["_law_deal_here", "_law_some"] (defScope s__law_big_way) := ⟨rfl, rfl, rfl, by decide +kernel, rfl, by decide +kernel, by decide +kernel⟩
theorem sc__law_big_wish : FnScope ["_law_deal_here", "_law_names_here", "_law_sort", "_law_some", "_law_low", "_law_inner"] ["_law_deal_here", "_law_names_here", "_law_sort"] (defScope s__law_big_wish) := ⟨rfl, rfl, rfl, by decide +kernel, rfl, by decide +kernel, by decide +kernel⟩
theorem sc__law_bad_number : FnScope ["_law_deal_here", "_law_most", "_law_far"] ["_law_deal_here", "_law_most"] (defScope s__law_bad_number) := ⟨rfl, rfl, rfl, by decide +kernel, rfl, by decide +kernel, by decide +kernel⟩
theorem sc__law_bad_name : FnScope ["_law_deal_here", "_law_some"] ["_law_deal_here"] (defScope s__law_bad_name) := ⟨rfl, rfl, rfl, by decide +kernel, rfl, by decide +kernel, by decide +kernel⟩
theorem sc__law_put : FnScope ["_law_things", "_law_place", "_law_thing"] ["_law_things", "_law_place", "_law_thing"] (defScope s__law_put) := ⟨rfl, rfl, rfl, by decide +kernel, rfl, by decide +kernel, by decide +kernel⟩
theorem sc__law_bad_names : FnScope ["_law_deal_here", "_law_names_here", "_law_spare", "_law_way", "_law_place"] ["_law_deal_here", "_law_names_here", "_law_spare"] (defScope s__law_bad_names) := ⟨rfl, rfl, rfl, by decide +kernel, rfl, by decide +kernel, by decide +kernel⟩
theorem sc__law_bad_values : FnScope ["_law_deal_here", "_law_values", "_law_way", "_law_place"] ["_law_deal_here", "_law_values"] (defScope s__law_bad_values) := ⟨rfl, rfl, rfl, by decide +kernel, rfl, by decide +kernel, by decide +kernel⟩
theorem sc__law_bad_terms : FnScope ["_law_deal_here", "_law_terms", "_law_spare", "_law_way", "_law_place", "_law_a", "_law_name", "_law_bad"] ["_law_deal_here", "_law_terms", "_law_spare"] (defScope s__law_bad_terms) := ⟨rfl, rfl, rfl, by decide +kernel, rfl, by decide +kernel, by decide +kernel⟩
theorem sc__law_bad_rows : FnScope ["_law_deal_here", "_law_rows", "_law_wide", "_law_way", "_law_place", "_law_row"] ["_law_deal_here", "_law_rows", "_law_wide"] (defScope s__law_bad_rows) := ⟨rfl, rfl, rfl, by decide +kernel, rfl, by decide +kernel, by decide +kernel⟩
theorem sc__law_bad_steps : FnScope ["_law_deal_here", "_law_steps", "_law_way", "_law_place", "_law_state", "_law_value", "_law_after"] ["_law_deal_here", "_law_steps"] (defScope s__law_bad_steps) := ⟨rfl, rfl, rfl, by decide +kernel, rfl, by decide +kernel, by decide +kernel⟩
theorem sc__law_bad_ends : FnScope ["_law_deal_here", "_law_ends", "_law_place"] ["_law_deal_here", "_law_ends"] (defScope s__law_bad_ends) := ⟨rfl, rfl, rfl, by decide +kernel, rfl, by decide +kernel, by decide +kernel⟩
theorem sc__law_bad_inner : FnScope ["_law_deal_here", "_law_wish", "_law_spare", "_law_way"] ["_law_deal_here", "_law_wish", "_law_spare"] (defScope s__law_bad_inner) := ⟨rfl, rfl, rfl, by decide +kernel, rfl, by decide +kernel, by decide +kernel⟩
theorem sc__law_bad_part : FnScope ["_law_deal_here", "_law_wish", "_law_place", "_law_spare", "_law_part", "_law_kind"] ["_law_deal_here", "_law_wish", "_law_place", "_law_spare"] (defScope s__law_bad_part) := ⟨rfl, rfl, rfl, by decide +kernel, rfl, by decide +kernel, by decide +kernel⟩
theorem sc__law_spoilt : FnScope ["_law_deal_here", "_law_wish", "_law_spare", "_law_way", "_law_words", "_law_place", "_law_bad"] ["_law_deal_here", "_law_wish", "_law_spare"] (defScope s__law_spoilt) := ⟨rfl, rfl, rfl, by decide +kernel, rfl, by decide +kernel, by decide +kernel⟩
theorem sc_law : FnScope ["_law_script", "_law_deal_here", "_law_names_here", "_law_sort", "_law_wish", "_law_k", "_law_bad", "_law_thing"] ["_law_script"] (defScope s_law) := ⟨rfl, rfl, rfl, by decide +kernel, rfl, by decide +kernel, by decide +kernel⟩
noncomputable def marksV : List V := [.str "in", .str "from", .str "to", .str "end"]
structure Txt (w : World) (K : PySem.W.Frag) (mg : Str → Option Value) : Prop where
  b_len : mg "len" = none
  b_max : mg "max" = none
  b_min : mg "min" = none
  b_abs : mg "abs" = none
  b_sum : mg "sum" = none
  b_list : mg "list" = none
  b_reversed : mg "reversed" = none
  b_range : mg "range" = none
  b_isinstance : mg "isinstance" = none
  b_all : mg "all" = none
  b_int : mg "int" = none
  b_str : mg "str" = none
  b_bool : mg "bool" = none
  b_tuple : mg "tuple" = none
  b_set : mg "set" = none
  c_MARKS : ConstT K mg "MARKS" marksV
  c_LONGEST_NAME : ∃ t, mg "LONGEST_NAME" = some (.int 8 t)
  c_MOST_CELLS : ∃ t, mg "MOST_CELLS" = some (.int 12 t)
  c_MOST_TERMS : ∃ t, mg "MOST_TERMS" = some (.int 6 t)
  c_MOST_VALUES : ∃ t, mg "MOST_VALUES" = some (.int 60 t)
  c_MOST_ROWS : ∃ t, mg "MOST_ROWS" = some (.int 60 t)
  c_MOST_STEPS : ∃ t, mg "MOST_STEPS" = some (.int 60 t)
  c_GREATEST_VALUE : ∃ t, mg "GREATEST_VALUE" = some (.int 1000000 t)
  c_GREATEST_STATE : ∃ t, mg "GREATEST_STATE" = some (.int 20 t)
  c_GREATEST_MANY : ∃ t, mg "GREATEST_MANY" = some (.int 1000000000 t)
  c_GREATEST_GAP : ∃ t, mg "GREATEST_GAP" = some (.int 1000000000 t)
  c_GREATEST_BOUND : ∃ t, mg "GREATEST_BOUND" = some (.int 10000000000000 t)
  at_is_name : mg "is_name" = some (.ref (clsAt mg "is_name"))
  at_is_value : mg "is_value" = some (.ref (clsAt mg "is_value"))
  at_is_state : mg "is_state" = some (.ref (clsAt mg "is_state"))
  at_is_term : mg "is_term" = some (.ref (clsAt mg "is_term"))
  at_is_step : mg "is_step" = some (.ref (clsAt mg "is_step"))
  at_PLAIN_FORMS : mg "PLAIN_FORMS" = some (.ref (clsAt mg "PLAIN_FORMS"))
  tb_PLAIN_FORMS : TabAt w K (clsAt mg "PLAIN_FORMS")
noncomputable def dealKvs (m sd n : Int) (l : Addr) : List (Key × V) := [(Sum.inr "mixed", .int m), (Sum.inr "seed", .int sd), (Sum.inr "number", .int n), (Sum.inr "left", .ref l)]
structure DealAt (H : Hp) (d l : Addr) : Prop where
  ex : ∃ (m sd n : Int) (xs : List Int), H d = some (.dK (dealKvs m sd n l)) ∧ H l = some (.lst (xs.map V.int)) ∧ 0 ≤ n ∧ (∀ x ∈ xs, 0 ≤ x) ∧ 0 ≤ sd ∧ sd < 2147483648 ∧ xs.length ≤ 63
noncomputable def But (d l : Addr) (H H' : Hp) : Prop := ∀ b o, b ≠ d → b ≠ l → H b = some o → H' b = some o
theorem k_ms : ¬ ((Sum.inr (Str.ofString "mixed") : Key) = Sum.inr (Str.ofString "seed")) := by decide +kernel
theorem k_mn : ¬ ((Sum.inr (Str.ofString "mixed") : Key) = Sum.inr (Str.ofString "number")) := by decide +kernel
theorem k_ml : ¬ ((Sum.inr (Str.ofString "mixed") : Key) = Sum.inr (Str.ofString "left")) := by decide +kernel
theorem k_sn : ¬ ((Sum.inr (Str.ofString "seed") : Key) = Sum.inr (Str.ofString "number")) := by decide +kernel
theorem k_sl : ¬ ((Sum.inr (Str.ofString "seed") : Key) = Sum.inr (Str.ofString "left")) := by decide +kernel
theorem k_nl : ¬ ((Sum.inr (Str.ofString "number") : Key) = Sum.inr (Str.ofString "left")) := by decide +kernel
theorem get_mixed (m sd n : Int) (l : Addr) : valV (dealKvs m sd n l) (Sum.inr "mixed") = some (.int m) := by unfold dealKvs; rw [valV_pos rfl]
theorem get_seed (m sd n : Int) (l : Addr) : valV (dealKvs m sd n l) (Sum.inr "seed") = some (.int sd) := by unfold dealKvs; rw [valV_neg k_ms, valV_pos rfl]
theorem get_number (m sd n : Int) (l : Addr) : valV (dealKvs m sd n l) (Sum.inr "number") = some (.int n) := by unfold dealKvs; rw [valV_neg k_mn, valV_neg k_sn, valV_pos rfl]
theorem get_left (m sd n : Int) (l : Addr) : valV (dealKvs m sd n l) (Sum.inr "left") = some (.ref l) := by unfold dealKvs; rw [valV_neg k_ml, valV_neg k_sl, valV_neg k_nl, valV_pos rfl]
theorem put_number (m sd n y : Int) (l : Addr) : putK (dealKvs m sd n l) (Sum.inr "number") (.int y) = dealKvs m sd y l := by
  unfold putK
  rw [valV_any, get_number]
  simp only [Option.isSome_some, if_true, dealKvs, List.map_cons, List.map_nil, if_neg k_mn, if_neg k_sn, if_neg (Ne.symm k_nl)]
theorem put_seed (m sd n y : Int) (l : Addr) : putK (dealKvs m sd n l) (Sum.inr "seed") (.int y) = dealKvs m y n l := by
  unfold putK
  rw [valV_any, get_seed]
  simp only [Option.isSome_some, if_true, dealKvs, List.map_cons, List.map_nil, if_neg k_ms, if_neg (Ne.symm k_sn), if_neg (Ne.symm k_sl)]
theorem deal_len (m sd n : Int) (l : Addr) : (dealKvs m sd n l).length < sizeLine := by show 4 < sizeLine; decide
theorem cmul_small {i j : Int} (h0 : 0 ≤ i) (h1 : i < 4294967296) : CMul i j := .inl ⟨by omega, by omega⟩
noncomputable def spDraw : Sp := fun vs H Q _ => ∃ (d l : Addr) (m : Int), vs = [.ref d, .int m] ∧ DealAt H d l ∧ 0 < m ∧ m < 18446744073709551616 ∧ ∀ (r : Int) (H' : Hp), 0 ≤ r → r < m → DealAt H' d l → But d l H H' → Q (.int r) H'
theorem merge_deal (m sd n : Int) (l : Addr) : mergeK [] (dealKvs m sd n l) = dealKvs m sd n l := by
  have e1 : putK ([] : List (Key × V)) (Sum.inr (Str.ofString "mixed")) (.int m) = [(Sum.inr (Str.ofString "mixed"), .int m)] := putK_new _ valV_nil
  have e2 : putK [((Sum.inr (Str.ofString "mixed") : Key), V.int m)] (Sum.inr (Str.ofString "seed")) (.int sd) = [(Sum.inr (Str.ofString "mixed"), .int m), (Sum.inr (Str.ofString "seed"), .int sd)] := putK_new _ (by rw [valV_neg k_ms, valV_nil])
  have e3 : putK [((Sum.inr (Str.ofString "mixed") : Key), V.int m), (Sum.inr (Str.ofString "seed"), .int sd)] (Sum.inr (Str.ofString "number")) (.int n) = [(Sum.inr (Str.ofString "mixed"), .int m), (Sum.inr (Str.ofString "seed"), .int sd), (Sum.inr (Str.ofString "number"), .int n)] := putK_new _ (by rw [valV_neg k_mn, valV_neg k_sn, valV_nil])
  have e4 : putK [((Sum.inr (Str.ofString "mixed") : Key), V.int m), (Sum.inr (Str.ofString "seed"), .int sd), (Sum.inr (Str.ofString "number"), .int n)] (Sum.inr (Str.ofString "left")) (.ref l) = dealKvs m sd n l := putK_new _ (by rw [valV_neg k_ml, valV_neg k_sl, valV_neg k_nl, valV_nil])
  show putK (putK (putK (putK ([] : List (Key × V)) (Sum.inr (Str.ofString "mixed")) (.int m)) (Sum.inr (Str.ofString "seed")) (.int sd)) (Sum.inr (Str.ofString "number")) (.int n)) (Sum.inr (Str.ofString "left")) (.ref l) = _
  rw [e1, e2, e3, e4]
theorem cut_ints (ns : List Int) (lo hi : Option Int) : ∃ ms : List Int, cutV (ns.map V.int) lo hi = ms.map V.int ∧ ms.length ≤ ns.length := by
  unfold cutV
  refine ⟨(ns.drop (HT.sIx (ns.map V.int).length 0 lo)).take (HT.sIx (ns.map V.int).length (ns.map V.int).length hi - HT.sIx (ns.map V.int).length 0 lo), by simp [List.map_take, List.map_drop], ?_⟩
  rw [List.length_take, List.length_drop]
  omega
theorem int_at {ms : List Int} {i : Nat} {x : V} (h : (ms.map V.int)[i]? = some x) : ∃ v, x = .int v := by
  rw [List.getElem?_map] at h
  cases e : ms[i]? with
  | none => rw [e] at h; cases h
  | some z => rw [e] at h; exact ⟨z, (Option.some.inj h).symm⟩
noncomputable def spDeal (K : PySem.W.Frag) : Sp := fun vs H Q _ => ∃ (a : Addr) (ns : List Int) (st : Int), vs = [.ref a, .int st] ∧ SqL K H a (ns.map V.int) ∧ ns.length ≤ 63 ∧ 0 ≤ st ∧ st ≤ 63 ∧ ∀ (d l : Addr) (H' : Hp), H d = none → H l = none → DealAt H' d l → Same H H' → Q (.ref d) H'
theorem draw_rd {d l : Addr} {m : Int} {H : Hp} {Q : VK} {E : XK} (D : DealAt H d l) (m0 : 0 < m) (m1 : m < 18446744073709551616) (h : ∀ (r : Int) (H' : Hp), 0 ≤ r → r < m → DealAt H' d l → But d l H H' → Q (.int r) H') : spDraw [.ref d, .int m] H Q E := ⟨d, l, m, rfl, D, m0, m1, h⟩
theorem But.refl {d l : Addr} (H : Hp) : But d l H H := fun _ _ _ _ e => e
theorem But.trans {d l : Addr} {H H1 H2 : Hp} (a : But d l H H1) (b : But d l H1 H2) : But d l H H2 := fun c o h1 h2 e => b c o h1 h2 (a c o h1 h2 e)
theorem But.new {d l p : Addr} {H H1 : Hp} {o : HO} (a : But d l H H1) (hp : H1 p = none) : But d l H (upd H1 p o) := fun c u h1 h2 e => by
  have e1 := a c u h1 h2 e
  rw [upd_ne (ne_of_none e1 hp)]; exact e1
theorem But.same {d l : Addr} {H H1 H2 : Hp} (a : But d l H H1) (s : Same H1 H2) : But d l H H2 := fun c u h1 h2 e => s c u (a c u h1 h2 e)
theorem DealAt.ne {d l p : Addr} {H : Hp} (D : DealAt H d l) (hp : H p = none) : p ≠ d ∧ p ≠ l := by
  obtain ⟨m, sd, n, xs, hd, hl, _⟩ := D.ex
  exact ⟨(ne_of_none hd hp).symm, (ne_of_none hl hp).symm⟩
theorem DealAt.same {d l : Addr} {H H' : Hp} (D : DealAt H d l) (s : Same H H') : DealAt H' d l := by
  obtain ⟨m, sd, n, xs, hd, hl, r⟩ := D.ex
  exact ⟨m, sd, n, xs, s _ _ hd, s _ _ hl, r⟩
theorem DealAt.new {d l p : Addr} {H : Hp} {o : HO} (D : DealAt H d l) (hp : H p = none) : DealAt (upd H p o) d l := D.same (Same.upd0 hp)
theorem DealAt.put {d l p : Addr} {H : Hp} {o : HO} (D : DealAt H d l) (h1 : p ≠ d) (h2 : p ≠ l) : DealAt (upd H p o) d l := by
  obtain ⟨m, sd, n, xs, hd, hl, r⟩ := D.ex
  exact ⟨m, sd, n, xs, by rw [upd_ne h1.symm]; exact hd, by rw [upd_ne h2.symm]; exact hl, r⟩
theorem But.put {d l p : Addr} {H H1 : Hp} {o : HO} (a : But d l H H1) (hp : H p = none) : But d l H (upd H1 p o) := fun c u h1 h2 e => by
  rw [upd_ne (ne_of_none e hp)]; exact a c u h1 h2 e
theorem But.free {d l p : Addr} {H H1 : Hp} (a : But d l H H1) (D : DealAt H1 d l) (hp : H1 p = none) : H p = none := by
  obtain ⟨h1, h2⟩ := D.ne hp
  cases e : H p with
  | none => rfl
  | some o => rw [a p o h1 h2 e] at hp; cases hp
theorem atI_mem {α : Type} {xs : List α} {i : Int} (h0 : 0 ≤ i) (h1 : i < (xs.length : Int)) : ∃ v, atI xs i = some v ∧ v ∈ xs := by
  obtain ⟨n, rfl⟩ := Int.eq_ofNat_of_zero_le h0
  have hn : n < xs.length := by omega
  exact ⟨xs[n], atI_nat (by simp [hn]), List.getElem_mem hn⟩
theorem draw_of {d l p : Addr} {m : Int} {vs : List V} {H : Hp} {Q : VK} {E : XK} (D : DealAt H d l) (hp : H p = none) (m0 : 0 < m) (m1 : m < 18446744073709551616) (hm : m = (vs.length : Int)) (h : ∀ (r : Int) (v : V) (H' : Hp), v ∈ vs → atI vs r = some v → DealAt H' d l → But d l H H' → H' p = some (.lst vs) → Q (.int r) H') : spDraw [.ref d, .int m] (upd H p (.lst vs)) Q E :=
  draw_rd (D.new hp) m0 m1 fun r H' r0 r1 D' B' => by
    obtain ⟨v, e, hv⟩ := atI_mem (xs := vs) r0 (by omega)
    exact h r v H' hv e D' (((But.refl H).new hp).trans B') (B' p _ (D.ne hp).1 (D.ne hp).2 upd_same)
theorem ok__law_draw   (T : Txt w K mg) (L : FnL K mg "_law_draw" s__law_draw ["_law_deal_here", "_law_many_here"])  : Fn P w K mg base "_law_draw" 1 ["_law_deal_here", "_law_many_here"] (spDraw) := by
  have nd := sc__law_draw.nd
  refine L.ok sc__law_draw (fun vs H Q E h => ?_) (fun f cdv A outer s H vs Q E hr h => ?_) <;> obtain ⟨d, l, m, rfl, D, m0, m1, k⟩ := h
  · rfl
  have hu := hu_of hr
  refine ⟨_, (pss_cons (ps_while PassesOwn.never (PW.pt (pw_and (pt_cmpR op_eq (pe_dg hu (pvM 0) pe_str (fun _ _ => rfl)) pe_int (nomark _)) (pw_and (pt_cmpR op_gt (pe_callB call_lenL rfl T.b_len PySem.boot_len (pa_cons (pe_dg hu (pvM 0) pe_str (fun _ _ => rfl)) pa_nil)) pe_int (nomark _)) (pw_and1 (pt_cmpR op_eq (pe_dg hu (pvM 0) pe_str (fun _ _ => rfl)) pe_int (nomark _)))))) (pss_one (ps_dp hu (pvM 0) pe_str (pe_mL0 PySem.F.slot_list_pop PySem.F.type_list_pop ml_pop (pe_dg hu (pvM 0) pe_str (fun _ _ => rfl))) rfl)))
    (pss_cons (ps_set (i := 2) nd rfl (by first | exact Or.inl rfl | exact Or.inr rfl) (pe_dg hu (pvM 0) pe_str (fun _ _ => rfl)))
    (pss_cons (ps_if (pt_cmpR op_gt (pvM 2) pe_int (nomark _)) (pss_cons (ps_dp hu (pvM 0) pe_str (pe_op op_fdivW (pvM 2) (pvM 1)) rfl)
    (pss_one (ps_ret (pe_op op_mod (pvM 2) (pvM 1))))) pss_nil)
    (pss_cons (ps_set (i := 3) nd rfl (by first | exact Or.inl rfl | exact Or.inr rfl) (pe_op op_mod (pe_op op_add (pe_op op_mul (pe_dg hu (pvM 0) pe_str (fun _ _ => rfl)) pe_int) pe_int) pe_int))
    (pss_cons (ps_dp hu (pvM 0) pe_str (pe_op op_mod (pe_op op_add (pe_op op_mul (pvM 3) pe_int) pe_int) pe_int) rfl)
    (pss_cons (ps_set (i := 4) nd rfl (by first | exact Or.inl rfl | exact Or.inr rfl) (pe_op op_mod (pe_op op_mul (pe_dg hu (pvM 0) pe_str (fun _ _ => rfl)) (pe_dg hu (pvM 0) pe_str (fun _ _ => rfl))) pe_int))
    (pss_one (ps_ret (pe_op op_mod (pe_op op_add (pe_op op_mul (pe_op op_mod (pe_op op_mul (pvM 3) (pvM 3)) pe_int) pe_int) (pvM 4)) (pvM 1)))))))))), ?_⟩
  obtain ⟨mx, sd, n, xs, hd, hl, n0, hx, s0, s1, hlen⟩ := D.ex
  have dl : d ≠ l := ne_of hd hl (by intro z; cases z)
  refine while_rd (fun μ σ H' => ∃ (n : Int) (xs : List Int), σ = [some (.ref d), some (.int m), none, none, none] ∧ H' d = some (.dK (dealKvs mx sd n l)) ∧ H' l = some (.lst (xs.map V.int)) ∧ 0 ≤ n ∧ (∀ x ∈ xs, 0 ≤ x) ∧ xs.length ≤ 63 ∧ But d l H H' ∧ μ = xs.length)
    (fun σ H' => ∃ (n : Int) (xs : List Int), σ = [some (.ref d), some (.int m), none, none, none] ∧ H' d = some (.dK (dealKvs mx sd n l)) ∧ H' l = some (.lst (xs.map V.int)) ∧ 0 ≤ n ∧ (∀ x ∈ xs, 0 ≤ x) ∧ xs.length ≤ 63 ∧ But d l H H')
    ⟨_, n, xs, rfl, hd, hl, n0, hx, hlen, fun b o _ _ e => e, rfl⟩ ?_ ?_
  · rintro R hR μ σ H1 ⟨n1, xs1, rfl, hd1, hl1, n01, hx1, hlen1, bt, rfl⟩
    have hr := hR _ _ ⟨n1, xs1, rfl, hd1, hl1, n01, hx1, hlen1, bt⟩
    (try ctx_has vcx true_and hd1 hl1 get_number get_left get_mixed)
    refine ite2 (fun h1 => ?_) (fun _ => hr)
    refine ite2 (fun h2 => ?_) (fun _ => hr)
    refine ite2 (fun h3 => ?_) (fun _ => hr)
    rcases List.eq_nil_or_concat xs1 with rfl | ⟨ys, z, rfl⟩
    · simp at h2
    refine ⟨fun σ' H' => σ' = [some (.ref d), some (.int m), none, none, none] ∧ H' = upd (upd H1 l (.lst (ys.map V.int))) d (.dK (dealKvs mx sd z l)), ?_, V.int z, by simp, dealKvs mx sd n1 l, by rw [upd_ne dl]; exact hd1, deal_len _ _ _ _, by rw [put_number]; simp⟩
    rintro _ _ ⟨rfl, rfl⟩
    refine ⟨ys.length, by simp, rfl, z, upd_same, ys, by rw [upd_ne dl.symm, upd_same], hx1 z (by simp), fun x hx => hx1 x (by simp [hx]), by simp at hlen1; omega, fun b o h1 h2 e => ?_, rfl⟩
    rw [upd_ne h1, upd_ne h2]
    exact bt b o h1 h2 e
  · rintro σ H1 ⟨n1, xs1, rfl, hd1, hl1, n01, hx1, hlen1, bt⟩
    (try ctx_has vcx true_and hd1 hl1 get_number get_left get_mixed get_seed deal_len put_number put_seed upd_same)
    have fin : ∀ (r sd' n' : Int), 0 ≤ r → r < m → 0 ≤ n' → 0 ≤ sd' → sd' < 2147483648 → Q (.int r) (upd H1 d (HO.dK (dealKvs mx sd' n' l))) := fun r sd' n' r0 r1 n'0 h0 h1 =>
      k r _ r0 r1 ⟨mx, sd', n', xs1, upd_same, by rw [upd_ne dl.symm]; exact hl1, n'0, hx1, h0, h1, hlen1⟩ fun b o h1 h2 e => by rw [upd_ne h1]; exact bt b o h1 h2 e
    refine ite2 (fun h1 => ?_) (fun h1 => ?_)
    · exact ⟨⟨m0, m1⟩, m0, fin _ _ _ (Int.emod_nonneg _ (by omega)) (Int.emod_lt_of_pos _ m0) (Int.ediv_nonneg (by omega) (by omega)) s0 s1⟩
    · generalize hone : (sd * 48271 + 7919) % 2147483647 = one
      have o0 : 0 ≤ one := by omega
      have o1 : one < 2147483647 := by omega
      generalize hsd2 : (one * 40692 + 104729) % 2147483399 = sd2
      have p0 : 0 ≤ sd2 := by omega
      have p1 : sd2 < 2147483399 := by omega
      have q0 := Int.emod_nonneg (one * one) (show (2147483629 : Int) ≠ 0 by decide)
      have q1 := Int.emod_lt_of_pos (one * one) (show (0 : Int) < 2147483629 by decide)
      exact ⟨cmul_small s0 (by omega), by decide, cmul_small o0 (by omega), by decide, cmul_small p0 (by omega), by decide, cmul_small o0 (by omega), by decide, cmul_small q0 (by omega), m0,
        fin _ _ _ (Int.emod_nonneg _ (by omega)) (Int.emod_lt_of_pos _ m0) n01 p0 (by omega)⟩
theorem ok__law_deal   (T : Txt w K mg) (L : FnL K mg "_law_deal" s__law_deal ["_law_script", "_law_start"])  : Fn P w K mg base "_law_deal" 1 ["_law_script", "_law_start"] (spDeal K) := by
  have nd := sc__law_deal.nd
  refine L.ok sc__law_deal (fun vs H Q E h => ?_) (fun f cdv A outer s H vs Q E hr h => ?_) <;> obtain ⟨a, ns, st, rfl, hS, hlen, st0, st1, k⟩ := h
  · rfl
  have hu := hu_of hr
  refine ⟨_, (pss_cons (ps_setC (i := 2) (N := ["_law_cell"]) (nt := 1) (js := []) nd rfl (by first | exact Or.inl rfl | exact Or.inr rfl) rfl (compOk_of ["_law_script", "_law_start", "_law_cells", "_law_number_here", "_law_cell"] (defScope s__law_deal).names rfl rfl rfl (by decide +kernel)) (pi_LK (K := K) rfl (pe_slice sl_Q (pvM 0) (po_some (pvM 1)) (po_some pe_int))) (fun _ _ _ _ _ _ => (pg_name (i := 0) (show List.Nodup [("_law_cell" : Str)] by decide +kernel) rfl (Or.inl rfl))) (tgOk_name (by decide)) (fun _ _ _ _ _ _ => pts_nil) (fun _ _ _ _ _ _ => (pe_callB (call_max2 rfl) rfl T.b_max (show bootBuiltins "max" = some (.builtin "max") by decide +kernel) (pa_cons (pvM 0) (pa_cons (pe_op op_sub pe_int (pvM 0)) pa_nil)))))
    (pss_cons (ps_set (i := 3) nd rfl (by first | exact Or.inl rfl | exact Or.inr rfl) (pe_op op_add pe_int (pvM 1)))
    (pss_cons (ps_for PassesOwn.never rfl (pi_LK (K := K) rfl (pvM 2)) (pg_name (i := 4) nd rfl (by first | exact Or.inl rfl | exact Or.inr rfl)) (pss_one (ps_set (i := 3) nd rfl (by first | exact Or.inl rfl | exact Or.inr rfl) (pe_op op_mod (pe_op op_add (pe_op op_mul (pvM 3) pe_int) (pvM 4)) pe_int))))
    (pss_one (ps_ret (pe_disp (pps_cons pe_str (pe_op op_mod (pe_callB (call_sum_l rfl) rfl T.b_sum (show bootBuiltins "sum" = some (.builtin "sum") by decide +kernel) (pa_cons (pe_slice sl_Q (pvM 0) po_none (po_some pe_int)) pa_nil)) pe_int) (pps_cons pe_str (pvM 3) (pps_cons pe_str pe_int (pps_cons pe_str (pe_listrev rfl rfl T.b_list rfl T.b_reversed (pvM 2)) pps_nil)))) rfl rfl (by nofun) (by decide))))))), ?_⟩
  (try ctx_has vcx true_and)
  refine ⟨_, hS, fun p hp => ⟨_, upd_same, fun D hD => ?_⟩⟩
  have pD : D ≠ p := by rintro rfl; rw [upd_same] at hD; cases hD
  obtain ⟨ms, hms, hml⟩ := cut_ints ns (some st) (some 63)
  rw [hms] at hD ⊢
  rw [upd_ne pD] at hD
  refine comp_g wlk_list (fun i ys H2 => ∃ cs : List Int, ys = cs.map V.int ∧ cs.length = i ∧ (∀ x ∈ cs, 0 ≤ x) ∧ H2 p = some (.lst (ms.map V.int)) ∧ H2 D = some (.lst ys) ∧ Same H H2)
    ⟨[], rfl, rfl, by simp, by rw [upd_ne pD.symm, upd_same], upd_same, (Same.upd0 hp).upd_new (by rw [upd_ne pD]; exact hD)⟩ (fun i ys H2 zq34 => by obtain ⟨_, _, _, _, h, _⟩ := zq34; exact (.of h)) ?_ ?_
  · rintro i x ys H2 hi hx ⟨cs, rfl, rfl, hc, h1, h2, sm⟩
    obtain ⟨v, rfl⟩ := int_at hx
    (try ctx_has vcx true_and h2)
    have hi : cs.length < 63 := by simp at hi; omega
    refine ⟨by simp; exact small1000 (by omega), cs ++ [if 0 - v > v then 0 - v else v], by simp, by simp, fun x hx => ?_, by rw [upd_ne pD.symm]; exact h1, upd_same, fun b o e => ?_⟩
    · rcases List.mem_append.mp hx with q | q
      · exact hc x q
      · rw [List.mem_singleton.mp q]; split <;> omega
    · rw [upd_ne (ne_of_none e hD)]; exact sm b o e
  · rintro ys H2 ⟨cs, rfl, hc, hpos, h1, h2, sm⟩
    have hcl : cs.length ≤ 63 := by simp at hc; omega
    (try ctx_has vcx true_and h2)
    refine for_g wlk_list (fun i σ H3 => ∃ (z : Int) (v : Option V), σ = [some (.ref a), some (.int st), some (.ref D), some (.int z), v] ∧ 0 ≤ z ∧ z < 2147483648 ∧ H3 = H2)
      ⟨_, _, rfl, by omega, by omega, rfl⟩ (fun i σ H3 zq35 => by obtain ⟨_, _, _, _, _, h⟩ := zq35; exact (by rw [h]; exact .of h2)) ?_ ?_
    · rintro i x σ H3 hi hx ⟨z, v, rfl, z0, z1, rfl⟩
      obtain ⟨y, rfl⟩ := int_at hx
      (try ctx_has vcx true_and)
      exact ⟨cmul_small z0 (by omega), by decide, by omega, by omega⟩
    · rintro σ H3 ⟨z, v, rfl, z0, z1, rfl⟩
      (try ctx_has vcx true_and h2 rSum)
      intro d hd
      refine ⟨_, (sm.upd_new hd).seq hS, fun p2 hp2 => ?_⟩
      have dp2 : p2 ≠ d := by rintro rfl; rw [upd_same] at hp2; cases hp2
      have hp2' : H3 p2 = none := by rwa [upd_ne dp2] at hp2
      obtain ⟨xs, hxs, _⟩ := cut_ints ns none (some 1)
      rw [hxs]
      have nD2 : D ≠ p2 := ne_of_none h2 hp2'
      have nDd : D ≠ d := ne_of_none h2 hd
      refine ⟨xs, .of upd_same, by decide, _, by rw [upd_ne nD2, upd_ne nDd]; exact h2, fun l hl => ?_⟩
      have l1 : l ≠ p2 := by rintro rfl; rw [upd_same] at hl; cases hl
      have l2 : l ≠ d := by rintro rfl; rw [upd_ne dp2.symm, upd_same] at hl; cases hl
      have hl' : H3 l = none := by rwa [upd_ne l1, upd_ne l2] at hl
      refine ⟨by rw [upd_ne l2.symm, upd_ne dp2.symm, upd_same], dealKvs (xs.sum % 2) z 0 l, rfl, by show 4 ≤ 15; decide, ?_⟩
      rw [merge_deal]
      refine k d l _ (sm.free hd) (sm.free hl') ⟨_, z, 0, cs.reverse, upd_same, by rw [upd_ne l2, upd_same, List.map_reverse], by omega, fun x hx => hpos x (List.mem_reverse.mp hx), z0, z1, by simpa using hcl⟩ fun b o e => ?_
      have e3 := sm b o e
      rw [upd_ne (ne_of_none e3 hd), upd_ne (ne_of_none e3 hl'), upd_ne (ne_of_none e3 hp2'), upd_ne (ne_of_none e3 hd)]
      exact e3
noncomputable def spNames : Sp := fun vs H Q _ => ∃ (d l : Addr) (m : Int), vs = [.ref d, .int m] ∧ DealAt H d l ∧ 0 ≤ m ∧ m ≤ 20 ∧ ∀ (p : Addr) (ws : List Str) (H' : Hp), H p = none → NamesOk ws → ws.length = m.toNat → H' p = some (.lst (ws.map V.str)) → DealAt H' d l → But d l H H' → Q (.ref p) H'
theorem nxt_rd {w1 : Str} (n1 : IsNm w1) {P : Str → Prop} (h : P (nxtW w1)) : w1.length ≤ sizeLine ∧ ∃ c, atI w1.cps.toList 0 = some c ∧ ∃ i rest, Builtin.Str.occurrences (Str.ofString "abcdefghijklmnopqrstuvwxyz") { cps := #[c] } 0 (Str.ofString "abcdefghijklmnopqrstuvwxyz").length 1 = i :: rest ∧ (0 : Int) < 26 ∧
    (Str.ofString "abcdefghijklmnopqrstuvwxyz").length ≤ sizeLine ∧ ∃ c, atI (Str.ofString "abcdefghijklmnopqrstuvwxyz").cps.toList (((i : Nat) + 1 : Int) % 26) = some c ∧ w1.length ≤ sizeLine ∧ (Str.mk #[c]).length + (Txt.slice w1 (some 1) none).length ≤ sizeLine ∧ P ((Str.mk #[c]) ++ Txt.slice w1 (some 1) none) := by
  obtain ⟨c, cs, e, hc, hcs, hl⟩ := n1.cons
  have hlw : w1.length ≤ sizeLine := Nat.le_of_lt (small1000 (Nat.le_trans n1.le (by decide)))
  have hs := Txt.slice_le w1 (some 1) none
  have hw := n1.le
  refine ⟨hlw, c, by rw [e]; exact atI_zero _ _, _, _, letters_index hc, by decide, letters_len, _, letters_at (by omega) (by omega), hlw, Nat.le_of_lt (small1000 (by show 1 + _ ≤ 1000; omega)), ?_⟩
  have hc2 := hc
  simp only [smallB, Bool.and_eq_true, decide_eq_true_eq] at hc2
  have hl1 : w1.length = cs.length + 1 := by rw [← len_cps, e]; rfl
  have key : (Str.mk #[97 + ((((c - 97 : Nat) : Int) + 1) % 26).toNat]) ++ Txt.slice w1 (some 1) none = nxtW w1 := by
    apply str_ext
    rw [append_cps, slice_cps, e, hl1]
    have e1 : 97 + ((((c - 97 : Nat) : Int) + 1) % 26).toNat = nxtC c := by unfold nxtC; omega
    have e2 : HT.sIx (cs.length + 1) 0 (some 1) = 1 := by
      show (if (1 : Int) < 0 then ((1 : Int) + ((cs.length + 1 : Nat) : Int)).toNat else min (1 : Int).toNat (cs.length + 1)) = 1
      rw [if_neg (by decide)]
      show min 1 (cs.length + 1) = 1
      omega
    rw [e1, e2, HT.sIx_none]
    simp [nxtW, e, nxtL]
  rw [key]
  exact h
theorem names_while {Dn : Ends} {d p : Addr} {v1 vk vp : Option V} {ws : List Str} {H : Hp} {wd : Str} (hw : IsNm wd) (hws : ws.length ≤ 20) (hp : H p = some (.lst (ws.map V.str)))
    (fin : ∀ (wd' : Str) (H' : Hp), IsNm wd' → wd' ∉ ws → wd' ∉ marks4 → Same H H' → Dn.nx [some (.ref d), v1, some (.str (Str.ofString "abcdefghijklmnopqrstuvwxyz")), some (.ref p), vk, some (.str wd'), vp] H') :
    tWhile
      (tOr (tTest (tOp (rInL false) (tVarM 5) (tVarM 3)))
        (tTest (tOp (rInL false) (tVarM 5) (tLst (tCons (tC (V.str (Str.ofString "in"))) (tCons (tC (V.str (Str.ofString "from"))) (tCons (tC (V.str (Str.ofString "to"))) (tCons (tC (V.str (Str.ofString "end"))) tNil))))))))
      (tAsg (tOp rCS (tOp rIS (tVarM 2) (tOp (rI (fun x j => 0 < j) fun i j => V.int (i % j)) (tOp (rI0 fun i j => V.int (i + j)) (tMS rmIndex (tVarM 2) (tCons (tOp rIS (tVarM 5) (tC (V.int 0))) tNil)) (tC (V.int 1))) (tC (V.int 26))))
          (tSl rSlS (tVarM 5) (tPart (tC (V.int 1))) tNoPart)) (gName 5))
      Dn [some (.ref d), v1, some (.str (Str.ofString "abcdefghijklmnopqrstuvwxyz")), some (.ref p), vk, some (.str wd), vp] H := by
  obtain ⟨μ0, h0⟩ := free_word hw (F := ws ++ marks4) (by simp [marks4]; omega)
  refine while_rd (fun μ σ H' => ∃ wd' : Str, σ = [some (.ref d), v1, some (.str (Str.ofString "abcdefghijklmnopqrstuvwxyz")), some (.ref p), vk, some (.str wd'), vp] ∧ IsNm wd' ∧ nxtN μ wd' ∉ ws ++ marks4 ∧ Same H H')
    (fun σ H' => ∃ wd' : Str, σ = [some (.ref d), v1, some (.str (Str.ofString "abcdefghijklmnopqrstuvwxyz")), some (.ref p), vk, some (.str wd'), vp] ∧ IsNm wd' ∧ wd' ∉ ws ∧ wd' ∉ marks4 ∧ Same H H')
    ⟨μ0, wd, rfl, hw, h0, Same.refl _⟩ ?_ ?_
  · rintro R hR μ σ H1 ⟨w1, rfl, n1, f1, sm⟩
    have hp1 := sm _ _ hp
    have step : ∀ H2, Same H H2 → w1 ∈ ws ++ marks4 → ∀ σ' H', (σ' = [some (.ref d), v1, some (.str (Str.ofString "abcdefghijklmnopqrstuvwxyz")), some (.ref p), vk, some (.str (nxtW w1)), vp] ∧ H' = H2) → ∃ m', m' < μ ∧ ∃ wd' : Str, σ' = [some (.ref d), v1, some (.str (Str.ofString "abcdefghijklmnopqrstuvwxyz")), some (.ref p), vk, some (.str wd'), vp] ∧ IsNm wd' ∧ nxtN m' wd' ∉ ws ++ marks4 ∧ Same H H' := fun H2 sm2 hin => by
      rintro _ _ ⟨rfl, rfl⟩
      cases μ with
      | zero => exact absurd hin f1
      | succ μ => exact ⟨μ, Nat.lt_succ_self _, nxtW w1, rfl, nxtW_nm n1, f1, sm2⟩
    (try ctx_has vcx true_and hp1)
    refine ⟨rfl, flat_strs _, ?_⟩
    rw [inV_strs]
    refine ite2 (fun h => ?_) (fun h => ?_)
    · exact ⟨_, step H1 sm (List.mem_append_left _ (by simpa using h)), nxt_rd n1 (P := fun z => [some (V.ref d), v1, some (.str (Str.ofString "abcdefghijklmnopqrstuvwxyz")), some (.ref p), vk, some (.str z), vp] = [some (V.ref d), v1, some (.str (Str.ofString "abcdefghijklmnopqrstuvwxyz")), some (.ref p), vk, some (.str (nxtW w1)), vp] ∧ H1 = H1) ⟨rfl, rfl⟩⟩
    · refine ⟨by decide, fun q hq => ⟨_, upd_same, rfl, by decide +kernel, ?_⟩⟩
      have sm2 : Same H (upd H1 q (.lst (marks4.map V.str))) := sm.upd_new hq
      show (if inV (V.str w1) (marks4.map V.str) = true then _ else _)
      rw [inV_strs]
      refine ite2 (fun h2 => ?_) (fun h2 => ?_)
      · exact ⟨_, step _ sm2 (List.mem_append_right _ (by simpa using h2)), nxt_rd n1 (P := fun z => [some (V.ref d), v1, some (.str (Str.ofString "abcdefghijklmnopqrstuvwxyz")), some (.ref p), vk, some (.str z), vp] = [some (V.ref d), v1, some (.str (Str.ofString "abcdefghijklmnopqrstuvwxyz")), some (.ref p), vk, some (.str (nxtW w1)), vp] ∧ _ = _) ⟨rfl, rfl⟩⟩
      · exact hR _ _ ⟨w1, rfl, n1, by simpa using h, by simpa using h2, sm2⟩
  · rintro σ H1 ⟨w1, rfl, n1, f1, f2, sm⟩
    exact fin w1 H1 n1 f1 f2 sm
theorem ok__law_names   (T : Txt w K mg) (L : FnL K mg "_law_names" s__law_names ["_law_deal_here", "_law_many_here"]) (F_law_draw : Fn P w K mg base "_law_draw" 1 ["_law_deal_here", "_law_many_here"] (spDraw)) : Fn P w K mg base "_law_names" 2 ["_law_deal_here", "_law_many_here"] (spNames) := by
  have nd := sc__law_names.nd
  refine L.ok sc__law_names (fun vs H Q E h => ?_) (fun f cdv A outer s H vs Q E hr h => ?_) <;> obtain ⟨d, l, m, rfl, D, m0, m1, k⟩ := h
  · rfl
  have hu := hu_of hr
  refine ⟨_, (pss_cons (ps_set (i := 2) nd rfl (by first | exact Or.inl rfl | exact Or.inr rfl) pe_str)
    (pss_cons (ps_set (i := 3) nd rfl (by first | exact Or.inl rfl | exact Or.inr rfl) (pe_lst pa_nil))
    (pss_cons (ps_for PassesOwn.never rfl (pi_range1 rfl T.b_range (pa_cons (pvM 1) pa_nil)) (pg_name (i := 4) nd rfl (by first | exact Or.inl rfl | exact Or.inr rfl)) (pss_cons (ps_set (i := 5) nd rfl (by first | exact Or.inl rfl | exact Or.inr rfl) (pe_mS PySem.F.slot_str_join PySem.F.type_str_join ms_join pe_str (pa_cons (pe_comp (N := ["_law_j", "_law_letters", "_law_deal_here"]) (nt := 1) (js := [2, 0]) rfl (compOk_of ["_law_deal_here", "_law_many_here", "_law_letters", "_law_names_here", "_law_k", "_law_word", "_law_place"] (defScope s__law_names).names rfl rfl rfl (by decide +kernel)) (pi_range1 rfl T.b_range (pa_cons (pe_op op_add pe_int (pe_callF F_law_draw (hr.mono (by first | decide | omega)) rfl (pa_cons (pvM 0) (pa_cons pe_int pa_nil)))) pa_nil)) (fun _ _ _ _ _ _ => (pg_name (i := 0) (show List.Nodup [("_law_j" : Str), ("_law_letters" : Str), ("_law_deal_here" : Str)] by decide +kernel) rfl (Or.inl rfl))) (tgOk_name (by decide)) (fun _ _ _ _ _ _ => pts_nil) (fun _ _ _ _ _ _ => (pe_ix ix_S (pvM 1) (pe_callF F_law_draw (hr.mono (by first | decide | omega)) rfl (pa_cons (pvM 2) (pa_cons pe_int pa_nil))) (fun _ _ => rfl)))) pa_nil)))
    (pss_cons (ps_if (PW.pt (pw_and (pt_cmpR op_gt (pvM 4) pe_int (nomark _)) (pw_and1 (pt_cmpR op_eq (pe_callF F_law_draw (hr.mono (by first | decide | omega)) rfl (pa_cons (pvM 0) (pa_cons pe_int pa_nil))) pe_int (nomark _))))) (pss_cons (ps_set (i := 6) nd rfl (by first | exact Or.inl rfl | exact Or.inr rfl) (pe_callF F_law_draw (hr.mono (by first | decide | omega)) rfl (pa_cons (pvM 0) (pa_cons (pe_callB call_lenS rfl T.b_len PySem.boot_len (pa_cons (pe_ix ix_L (pvM 3) (pe_un un_neg pe_int) (fun _ _ => rfl)) pa_nil)) pa_nil))))
    (pss_one (ps_set (i := 5) nd rfl (by first | exact Or.inl rfl | exact Or.inr rfl) (pe_op op_catS (pe_op op_catS (pe_slice sl_str (pe_ix ix_L (pvM 3) (pe_un un_neg pe_int) (fun _ _ => rfl)) po_none (po_some (pvM 6))) (pe_ix ix_S (pvM 5) pe_int (fun _ _ => rfl))) (pe_slice sl_str (pe_ix ix_L (pvM 3) (pe_un un_neg pe_int) (fun _ _ => rfl)) (po_some (pe_op op_add (pvM 6) pe_int)) po_none))))) pss_nil)
    (pss_cons (ps_while PassesOwn.never (PW.pt (pw_or (pt_cmpR op_inL (pvM 5) (pvM 3) (by with_unfolding_all rfl)) (pw_or1 (pt_cmpR op_inL (pvM 5) (pe_lst (pa_cons pe_str (pa_cons pe_str (pa_cons pe_str (pa_cons pe_str pa_nil))))) (by with_unfolding_all rfl))))) (pss_one (ps_set (i := 5) nd rfl (by first | exact Or.inl rfl | exact Or.inr rfl) (pe_op op_catS (pe_ix ix_S (pvM 2) (pe_op op_mod (pe_op op_add (pe_mS PySem.F.slot_str_index PySem.F.type_str_index ms_index (pvM 2) (pa_cons (pe_ix ix_S (pvM 5) pe_int (fun _ _ => rfl)) pa_nil)) pe_int) pe_int) (fun _ _ => rfl)) (pe_slice sl_str (pvM 5) (po_some pe_int) po_none)))))
    (pss_one (ps_expr (pe_mL PySem.F.slot_list_append PySem.F.type_list_append ml_append (pvM 3) (pa_cons (pvM 5) pa_nil))))))))
    (pss_one (ps_ret (pvM 3)))))), ?_⟩
  (try ctx_has vcx true_and)
  refine ⟨by decide, fun p hp => ⟨by omega, by omega, ?_⟩⟩
  have np := D.ne hp
  refine for_g wlk_range (fun i σ H' => ∃ (ws : List Str) (vk vw vp : Option V), σ = [some (.ref d), some (.int m), some (.str (Str.ofString "abcdefghijklmnopqrstuvwxyz")), some (.ref p), vk, vw, vp] ∧ NamesOk ws ∧ ws.length = i ∧ H' p = some (.lst (ws.map V.str)) ∧ DealAt H' d l ∧ But d l H H')
    ⟨[], _, _, _, rfl, .nil, rfl, upd_same, D.new hp, (But.refl H).new hp⟩ (fun _ _ _ _ => True.intro) ?_ ?_
  · rintro i x σ H2 hi hx ⟨ws, vk, vw, vp, rfl, ok, hlen, h2, D2, B2⟩
    rw [rngV_length] at hi
    rw [rngV_get hi] at hx
    obtain rfl := Option.some.inj hx
    (try ctx_has vcx true_and)
    refine draw_rd D2 (by decide) (by decide) fun r H3 r0 r1 D3 B3 => ?_
    (try ctx_has vcx true_and)
    refine ⟨by omega, by omega, fun q hq => ?_⟩
    have h3 := B3 p _ np.1 np.2 h2
    have nq := D3.ne hq
    have npq : p ≠ q := ne_of_none h3 hq
    refine comp_g wlk_range (fun j ys H4 => ∃ cs : List Nat, ys = cs.map (fun c => V.str ⟨#[c]⟩) ∧ cs.length = j ∧ (∀ c ∈ cs, smallB c = true) ∧ H4 q = some (.lst ys) ∧ H4 p = some (.lst (ws.map V.str)) ∧ DealAt H4 d l ∧ But d l H H4)
      ⟨[], rfl, rfl, by simp, upd_same, by rw [upd_ne npq]; exact h3, D3.new hq, (B2.trans B3).new hq⟩ (fun _ _ _ _ => True.intro) ?_ ?_
    · rintro j x ys H4 hj hx ⟨cs, rfl, hcl, hcs, h4, h4p, D4, B4⟩
      (try ctx_has vcx true_and)
      rw [rngV_length] at hj
      refine draw_rd D4 (by decide) (by decide) fun r5 H5 r50 r51 D5 B5 => ?_
      have h5 := B5 q _ nq.1 nq.2 h4
      have h5p := B5 p _ np.1 np.2 h4p
      refine ⟨r5, rfl, letters_len, _, letters_at r50 r51, h5, by simp; exact small1000 (by omega), cs ++ [97 + r5.toNat], by simp, by simp; omega, fun c hc => ?_, upd_same, by rw [upd_ne npq]; exact h5p, D5.put nq.1 nq.2, (B4.trans B5).put (B2.free D2 ((B3.free D3 hq)))⟩
      rcases List.mem_append.mp hc with z | z
      · exact hcs c z
      · rw [List.mem_singleton.mp z]
        unfold smallB
        rw [Bool.and_eq_true, decide_eq_true_eq, decide_eq_true_eq]
        omega
    · rintro ys H4 ⟨cs, rfl, hcl, hcs, h4, h4p, D4, B4⟩
      rw [rngV_length] at hcl
      (try ctx_has vcx true_and)
      refine ⟨cs.map fun c => ⟨#[c]⟩, by rw [h4]; simp, by rw [sum_ones, show (Str.ofString "").length = 0 by decide +kernel]; omega, ?_⟩
      have hj := join_signs cs
      generalize Txt.join (Str.ofString "") (cs.map fun c => Str.mk #[c]) = wd at hj ⊢
      obtain ⟨c0, cs', rfl⟩ : ∃ c0 cs', cs = c0 :: cs' := by
        cases cs with
        | nil => simp at hcl; omega
        | cons a b => exact ⟨a, b, rfl⟩
      have nwd : IsNm wd := .of hj (hcs c0 (by simp)) (fun x hx => hcs x (by simp [hx])) (by simp at hcl; omega)
      have hwl : ∀ {w : Str}, IsNm w → w.length ≤ sizeLine := fun h => Nat.le_of_lt (small1000 (Nat.le_trans h.le (by decide)))
      have hws : ws.length ≤ 20 := by omega
      have fin : ∀ (wd' : Str) (H5 H6 : Hp), DealAt H5 d l → But d l H H5 → Same H5 H6 → IsNm wd' → wd' ∉ ws → wd' ∉ marks4 → ∃ ws', NamesOk ws' ∧ ws'.length = i + 1 ∧ upd H6 p (HO.lst (ws.map V.str ++ [V.str wd'])) p = some (HO.lst (ws'.map V.str)) ∧ DealAt (upd H6 p (HO.lst (ws.map V.str ++ [V.str wd']))) d l ∧ But d l H (upd H6 p (HO.lst (ws.map V.str ++ [V.str wd']))) :=
        fun wd' H5 H6 D5 B5 sm n f1 f2 => ⟨ws ++ [wd'], ok.snoc n f1 f2, by simp [hlen], by rw [upd_same]; simp, (D5.same sm).put np.1 np.2, (B5.same sm).put hp⟩
      refine ite2 (fun h => ?_) (fun h => ?_)
      · refine draw_rd D4 (by decide) (by decide) fun r5 H5 r50 r51 D5 B5 => ?_
        (try ctx_has vcx true_and)
        have h5 := B5 p _ np.1 np.2 h4p
        refine ite2 (fun h6 => ?_) (fun h6 => ?_)
        · rcases List.eq_nil_or_concat ws with rfl | ⟨ws0, z, rfl⟩
          · simp at hlen; omega
          have nz : IsNm z := ok.nm z (by simp)
          refine ⟨_, h5, _, by rw [List.concat_eq_append, List.map_append]; exact atI_last _ _, z, rfl, hwl nz, ?_⟩
          refine draw_rd D5 (by have := nz.pos; omega) (by have := nz.le; omega) fun r7 H7 r70 r71 D7 B7 => ?_
          have h7 := B7 p _ np.1 np.2 h5
          (try ctx_has vcx true_and h7)
          have hla : atI (List.map V.str (ws0.concat z)) (-1) = some (V.str z) := by rw [List.concat_eq_append, List.map_append]; exact atI_last _ _
          have l1 := Txt.slice_le z none (some r7)
          have l2 := Txt.slice_le z (some (r7 + 1)) none
          have l3 := nz.le
          refine ⟨_, hla, z, rfl, hwl nz, hwl nwd, c0, by rw [hj]; exact atI_zero _ _, Nat.le_of_lt (small1000 (by show _ + 1 ≤ 1000; omega)), _, hla, z, rfl, hwl nz, Nat.le_of_lt (small1000 (by rw [str_len_append]; show _ + 1 + _ ≤ 1000; omega)), ?_⟩
          refine names_while (edit_nm nz (hcs c0 (by simp)) r70 r71) hws h7 fun wd' H8 n f1 f2 sm => ?_
          have h8 := sm _ _ h7
          (try ctx_has vcx true_and h8)
          exact ⟨by simp only [List.length_map]; exact small1000 (by omega), fin wd' H7 H8 D7 ((B4.trans B5).trans B7) sm n f1 f2⟩
        · refine names_while nwd hws h5 fun wd' H6 n f1 f2 sm => ?_
          have h6 := sm _ _ h5
          (try ctx_has vcx true_and h6)
          exact ⟨by simp; exact small1000 (by omega), fin wd' H5 H6 D5 (B4.trans B5) sm n f1 f2⟩
      · refine names_while nwd hws h4p fun wd' H6 n f1 f2 sm => ?_
        have h6 := sm _ _ h4p
        (try ctx_has vcx true_and h6)
        exact ⟨by simp; exact small1000 (by omega), fin wd' H4 H6 D4 B4 sm n f1 f2⟩
  · rintro σ H2 ⟨ws, vk, vw, vp, rfl, ok, hlen, h2, D2, B2⟩
    (try ctx_has vcx true_and)
    rw [rngV_length] at hlen
    exact k p ws H2 hp ok hlen h2 D2 B2
noncomputable def spNumber : Sp := fun vs H Q _ => ∃ (d l : Addr) (m : Int), vs = [.ref d, .int m] ∧ DealAt H d l ∧ 4 ≤ m ∧ m ≤ 10000000000000 ∧ ∀ (i : Int) (H' : Hp), -m ≤ i → i ≤ m → DealAt H' d l → But d l H H' → Q (.int i) H'
noncomputable def spNumbers : Sp := fun vs H Q _ => ∃ (d l : Addr) (m : Int), vs = [.ref d, .int m] ∧ DealAt H d l ∧ 0 ≤ m ∧ m ≤ 60 ∧ ∀ (p : Addr) (ns : List Int) (H' : Hp), H p = none → ns.length = m.toNat → ns.Nodup → (∀ x ∈ ns, -1000000 ≤ x ∧ x ≤ 1000000) → H' p = some (.tup (ns.map V.int)) → DealAt H' d l → But d l H H' → Q (.ref p) H'
noncomputable def spMany : Sp := fun vs H Q _ => ∃ (d l : Addr) (m : Int), vs = [.ref d, .int m] ∧ DealAt H d l ∧ 0 ≤ m ∧ m ≤ 60 ∧ ∀ (i : Int) (H' : Hp), 0 ≤ i → i ≤ m → DealAt H' d l → But d l H H' → Q (.int i) H'
theorem nodup_ins {ns : List Int} {x : Int} (n : Nat) (h : ns.Nodup) (hx : x ∉ ns) : (ns.take n ++ x :: ns.drop n).Nodup := by
  have e : (ns.take n ++ x :: ns.drop n).Perm (x :: ns) := by
    refine List.perm_middle.trans ?_
    rw [List.take_append_drop]
  exact e.nodup_iff.mpr (List.nodup_cons.mpr ⟨hx, h⟩)
theorem mem_ins {α : Type} {ns : List α} {x y : α} (n : Nat) (h : y ∈ ns.take n ++ x :: ns.drop n) : y = x ∨ y ∈ ns := by
  rcases List.mem_append.mp h with q | q
  · exact .inr (List.mem_of_mem_take q)
  · rcases List.mem_cons.mp q with q | q
    · exact .inl q
    · exact .inr (List.mem_of_mem_drop q)
theorem ok__law_number   (T : Txt w K mg) (L : FnL K mg "_law_number" s__law_number ["_law_deal_here", "_law_most"]) (F_law_draw : Fn P w K mg base "_law_draw" 1 ["_law_deal_here", "_law_many_here"] (spDraw)) : Fn P w K mg base "_law_number" 2 ["_law_deal_here", "_law_most"] (spNumber) := by
  have nd := sc__law_number.nd
  refine L.ok sc__law_number (fun vs H Q E h => ?_) (fun f cdv A outer s H vs Q E hr h => ?_) <;> obtain ⟨d, l, m, rfl, D, m0, m1, k⟩ := h
  · rfl
  have hu := hu_of hr
  refine ⟨_, (pss_cons (ps_set (i := 2) nd rfl (by first | exact Or.inl rfl | exact Or.inr rfl) (pe_callF F_law_draw (hr.mono (by first | decide | omega)) rfl (pa_cons (pvM 0) (pa_cons pe_int pa_nil))))
    (pss_cons (ps_if (pt_cmpR op_eq (pvM 2) pe_int (nomark _)) (pss_one (ps_ret (pe_op op_sub (pe_callF F_law_draw (hr.mono (by first | decide | omega)) rfl (pa_cons (pvM 0) (pa_cons pe_int pa_nil))) pe_int))) pss_nil)
    (pss_cons (ps_if (pt_cmpR op_eq (pvM 2) pe_int (nomark _)) (pss_one (ps_ret (pe_ix ix_L (pe_lst (pa_cons (pvM 1) (pa_cons (pe_un un_neg (pvM 1)) (pa_cons (pe_op op_sub (pvM 1) pe_int) (pa_cons (pe_op op_sub pe_int (pvM 1)) pa_nil))))) (pe_callF F_law_draw (hr.mono (by first | decide | omega)) rfl (pa_cons (pvM 0) (pa_cons pe_int pa_nil))) (fun _ _ => rfl)))) pss_nil)
    (pss_one (ps_ret (pe_op op_sub (pe_callF F_law_draw (hr.mono (by first | decide | omega)) rfl (pa_cons (pvM 0) (pa_cons (pe_op op_add (pe_op op_mul pe_int (pvM 1)) pe_int) pa_nil))) (pvM 1))))))), ?_⟩
  (try ctx_has vcx true_and)
  refine draw_rd D (by decide) (by decide) fun r H1 r0 r1 D1 B1 => ?_
  (try ctx_has vcx true_and)
  refine ite2 (fun h => ?_) (fun h => ?_)
  · refine draw_rd D1 (by decide) (by decide) fun r2 H2 r20 r21 D2 B2 => ?_
    exact ⟨_, rfl, k _ H2 (by omega) (by omega) D2 (B1.trans B2)⟩
  refine ite2 (fun h => ?_) (fun h => ?_)
  · refine ⟨by decide, fun p hp => ?_⟩
    refine draw_of D1 hp (by decide) (by decide) rfl fun r2 v H2 hv ha D2 B2 h2 => ?_
    refine ⟨_, rfl, _, h2, _, ha, ?_⟩
    simp only [List.mem_cons, List.not_mem_nil, or_false] at hv
    rcases hv with rfl | rfl | rfl | rfl
    all_goals exact k _ H2 (by omega) (by omega) D2 (B1.trans B2)
  · refine ⟨cmul_small (by decide) (by decide), ?_⟩
    refine draw_rd D1 (by omega) (by omega) fun r2 H2 r20 r21 D2 B2 => ?_
    exact ⟨_, rfl, k _ H2 (by omega) (by omega) D2 (B1.trans B2)⟩
theorem ok__law_numbers   (T : Txt w K mg) (L : FnL K mg "_law_numbers" s__law_numbers ["_law_deal_here", "_law_many_here"]) (F_law_draw : Fn P w K mg base "_law_draw" 1 ["_law_deal_here", "_law_many_here"] (spDraw)) (F_law_number : Fn P w K mg base "_law_number" 2 ["_law_deal_here", "_law_most"] (spNumber)) : Fn P w K mg base "_law_numbers" 3 ["_law_deal_here", "_law_many_here"] (spNumbers) := by
  have nd := sc__law_numbers.nd
  refine L.ok sc__law_numbers (fun vs H Q E h => ?_) (fun f cdv A outer s H vs Q E hr h => ?_) <;> obtain ⟨d, l, m, rfl, D, m0, m1, k⟩ := h
  · rfl
  have hu := hu_of hr
  refine ⟨_, (pss_cons (ps_set (i := 2) nd rfl (by first | exact Or.inl rfl | exact Or.inr rfl) (pe_callF F_law_number (hr.mono (by first | decide | omega)) rfl (pa_cons (pvM 0) (pa_cons pe_int pa_nil))))
    (pss_cons (ps_set (i := 3) nd rfl (by first | exact Or.inl rfl | exact Or.inr rfl) (pe_lst pa_nil))
    (pss_cons (ps_for PassesOwn.never rfl (pi_range1 rfl T.b_range (pa_cons (pvM 1) pa_nil)) (pg_name (i := 4) nd rfl (by first | exact Or.inl rfl | exact Or.inr rfl)) (pss_cons (ps_expr (pe_mL PySem.F.slot_list_insert PySem.F.type_list_insert ml_insert (pvM 3) (pa_cons (pe_callF F_law_draw (hr.mono (by first | decide | omega)) rfl (pa_cons (pvM 0) (pa_cons (pe_op op_add (pe_callB call_lenL rfl T.b_len PySem.boot_len (pa_cons (pvM 3) pa_nil)) pe_int) pa_nil))) (pa_cons (pvM 2) pa_nil))))
    (pss_one (ps_set (i := 2) nd rfl (by first | exact Or.inl rfl | exact Or.inr rfl) (pe_op op_add (pe_op op_add (pvM 2) pe_int) (pe_ix ix_L (pe_lst (pa_cons pe_int (pa_cons pe_int (pa_cons (pe_callF F_law_draw (hr.mono (by first | decide | omega)) rfl (pa_cons (pvM 0) (pa_cons pe_int pa_nil))) pa_nil)))) (pe_callF F_law_draw (hr.mono (by first | decide | omega)) rfl (pa_cons (pvM 0) (pa_cons pe_int pa_nil))) (fun _ _ => rfl)))))))
    (pss_one (ps_ret (pe_callTy call_tupL rfl T.b_tuple (show bootBuiltins "tuple" = some (.type "tuple") by decide +kernel) (pa_cons (pvM 3) pa_nil))))))), ?_⟩
  (try ctx_has vcx true_and)
  refine ⟨d, l, _, rfl, D, by decide, by decide, fun lo H1 lo0 lo1 D1 B1 => ?_⟩
  (try ctx_has vcx true_and)
  refine ⟨by decide, fun p hp => ⟨by omega, by omega, ?_⟩⟩
  have np := D1.ne hp
  refine for_g wlk_range (fun i σ H' => ∃ (ns : List Int) (low : Int) (vk : Option V), σ = [some (.ref d), some (.int m), some (.int low), some (.ref p), vk] ∧ ns.length = i ∧ ns.Nodup ∧ (∀ x ∈ ns, -999000 ≤ x ∧ x < low) ∧ -999000 ≤ low ∧ low ≤ 999000 + 16 * i ∧ H' p = some (.lst (ns.map V.int)) ∧ DealAt H' d l ∧ But d l H H')
    ⟨[], _, _, rfl, rfl, by simp, by simp, lo0, by omega, upd_same, D1.new hp, B1.new hp⟩ (fun _ _ _ _ => True.intro) ?_ ?_
  · rintro i x σ H2 hi hx ⟨ns, low, vk, rfl, hlen, hnd, hall, l0, l1, h2, D2, B2⟩
    rw [rngV_length] at hi
    (try ctx_has vcx true_and h2)
    refine draw_rd D2 (by rw [List.length_map]; omega) (by rw [List.length_map]; omega) fun r3 H3 r30 r31 D3 B3 => ?_
    have h3 := B3 p _ np.1 np.2 h2
    (try ctx_has vcx true_and h3)
    simp only [List.length_map] at r31
    refine ⟨r30, by simp; omega, by simp; exact small1000 (by omega), ?_⟩
    have fr : H p = none := B1.free D1 hp
    refine draw_rd (D3.put np.1 np.2) (by decide) (by decide) fun r4 H4 r40 r41 D4 B4 => ?_
    refine ⟨by decide, fun p2 hp2 => ?_⟩
    refine draw_of D4 hp2 (by decide) (by decide) rfl fun r5 v H5 hv ha D5 B5 h5 => ?_
    have h5p := B5 p _ np.1 np.2 (B4 p _ np.1 np.2 upd_same)
    obtain ⟨y, rfl, y0, y1⟩ : ∃ y : Int, v = .int y ∧ 0 ≤ y ∧ y < 16 := by
      simp only [List.mem_cons, List.not_mem_nil, or_false] at hv
      rcases hv with rfl | rfl | rfl
      · exact ⟨0, rfl, by decide, by decide⟩
      · exact ⟨0, rfl, by decide, by decide⟩
      · exact ⟨r4, rfl, r40, r41⟩
    (try ctx_has vcx true_and h5 ha)
    refine ⟨ns.take r3.toNat ++ low :: ns.drop r3.toNat, by simp; omega, nodup_ins _ hnd (fun q => by have := hall low q; omega), fun z hz => ?_, by omega, by omega, by rw [h5p]; simp, D5, ((B2.trans B3).put fr).trans (B4.trans B5)⟩
    rcases mem_ins _ hz with rfl | q
    · omega
    · have := hall z q; omega
  · rintro σ H2 ⟨ns, low, vk, rfl, hlen, hnd, hall, l0, l1, h2, D2, B2⟩
    rw [rngV_length] at hlen l1
    (try ctx_has vcx true_and h2)
    intro p2 hp2
    exact k p2 ns _ (B2.free D2 hp2) hlen hnd (fun x hx => by have := hall x hx; omega) upd_same (D2.new hp2) (B2.new hp2)
theorem ok__law_many   (T : Txt w K mg) (L : FnL K mg "_law_many" s__law_many ["_law_deal_here", "_law_most"]) (F_law_draw : Fn P w K mg base "_law_draw" 1 ["_law_deal_here", "_law_many_here"] (spDraw)) : Fn P w K mg base "_law_many" 2 ["_law_deal_here", "_law_most"] (spMany) := by
  have nd := sc__law_many.nd
  refine L.ok sc__law_many (fun vs H Q E h => ?_) (fun f cdv A outer s H vs Q E hr h => ?_) <;> obtain ⟨d, l, m, rfl, D, m0, m1, k⟩ := h
  · rfl
  have hu := hu_of hr
  refine ⟨_, (pss_one (ps_ret (pe_ix ix_L (pe_lst (pa_cons (pe_callF F_law_draw (hr.mono (by first | decide | omega)) rfl (pa_cons (pvM 0) (pa_cons (pe_op op_add (pe_callB (call_min2 rfl) rfl T.b_min (show bootBuiltins "min" = some (.builtin "min") by decide +kernel) (pa_cons (pvM 1) (pa_cons pe_int pa_nil))) pe_int) pa_nil))) (pa_cons (pe_callF F_law_draw (hr.mono (by first | decide | omega)) rfl (pa_cons (pvM 0) (pa_cons (pe_op op_add (pvM 1) pe_int) pa_nil))) (pa_cons (pvM 1) pa_nil)))) (pe_op op_fdivW (pe_callF F_law_draw (hr.mono (by first | decide | omega)) rfl (pa_cons (pvM 0) (pa_cons pe_int pa_nil))) pe_int) (fun _ _ => rfl)))), ?_⟩
  (try ctx_has vcx true_and)
  refine draw_rd D (by split <;> omega) (by split <;> omega) fun r H1 r0 r1 D1 B1 => ?_
  refine draw_rd D1 (by omega) (by omega) fun r2 H2 r20 r21 D2 B2 => ?_
  refine ⟨by decide, fun p hp => ?_⟩
  refine draw_rd (D2.new hp) (by decide) (by decide) fun r3 H3 r30 r31 D3 B3 => ?_
  have h3 := B3 p _ (D2.ne hp).1 (D2.ne hp).2 upd_same
  obtain ⟨v, ha, hv⟩ := atI_mem (xs := [V.int r, V.int r2, V.int m]) (i := r3 / 3) (by omega) (by simp; omega)
  refine ⟨_, rfl, ⟨by decide, by decide⟩, _, h3, _, ha, ?_⟩
  have BB := ((B1.trans B2).new (o := .lst [V.int r, V.int r2, V.int m]) hp).trans B3
  simp only [List.mem_cons, List.not_mem_nil, or_false] at hv
  rcases hv with rfl | rfl | rfl
  · exact k _ H3 r0 (by split at r1 <;> omega) D3 BB
  · exact k _ H3 r20 (by omega) D3 BB
  · exact k _ H3 m0 (by omega) D3 BB
noncomputable def KeepT (H H' : Hp) : Prop := ∀ a vs, H a = some (.tup vs) → H' a = some (.tup vs)
theorem KeepT.trans {H H1 H2 : Hp} (a : KeepT H H1) (b : KeepT H1 H2) : KeepT H H2 := fun p vs h => b p vs (a p vs h)
theorem Same.keepT {H H1 : Hp} (a : Same H H1) : KeepT H H1 := fun p vs h => a p _ h
theorem But.keepT {d l : Addr} {H H1 : Hp} (a : But d l H H1) (D : DealAt H d l) : KeepT H H1 := fun p vs h => by
  obtain ⟨m, sd, n, xs, hd, hl, _⟩ := D.ex
  exact a p _ (ne_of h hd (by intro z; cases z)) (ne_of h hl (by intro z; cases z)) h
theorem keepT_put {H : Hp} {p : Addr} {ys : List V} {o : HO} (h : H p = some (.lst ys)) : KeepT H (upd H p o) := fun b vs e => by
  rw [upd_ne (ne_of e h (by intro z; cases z))]; exact e
inductive Tr where
  | non | bl (b : Bool) | int (i : Int) | str (s : Str) | tup (l : List Tr)
mutual
/-- v stands for the data -/
noncomputable def TV (H : Hp) (v : V) : Tr → Prop
  | .non => v = .non
  | .bl b => v = .bl b
  | .int i => v = .int i
  | .str s => v = .str s ∧ s.length ≤ 20
  | .tup l => ∃ a xs, v = .ref a ∧ H a = some (.tup xs) ∧ TVs H xs l
noncomputable def TVs (H : Hp) (xs : List V) : List Tr → Prop
  | [] => xs = []
  | t :: l => ∃ x ys, xs = x :: ys ∧ TV H x t ∧ TVs H ys l
end
mutual
theorem TV.keep {H H' : Hp} (k : KeepT H H') : ∀ (t : Tr) {v : V}, TV H v t → TV H' v t
  | .non, _, h => h
  | .bl _, _, h => h
  | .int _, _, h => h
  | .str _, _, h => h
  | .tup l, _, h => by
    obtain ⟨a, xs, e, ha, r⟩ := h
    exact ⟨a, xs, e, k _ _ ha, TVs.keep k l r⟩
theorem TVs.keep {H H' : Hp} (k : KeepT H H') : ∀ (l : List Tr) {xs : List V}, TVs H xs l → TVs H' xs l
  | [], _, h => h
  | t :: l, _, h => by
    obtain ⟨x, ys, e, a, b⟩ := h
    exact ⟨x, ys, e, TV.keep k t a, TVs.keep k l b⟩
end
theorem TVs.len {H : Hp} : ∀ {l : List Tr} {xs : List V}, TVs H xs l → xs.length = l.length
  | [], _, h => by rw [show _ = [] from h]; rfl
  | t :: l, _, h => by obtain ⟨x, ys, rfl, _, b⟩ := h; simp [TVs.len b]
theorem TVs.at {H : Hp} : ∀ {l : List Tr} {xs : List V} {i : Nat} {x : V}, TVs H xs l → xs[i]? = some x → ∃ t, l[i]? = some t ∧ TV H x t
  | [], _, i, x, h, e => by rw [show _ = [] from h] at e; simp at e
  | t :: l, _, i, x, h, e => by
    obtain ⟨y, ys, rfl, a, b⟩ := h
    cases i with
    | zero => simp at e; subst e; exact ⟨t, rfl, a⟩
    | succ i => simpa using TVs.at b (by simpa using e)
theorem TVs.get {H : Hp} : ∀ {l : List Tr} {xs : List V} {i : Nat} {t : Tr}, TVs H xs l → l[i]? = some t → ∃ x, xs[i]? = some x ∧ TV H x t
  | [], _, i, t, h, e => by simp at e
  | t :: l, _, i, t', h, e => by
    obtain ⟨y, ys, rfl, a, b⟩ := h
    cases i with
    | zero => simp at e; subst e; exact ⟨y, rfl, a⟩
    | succ i => simpa using TVs.get b (by simpa using e)
theorem TVs.app {H : Hp} : ∀ {l m : List Tr} {xs ys : List V}, TVs H xs l → TVs H ys m → TVs H (xs ++ ys) (l ++ m)
  | [], _, _, _, h, h2 => by rw [show _ = [] from h]; exact h2
  | t :: l, _, _, _, h, h2 => by
    obtain ⟨y, zs, rfl, a, b⟩ := h
    exact ⟨y, _, rfl, a, TVs.app b h2⟩
theorem TVs.one {H : Hp} {x : V} {t : Tr} (h : TV H x t) : TVs H [x] [t] := ⟨x, [], rfl, h, rfl⟩
theorem TVs.take {H : Hp} : ∀ {l : List Tr} {xs : List V} (n : Nat), TVs H xs l → TVs H (xs.take n) (l.take n)
  | l, xs, 0, _ => by simp [TVs]
  | [], _, n + 1, h => by rw [show _ = [] from h]; rfl
  | t :: l, _, n + 1, h => by
    obtain ⟨y, zs, rfl, a, b⟩ := h
    exact ⟨y, _, rfl, a, TVs.take n b⟩
theorem TVs.drop {H : Hp} : ∀ {l : List Tr} {xs : List V} (n : Nat), TVs H xs l → TVs H (xs.drop n) (l.drop n)
  | l, xs, 0, h => by simpa using h
  | [], _, n + 1, h => by rw [show _ = [] from h]; rfl
  | t :: l, _, n + 1, h => by
    obtain ⟨y, zs, rfl, a, b⟩ := h
    exact TVs.drop n b
noncomputable def trK : Key → Tr
  | .inl i => .int i
  | .inr s => .str s
theorem trK_inj {a b : Key} (h : trK a = trK b) : a = b := by cases a <;> cases b <;> cases h <;> rfl
theorem tvK {H : Hp} {v : V} {k : Key} (h : TV H v (trK k)) : v = kV k := by
  cases k with
  | inl i => exact h
  | inr s => exact h.1
theorem tvsK {H : Hp} : ∀ {ks : List Key} {xs : List V}, TVs H xs (ks.map trK) → xs = ks.map kV
  | [], _, h => h
  | k :: ks, _, h => by
    obtain ⟨y, zs, rfl, a, b⟩ := h
    rw [tvK a, tvsK b]; rfl
theorem tvsKK {H : Hp} : ∀ {kss : List (List Key)} {xs : List V}, TVs H xs (kss.map fun ks => .tup (ks.map trK)) → KTs H xs kss
  | [], _, h => by rw [show _ = [] from h]; trivial
  | ks :: kss, _, h => by
    obtain ⟨y, zs, rfl, ⟨a, us, rfl, ha, hu⟩, b⟩ := h
    rw [tvsK hu] at ha
    exact ⟨⟨a, rfl, ha⟩, tvsKK b⟩
theorem nodup_inj {α β : Type} {f : α → β} (hf : ∀ a b, f a = f b → a = b) : ∀ {l : List α}, (l.map f).Nodup ↔ l.Nodup
  | [] => by simp
  | a :: l => by
    rw [List.map_cons, List.nodup_cons, List.nodup_cons, nodup_inj hf]
    constructor
    · exact fun zq36 => by obtain ⟨h1, h2⟩ := zq36; exact (⟨fun z => h1 (List.mem_map_of_mem z), h2⟩)
    · exact fun zq37 => by obtain ⟨h1, h2⟩ := zq37; exact (⟨fun z => h1 (by obtain ⟨b, hb, e⟩ := List.mem_map.mp z; rwa [← hf _ _ e]), h2⟩)
theorem mapK_inj {a b : List Key} (h : Tr.tup (a.map trK) = Tr.tup (b.map trK)) : a = b := by
  injection h with h
  induction a generalizing b with
  | nil => cases b with
    | nil => rfl
    | cons _ _ => cases h
  | cons x a ih => cases b with
    | nil => cases h
    | cons y b => injection h with h1 h2; rw [trK_inj h1, ih h2]
noncomputable def dec (p : Prop) : Bool := @decide p (Classical.propDecidable p)
theorem dec_true {p : Prop} (h : p) : dec p = true := by unfold dec; exact @decide_eq_true p (Classical.propDecidable p) h
theorem dec_false {p : Prop} (h : ¬ p) : dec p = false := by unfold dec; exact @decide_eq_false p (Classical.propDecidable p) h
theorem dec_iff {p q : Prop} (h : p ↔ q) : dec p = dec q := by rw [propext h]
theorem of_dec {p : Prop} (h : dec p = true) : p := by
  by_cases z : p
  · exact z
  · rw [dec_false z] at h; cases h
noncomputable def unT (l : List Tr) : Bool := dec l.Nodup
noncomputable def R0 : Hp → Prop := fun _ => True
noncomputable def spB (R : Hp → Prop) (g : Tr → Bool) : Sp := fun vs H Q _ => ∃ (v : V) (t : Tr), vs = [v] ∧ TV H v t ∧ R H ∧ ∀ H', Same H H' → Q (.bl (g t)) H'
noncomputable def numT : Tr → Bool
  | .int _ => true
  | _ => false
noncomputable def wholeT (lo hi : Int) : Tr → Bool
  | .int i => decide (lo ≤ i) && decide (i ≤ hi)
  | _ => false
noncomputable def valT : Tr → Bool := wholeT (-1000000) 1000000
noncomputable def stT : Tr → Bool := wholeT 0 20
noncomputable def nmB (s : Str) : Bool := decide (1 ≤ s.length) && decide (s.length ≤ 8) && !inV (.str s) marksV && s.cps.toList.all smallB
noncomputable def nameT : Tr → Bool
  | .str s => nmB s
  | _ => false
noncomputable def spWh : Sp := fun vs H Q _ => ∃ (v : V) (t : Tr) (lo hi : Int), vs = [v, .int lo, .int hi] ∧ TV H v t ∧ ∀ H', Same H H' → Q (.bl (wholeT lo hi t)) H'
noncomputable def tupOf (g : Tr → Bool) (lo hi : Int) : Tr → Bool
  | .tup l => decide (lo ≤ (l.length : Int)) && (decide ((l.length : Int) ≤ hi) && l.all g)
  | _ => false
noncomputable def spTO (f : Addr) (R : Hp → Prop) (g : Tr → Bool) : Sp := fun vs H Q _ => ∃ (v : V) (t : Tr) (lo hi : Int), vs = [v, .ref f, .int lo, .int hi] ∧ TV H v t ∧ R H ∧ hi ≤ 69 ∧ ∀ H', Same H H' → Q (.bl (tupOf g lo hi t)) H'
theorem comp_tr {J : It} {xs : List V} {C : Hp → Prop} (w : Wlk J xs C) {te : TE} {σ0 : St} {Q : VK} {H1 : Hp} {D : Addr} {l : List Tr} (f : Tr → V) (hl : TVs H1 xs l) (hD : H1 D = none) (hC : ∀ H', Same H1 H' → C H') (hn : xs.length ≤ 1000)
    (he : ∀ (x : V) (t : Tr) (H2 : Hp) (Q2 : VK), t ∈ l → TV H2 x t → Same H1 H2 → (∀ H3, Same H2 H3 → Q2 (f t) H3) → te (σ0.set 0 (some x)) H2 Q2)
    (hd : ∀ H2, Same H1 H2 → H2 D = some (.lst (l.map f)) → Q (.ref D) H2) : CompG J σ0 (gName 0) tYes te Q H1 D := by
  refine comp_g w (fun i ys H => ys = (l.take i).map f ∧ i ≤ xs.length ∧ Same H1 H ∧ H D = some (.lst ys)) ⟨by simp, Nat.zero_le _, Same.upd0 hD, upd_same⟩ (fun i ys H h => hC _ h.2.2.1) ?_ ?_
  · rintro i x ys H hi hx ⟨rfl, hle, sm, hd⟩
    simp only [gName, tYes, if_true]
    obtain ⟨t, et, tv⟩ := hl.at hx
    refine he x t H _ (List.mem_of_getElem? et) (TV.keep (Same.keepT sm) t tv) sm fun H4 s4 => ⟨s4 _ _ hd, by simp; exact small1000 (by omega), ?_, hi, ?_, upd_same⟩
    · rw [List.take_add_one, et]; simp
    · exact fun b o e => by rw [upd_ne (ne_of_none e hD)]; exact s4 _ _ (sm b o e)
  · rintro ys H ⟨rfl, _, sm, hD2⟩
    refine hd H sm ?_
    rw [hD2, hl.len, List.take_length]
noncomputable def spUn : Sp := fun vs H Q _ => ∃ (p : Addr) (xs : List V), vs = [.ref p] ∧ (H p = some (.tup xs) ∨ H p = some (.lst xs)) ∧ xs.length ≤ 69 ∧ ((∃ ks : List Key, xs = ks.map kV ∧ ∀ H', Same H H' → Q (.bl (dec ks.Nodup)) H') ∨ ∃ kss : List (List Key), KTs H xs kss ∧ ∀ H', Same H H' → Q (.bl (dec kss.Nodup)) H')
theorem ok_is_number   (T : Txt w K mg) (L : FnL K mg "is_number" s_is_number ["thing"])  : Fn P w K mg base "is_number" 1 ["thing"] (spB R0 numT) := by
  have nd := sc_is_number.nd
  refine L.ok sc_is_number (fun vs H Q E h => ?_) (fun f cdv A outer s H vs Q E hr h => ?_) <;> obtain ⟨v, t, rfl, ht, hR, k⟩ := h
  · rfl
  have hu := hu_of hr
  refine ⟨_, (pss_one (ps_ret (pe_and (pe_callB call_isB rfl T.b_isinstance (show bootBuiltins "isinstance" = some (.builtin "isinstance") by decide +kernel) (pa_cons (pvM 0) (pa_cons (pe_ty (T := "int") rfl T.b_int (by decide +kernel)) pa_nil))) (pe_one (pe_not (pe_callB call_isB rfl T.b_isinstance (show bootBuiltins "isinstance" = some (.builtin "isinstance") by decide +kernel) (pa_cons (pvM 0) (pa_cons (pe_ty (T := "bool") rfl T.b_bool (by decide +kernel)) pa_nil)))))))), ?_⟩
  cases t with
  | non => cases (show v = _ from ht); (try ctx_has vcx true_and numT); exact k _ (Same.refl _)
  | bl b => cases (show v = _ from ht); (try ctx_has vcx true_and numT Bool.not_true); exact k _ (Same.refl _)
  | int i => cases (show v = _ from ht); (try ctx_has vcx true_and numT); exact k _ (Same.refl _)
  | str s => obtain ⟨rfl, hs⟩ := ht; (try ctx_has vcx true_and numT); exact k _ (Same.refl _)
  | tup l =>
    obtain ⟨a, xs, rfl, ha, hl⟩ := ht
    (try ctx_has vcx true_and numT ha); exact k _ (Same.refl _)
theorem ok_is_whole   (T : Txt w K mg) (L : FnL K mg "is_whole" s_is_whole ["thing", "least", "greatest"]) (Fis_number : Fn P w K mg base "is_number" 1 ["thing"] (spB R0 numT)) : Fn P w K mg base "is_whole" 2 ["thing", "least", "greatest"] (spWh) := by
  have nd := sc_is_whole.nd
  refine L.ok sc_is_whole (fun vs H Q E h => ?_) (fun f cdv A outer s H vs Q E hr h => ?_) <;> obtain ⟨v, t, lo, hi, rfl, ht, k⟩ := h
  · rfl
  have hu := hu_of hr
  refine ⟨_, (pss_one (ps_ret (pe_and (pe_callF Fis_number (hr.mono (by first | decide | omega)) rfl (pa_cons (pvM 0) pa_nil)) (pe_one (pe_chain op_le op_le (pvM 1) (pvM 0) (pvM 2)))))), ?_⟩
  (try ctx_has vcx true_and)
  refine ⟨v, t, rfl, ht, True.intro, fun H1 s1 => ?_⟩
  cases t with
  | int i =>
    cases (show v = _ from ht)
    (try ctx_has vcx true_and numT reduceIte Bool.false_eq_true)
    have k := k H1 s1
    simp only [wholeT] at k
    refine ite2 (fun h => ?_) (fun h => ?_)
    · rw [decide_eq_true h, Bool.true_and] at k; exact k
    · rw [decide_eq_false h, Bool.false_and] at k; exact k
  | _ => (try ctx_has vcx true_and numT Bool.false_eq_true if_false wholeT); exact k H1 s1
theorem ok_is_value   (T : Txt w K mg) (L : FnL K mg "is_value" s_is_value ["thing"]) (Fis_whole : Fn P w K mg base "is_whole" 2 ["thing", "least", "greatest"] (spWh)) : Fn P w K mg base "is_value" 3 ["thing"] (spB R0 valT) := by
  have nd := sc_is_value.nd
  refine L.ok sc_is_value (fun vs H Q E h => ?_) (fun f cdv A outer s H vs Q E hr h => ?_) <;> obtain ⟨v, t, rfl, ht, hR, k⟩ := h
  · rfl
  have hu := hu_of hr
  refine ⟨_, (pss_one (ps_ret (pe_callF Fis_whole (hr.mono (by first | decide | omega)) rfl (pa_cons (pvM 0) (pa_cons (pe_un un_neg (pe_cI T.c_GREATEST_VALUE rfl)) (pa_cons (pe_cI T.c_GREATEST_VALUE rfl) pa_nil)))))), ?_⟩
  (try ctx_has vcx true_and)
  exact ⟨v, t, _, _, rfl, ht, k⟩
theorem ok_is_state   (T : Txt w K mg) (L : FnL K mg "is_state" s_is_state ["thing"]) (Fis_whole : Fn P w K mg base "is_whole" 2 ["thing", "least", "greatest"] (spWh)) : Fn P w K mg base "is_state" 3 ["thing"] (spB R0 stT) := by
  have nd := sc_is_state.nd
  refine L.ok sc_is_state (fun vs H Q E h => ?_) (fun f cdv A outer s H vs Q E hr h => ?_) <;> obtain ⟨v, t, rfl, ht, hR, k⟩ := h
  · rfl
  have hu := hu_of hr
  refine ⟨_, (pss_one (ps_ret (pe_callF Fis_whole (hr.mono (by first | decide | omega)) rfl (pa_cons (pvM 0) (pa_cons pe_int (pa_cons (pe_cI T.c_GREATEST_STATE rfl) pa_nil)))))), ?_⟩
  (try ctx_has vcx true_and)
  exact ⟨v, t, _, _, rfl, ht, k⟩
theorem ok_is_name   (T : Txt w K mg) (L : FnL K mg "is_name" s_is_name ["thing"])  : Fn P w K mg base "is_name" 1 ["thing"] (spB R0 nameT) := by
  have nd := sc_is_name.nd
  refine L.ok sc_is_name (fun vs H Q E h => ?_) (fun f cdv A outer s H vs Q E hr h => ?_) <;> obtain ⟨v, t, rfl, ht, hR, k⟩ := h
  · rfl
  have hu := hu_of hr
  refine ⟨_, (pss_cons (ps_if (PW.pt (pw_or (pt_not (pt_val (pe_callB call_isB rfl T.b_isinstance (show bootBuiltins "isinstance" = some (.builtin "isinstance") by decide +kernel) (pa_cons (pvM 0) (pa_cons (pe_ty (T := "str") rfl T.b_str (by decide +kernel)) pa_nil))))) (pw_or1 (pt_not (pt_chain op_le op_le pe_int (pe_callB call_lenS rfl T.b_len PySem.boot_len (pa_cons (pvM 0) pa_nil)) (pe_cI T.c_LONGEST_NAME rfl)))))) (pss_one (ps_ret pe_bl)) pss_nil)
    (pss_one (ps_ret (pe_and (pe_cmpR op_notInM (pvM 0) (pe_cT T.c_MARKS rfl) (by with_unfolding_all rfl)) (pe_one (pe_callB (call_allL rfl) rfl T.b_all (show bootBuiltins "all" = some (.builtin "all") by decide +kernel) (pa_cons (pe_comp (N := ["sign"]) (nt := 1) (js := []) rfl (compOk_of ["thing"] (defScope s_is_name).names rfl rfl rfl (by decide +kernel)) (pi_str (pvM 0)) (fun _ _ _ _ _ _ => (pg_name (i := 0) (show List.Nodup [("sign" : Str)] by decide +kernel) rfl (Or.inl rfl))) (tgOk_name (by decide)) (fun _ _ _ _ _ _ => pts_nil) (fun _ _ _ _ _ _ => (pe_chain op_leS op_leS pe_str (pvM 0) pe_str))) pa_nil))))))), ?_⟩
  cases t with
  | str z =>
    obtain ⟨rfl, hz⟩ := ht
    (try ctx_has vcx true_and nameT)
    simp only [nameT, nmB] at k
    refine ⟨Nat.le_of_lt (small1000 (by omega)), ?_⟩
    refine ite2 (fun h1 => ?_) (fun h1 => ?_)
    · refine ite2 (fun h2 => ?_) (fun h2 => ?_)
      · have h2 : ¬ ((z.length : Int) ≤ 8) := of_decide_eq_false h2
        rw [decide_eq_false (show ¬ z.length ≤ 8 by omega)] at k
        simpa using k H (Same.refl _)
      · have h2 : ((z.length : Int) ≤ 8) := by simpa using h2
        rw [decide_eq_true (show 1 ≤ z.length by omega), decide_eq_true (show z.length ≤ 8 by omega)] at k
        intro a ha
        refine ⟨_, ha, rfl, by decide +kernel, ?_⟩
        refine ite2 (fun h3 => ?_) (fun h3 => ?_)
        · intro D hD
          refine comp_map wlk_str (f := fun v => match v with | .str x => .bl (smallB (x.cps.getD 0 0)) | _ => .non) hD (fun _ _ => True.intro) (by simp [sgnV]; show z.length ≤ 1000; omega) ?_ ?_
          · intro x H2 Q2 hx sm q
            obtain ⟨c, hc, rfl⟩ := List.mem_map.mp hx
            (try ctx_has vcx true_and)
            rw [lt_a, lt_z]
            exact small_rd (Q := fun b => Q2 (.bl b) H2) q
          · intro H2 sm h2
            refine ⟨D, rfl, z.cps.toList.map smallB, ?_, ?_⟩
            · rw [h2]; simp [sgnV]
            · rw [h3] at k
              have := k H2 sm
              simpa using this
        · have h3 : inV (.str z) marksV = true := by simpa using h3
          rw [h3] at k
          simpa using k H (Same.refl _)
    · rw [decide_eq_false (show ¬ 1 ≤ z.length by omega)] at k
      simpa using k H (Same.refl _)
  | int i => cases (show v = _ from ht); (try ctx_has vcx true_and nameT); exact k _ (Same.refl _)
  | bl s => cases (show v = _ from ht); (try ctx_has vcx true_and nameT); exact k _ (Same.refl _)
  | non => cases (show v = _ from ht); (try ctx_has vcx true_and nameT); exact k _ (Same.refl _)
  | tup l =>
    obtain ⟨a, xs, rfl, ha, hl⟩ := ht
    (try ctx_has vcx true_and nameT ha); exact k _ (Same.refl _)
theorem ok_is_tuple_of  {fH : Addr} {fdH : FuncData} {aH : Str} {R : Hp → Prop} {gT : Tr → Bool} {kH : Nat} (hRs : ∀ H H1, Same H H1 → R H → R H1) (hfH : PySem.W.FnAt fH base) (hbH : Binds K fdH [aH] []) (FH : FnOk P w K mg base CX0 kH fH fdH [aH] (spB R gT)) (T : Txt w K mg) (L : FnL K mg "is_tuple_of" s_is_tuple_of ["thing", "is_one", "least", "most"])  : Fn P w K mg base "is_tuple_of" (kH + 3) ["thing", "is_one", "least", "most"] (spTO fH R gT) := by
  have nd := sc_is_tuple_of.nd
  refine L.ok sc_is_tuple_of (fun vs H Q E h => ?_) (fun f cdv A outer s H vs Q E hr h => ?_) <;> obtain ⟨v, t, lo, hi, rfl, ht, hR, hhi, k⟩ := h
  · rfl
  have hu := hu_of hr
  refine ⟨_, (pss_one (ps_ret (pe_and (pe_callB call_isB rfl T.b_isinstance (show bootBuiltins "isinstance" = some (.builtin "isinstance") by decide +kernel) (pa_cons (pvM 0) (pa_cons (pe_ty (T := "tuple") rfl T.b_tuple (by decide +kernel)) pa_nil))) (pe_and (pe_chain op_le op_le (pvM 2) (pe_callB call_lenT rfl T.b_len PySem.boot_len (pa_cons (pvM 0) pa_nil)) (pvM 3)) (pe_one (pe_callB (call_allL rfl) rfl T.b_all (show bootBuiltins "all" = some (.builtin "all") by decide +kernel) (pa_cons (pe_comp (N := ["one", "is_one"]) (nt := 1) (js := [1]) rfl (compOk_of ["thing", "is_one", "least", "most"] (defScope s_is_tuple_of).names rfl rfl rfl (by decide +kernel)) (pi_TK (K := K) rfl (pvM 0)) (fun _ _ _ _ _ _ => (pg_name (i := 0) (show List.Nodup [("one" : Str), ("is_one" : Str)] by decide +kernel) rfl (Or.inl rfl))) (tgOk_name (by decide)) (fun _ _ _ _ _ _ => pts_nil) (fun _ _ _ _ _ _ => (pe_callH (i := 1) FH hfH hbH (hr.mono (by first | decide | omega)) pass0 rfl (by first | exact Or.inl rfl | exact Or.inr (Or.inl rfl) | exact Or.inr (Or.inr rfl)) (pa_cons (pvM 0) pa_nil)))) pa_nil))))))), ?_⟩
  cases t with
  | tup l =>
    obtain ⟨a, xs, rfl, ha, hl⟩ := ht
    have hlen := hl.len
    simp only [tupOf] at k
    (try ctx_has vcx true_and ha hlen)
    refine ite2 (fun h1 => ?_) (fun h1 => ?_)
    · refine ite2 (fun h2 => ?_) (fun h2 => ?_)
      · rw [decide_eq_true h1, decide_eq_true h2, Bool.true_and, Bool.true_and] at k
        intro D hD
        refine comp_tr wlk_tup (fun t => V.bl (gT t)) hl hD (fun H' s => .of (s _ _ ha)) (by omega) ?_ ?_
        · intro x t H2 Q2 _ tv sm q2
          (try ctx_has vcx true_and tCallH)
          exact ⟨x, t, rfl, tv, hRs _ _ sm hR, q2⟩
        · intro H2 sm h2
          (try ctx_has vcx true_and)
          refine ⟨l.map gT, by rw [h2, List.map_map]; rfl, ?_⟩
          have := k H2 sm
          rw [List.all_map]
          exact this
      · rw [decide_eq_false h2, Bool.false_and, Bool.and_false] at k
        exact k _ (Same.refl _)
    · rw [decide_eq_false h1, Bool.false_and] at k
      exact k _ (Same.refl _)
  | int i => cases (show v = _ from ht); (try ctx_has vcx true_and tupOf); exact k _ (Same.refl _)
  | bl s => cases (show v = _ from ht); (try ctx_has vcx true_and tupOf); exact k _ (Same.refl _)
  | non => cases (show v = _ from ht); (try ctx_has vcx true_and tupOf); exact k _ (Same.refl _)
  | str s => obtain ⟨rfl, hs⟩ := ht; (try ctx_has vcx true_and tupOf); exact k _ (Same.refl _)
theorem ok_are_unlike   (T : Txt w K mg) (L : FnL K mg "are_unlike" s_are_unlike ["things"])  : Fn P w K mg base "are_unlike" 1 ["things"] (spUn) := by
  have nd := sc_are_unlike.nd
  refine L.ok sc_are_unlike (fun vs H Q E h => ?_) (fun f cdv A outer s H vs Q E hr h => ?_) <;> obtain ⟨p, xs, rfl, hp, hlen, hk⟩ := h
  · rfl
  have hu := hu_of hr
  refine ⟨_, (pss_one (ps_ret (pe_cmpR op_eq (pe_callB call_lenSz rfl T.b_len PySem.boot_len (pa_cons (pe_callTy (call_setK rfl (hu100 hr)) rfl T.b_set (show bootBuiltins "set" = some (.type "set") by decide +kernel) (pa_cons (pvM 0) pa_nil)) pa_nil)) (pe_callB call_lenLT rfl T.b_len PySem.boot_len (pa_cons (pvM 0) pa_nil)) (nomark _)))), ?_⟩
  (try ctx_has vcx true_and)
  refine ⟨p, rfl, xs, hp, hlen, ?_⟩
  have fin : ∀ (n m : Nat) (c : Prop), (n = m ↔ c) → (∀ H', Same H H' → Q (.bl (dec c)) H') → xs.length = m → ∀ q, H q = none → rLenSz [V.ref q] (upd H q (SzS q n)) (fun x H1 => rLenLT [V.ref p] H1 fun y H2 => scal x y = true ∧ Q (V.bl (decide (x = y))) H2) := by
    intro n m c hc k hm q hq
    have hne : ∀ ys, H p = some ys → p ≠ q := fun ys e => ne_of_none e hq
    refine ⟨q, rfl, n, upd_same, p, rfl, xs, ?_, rfl, ?_⟩
    · rcases hp with hp | hp
      · exact .inl (by rw [upd_ne (hne _ hp)]; exact hp)
      · exact .inr (by rw [upd_ne (hne _ hp)]; exact hp)
    · have e : decide (V.int (n : Int) = V.int (xs.length : Int)) = dec c := by
        by_cases z : c
        · rw [dec_true z, hm]; exact decide_eq_true (by rw [hc.mpr z])
        · rw [dec_false z, hm]; exact decide_eq_false (fun e => z (hc.mp (by injection e with e; omega)))
      rw [e]
      exact k _ (Same.upd0 hq)
  rcases hk with ⟨ks, rfl, k⟩ | ⟨kss, ht, k⟩
  · exact .inl ⟨ks, rfl, fun q hq => fin _ _ _ (dedK_iff ks) k (by simp) q hq⟩
  · exact .inr ⟨kss, ht, fun q hq => fin _ _ _ (dedK_iff kss) k (kts_at ht).1 q hq⟩
noncomputable def unX : Tr → Bool
  | .tup l => unT l
  | _ => false
theorem all_key {g : Tr → Bool} (hg : ∀ t, g t = true → ∃ k, t = trK k) : ∀ {l : List Tr}, l.all g = true → ∃ ks : List Key, l = ks.map trK
  | [], _ => ⟨[], rfl⟩
  | t :: l, h => by
    rw [List.all_cons, Bool.and_eq_true] at h
    obtain ⟨k, rfl⟩ := hg t h.1
    obtain ⟨ks, rfl⟩ := all_key hg h.2
    exact ⟨k :: ks, rfl⟩
theorem all_row {g : Tr → Bool} (hg : ∀ t, g t = true → ∃ ks : List Key, t = .tup (ks.map trK)) : ∀ {l : List Tr}, l.all g = true → ∃ kss : List (List Key), l = kss.map fun ks => .tup (ks.map trK)
  | [], _ => ⟨[], rfl⟩
  | t :: l, h => by
    rw [List.all_cons, Bool.and_eq_true] at h
    obtain ⟨k, rfl⟩ := hg t h.1
    obtain ⟨ks, rfl⟩ := all_row hg h.2
    exact ⟨k :: ks, rfl⟩
theorem tupOf_tup {g : Tr → Bool} {lo hi : Int} {t : Tr} (h : tupOf g lo hi t = true) : ∃ l, t = .tup l ∧ lo ≤ l.length ∧ (l.length : Int) ≤ hi ∧ l.all g = true := by
  cases t with
  | tup l =>
    simp only [tupOf, Bool.and_eq_true, decide_eq_true_eq] at h
    exact ⟨l, rfl, h.1, h.2.1, h.2.2⟩
  | _ => cases h
theorem un_keys {H : Hp} {v : V} {ks : List Key} {Q : VK} {E : XK} (ht : TV H v (.tup (ks.map trK))) (hl : ks.length ≤ 69) (k : ∀ H', Same H H' → Q (.bl (unT (ks.map trK))) H') : spUn [v] H Q E := by
  obtain ⟨a, xs, rfl, ha, hx⟩ := ht
  have e := tvsK hx
  subst e
  refine ⟨a, _, rfl, .inl ha, by simpa using hl, .inl ⟨ks, rfl, fun H' s => ?_⟩⟩
  have := k H' s
  unfold unT at this
  rwa [dec_iff (nodup_inj fun a b => trK_inj)] at this
theorem un_key {g : Tr → Bool} (hg : ∀ t, g t = true → ∃ k, t = trK k) {H : Hp} {v : V} {t : Tr} {lo hi : Int} {Q : VK} {E : XK} (ht : TV H v t) (hb : tupOf g lo hi t = true) (hhi : hi ≤ 69) (k : ∀ H', Same H H' → Q (.bl (unX t)) H') : spUn [v] H Q E := by
  obtain ⟨l, rfl, h1, h2, h3⟩ := tupOf_tup hb
  obtain ⟨ks, rfl⟩ := all_key hg h3
  rw [List.length_map] at h2
  exact un_keys ht (by omega) k
theorem un_row {g : Tr → Bool} (hg : ∀ t, g t = true → ∃ ks : List Key, t = .tup (ks.map trK)) {H : Hp} {v : V} {t : Tr} {lo hi : Int} {Q : VK} {E : XK} (ht : TV H v t) (hb : tupOf g lo hi t = true) (hhi : hi ≤ 69) (k : ∀ H', Same H H' → Q (.bl (unX t)) H') : spUn [v] H Q E := by
  obtain ⟨l, rfl, h1, h2, h3⟩ := tupOf_tup hb
  obtain ⟨kss, rfl⟩ := all_row hg h3
  rw [List.length_map] at h2
  obtain ⟨a, xs, rfl, ha, hx⟩ := ht
  refine ⟨a, _, rfl, .inl ha, by rw [hx.len, List.length_map]; omega, .inr ⟨kss, tvsKK hx, fun H' s => ?_⟩⟩
  have this : Q (.bl (dec (kss.map fun ks => Tr.tup (ks.map trK)).Nodup)) H' := k H' s
  rwa [dec_iff (nodup_inj fun a b => mapK_inj)] at this
theorem whole_key {lo hi : Int} : ∀ t, wholeT lo hi t = true → ∃ k, t = trK k
  | .int i, _ => ⟨.inl i, rfl⟩
theorem name_key : ∀ t, nameT t = true → ∃ k, t = trK k
  | .str s, _ => ⟨.inr s, rfl⟩
noncomputable def namesT (t : Tr) : Bool := tupOf nameT 1 12 t && unX t
noncomputable def valuesT (t : Tr) : Bool := tupOf valT 0 60 t && unX t
noncomputable def endsT (t : Tr) : Bool := tupOf stT 0 21 t && unX t
theorem ok_are_names   (T : Txt w K mg) (L : FnL K mg "are_names" s_are_names ["thing"]) (Fis_tuple_of : Fn P w K mg base "is_tuple_of" 4 ["thing", "is_one", "least", "most"] (spTO (clsAt mg "is_name") R0 nameT)) (Fare_unlike : Fn P w K mg base "are_unlike" 1 ["things"] (spUn)) : Fn P w K mg base "are_names" 5 ["thing"] (spB R0 namesT) := by
  have nd := sc_are_names.nd
  refine L.ok sc_are_names (fun vs H Q E h => ?_) (fun f cdv A outer s H vs Q E hr h => ?_) <;> obtain ⟨v, t, rfl, ht, hR, k⟩ := h
  · rfl
  have hu := hu_of hr
  refine ⟨_, (pss_one (ps_ret (pe_and (pe_callF Fis_tuple_of (hr.mono (by first | decide | omega)) rfl (pa_cons (pvM 0) (pa_cons (pe_glob (v := .ref (clsAt mg "is_name")) rfl T.at_is_name rfl) (pa_cons pe_int (pa_cons (pe_cI T.c_MOST_CELLS rfl) pa_nil))))) (pe_one (pe_callF Fare_unlike (hr.mono (by first | decide | omega)) rfl (pa_cons (pvM 0) pa_nil)))))), ?_⟩
  (try ctx_has vcx true_and)
  refine ⟨v, t, _, _, rfl, ht, True.intro, by decide, fun H1 s1 => ?_⟩
  cases hb : tupOf nameT 1 12 t with
  | false =>
    (try ctx_has vcx true_and Bool.false_eq_true if_false)
    have := k H1 s1
    simp only [namesT, hb, Bool.false_and] at this
    exact this
  | true =>
    (try ctx_has vcx true_and if_true)
    refine un_key name_key (TV.keep (Same.keepT s1) t ht) hb (by decide) fun H2 s2 => ?_
    have := k H2 (s1.trans s2)
    simp only [namesT, hb, Bool.true_and] at this
    exact this
theorem ok_are_values   (T : Txt w K mg) (L : FnL K mg "are_values" s_are_values ["thing"]) (Fis_tuple_of : Fn P w K mg base "is_tuple_of" 6 ["thing", "is_one", "least", "most"] (spTO (clsAt mg "is_value") R0 valT)) (Fare_unlike : Fn P w K mg base "are_unlike" 1 ["things"] (spUn)) : Fn P w K mg base "are_values" 7 ["thing"] (spB R0 valuesT) := by
  have nd := sc_are_values.nd
  refine L.ok sc_are_values (fun vs H Q E h => ?_) (fun f cdv A outer s H vs Q E hr h => ?_) <;> obtain ⟨v, t, rfl, ht, hR, k⟩ := h
  · rfl
  have hu := hu_of hr
  refine ⟨_, (pss_one (ps_ret (pe_and (pe_callF Fis_tuple_of (hr.mono (by first | decide | omega)) rfl (pa_cons (pvM 0) (pa_cons (pe_glob (v := .ref (clsAt mg "is_value")) rfl T.at_is_value rfl) (pa_cons pe_int (pa_cons (pe_cI T.c_MOST_VALUES rfl) pa_nil))))) (pe_one (pe_callF Fare_unlike (hr.mono (by first | decide | omega)) rfl (pa_cons (pvM 0) pa_nil)))))), ?_⟩
  (try ctx_has vcx true_and)
  refine ⟨v, t, _, _, rfl, ht, True.intro, by decide, fun H1 s1 => ?_⟩
  cases hb : tupOf valT 0 60 t with
  | false =>
    (try ctx_has vcx true_and Bool.false_eq_true if_false)
    have := k H1 s1
    simp only [valuesT, hb, Bool.false_and] at this
    exact this
  | true =>
    (try ctx_has vcx true_and if_true)
    refine un_key whole_key (TV.keep (Same.keepT s1) t ht) hb (by decide) fun H2 s2 => ?_
    have := k H2 (s1.trans s2)
    simp only [valuesT, hb, Bool.true_and] at this
    exact this
theorem ok_are_ends   (T : Txt w K mg) (L : FnL K mg "are_ends" s_are_ends ["thing"]) (Fis_tuple_of : Fn P w K mg base "is_tuple_of" 6 ["thing", "is_one", "least", "most"] (spTO (clsAt mg "is_state") R0 stT)) (Fare_unlike : Fn P w K mg base "are_unlike" 1 ["things"] (spUn)) : Fn P w K mg base "are_ends" 7 ["thing"] (spB R0 endsT) := by
  have nd := sc_are_ends.nd
  refine L.ok sc_are_ends (fun vs H Q E h => ?_) (fun f cdv A outer s H vs Q E hr h => ?_) <;> obtain ⟨v, t, rfl, ht, hR, k⟩ := h
  · rfl
  have hu := hu_of hr
  refine ⟨_, (pss_one (ps_ret (pe_and (pe_callF Fis_tuple_of (hr.mono (by first | decide | omega)) rfl (pa_cons (pvM 0) (pa_cons (pe_glob (v := .ref (clsAt mg "is_state")) rfl T.at_is_state rfl) (pa_cons pe_int (pa_cons (pe_op op_add (pe_cI T.c_GREATEST_STATE rfl) pe_int) pa_nil))))) (pe_one (pe_callF Fare_unlike (hr.mono (by first | decide | omega)) rfl (pa_cons (pvM 0) pa_nil)))))), ?_⟩
  (try ctx_has vcx true_and)
  refine ⟨v, t, _, _, rfl, ht, True.intro, by decide, fun H1 s1 => ?_⟩
  rw [show ((20 : Int) + 1) = 21 from rfl]
  cases hb : tupOf stT 0 21 t with
  | false =>
    (try ctx_has vcx true_and Bool.false_eq_true if_false)
    have := k H1 s1
    simp only [endsT, hb, Bool.false_and] at this
    exact this
  | true =>
    (try ctx_has vcx true_and if_true)
    refine un_key whole_key (TV.keep (Same.keepT s1) t ht) hb (by decide) fun H2 s2 => ?_
    have := k H2 (s1.trans s2)
    simp only [endsT, hb, Bool.true_and] at this
    exact this
theorem tv_at {H : Hp} {l : List Tr} {xs : List V} (h : TVs H xs l) (i : Nat) (hi : i < l.length) : ∃ x, atI xs (i : Int) = some x ∧ TV H x (l.getD i .non) := by
  obtain ⟨x, e, t⟩ := h.get (i := i) (t := l.getD i .non) (by simp [List.getD_eq_getElem?_getD, hi])
  exact ⟨x, atI_nat e, t⟩
noncomputable def spFm (R : Hp → Prop) (g : List Tr → Bool) : Sp := fun vs H Q _ => ∃ (v : V) (l : List Tr), vs = [v] ∧ TV H v (.tup l) ∧ R H ∧ ∀ H', Same H H' → Q (.bl (g l)) H'
noncomputable def mbT : Tr → Bool := wholeT 0 1000000000
noncomputable def sbT : Tr → Bool
  | .non => true
  | t => wholeT (-10000000000000) 10000000000000 t
noncomputable def gpT : Tr → Bool := wholeT (-1000000000) 1000000000
noncomputable def unlikeF (l : List Tr) : Bool := decide (l.length = 2) && namesT (l.getD 1 .non)
noncomputable def manyF (l : List Tr) : Bool := decide (l.length = 5) && (valuesT (l.getD 1 .non) && (namesT (l.getD 2 .non) && (mbT (l.getD 3 .non) && mbT (l.getD 4 .non))))
noncomputable def behindF (l : List Tr) : Bool := decide (l.length = 3) && (namesT (l.getD 1 .non) && gpT (l.getD 2 .non))
theorem len_rd {n : Nat} {l : List Tr} {c : Bool} {H : Hp} {Q : VK} {A : Prop} (k : ∀ H', Same H H' → Q (.bl (decide (l.length = n) && c)) H') (nx : l.length = n → (∀ H', Same H H' → Q (.bl c) H') → A) : if (l.length : Int) = (n : Int) then A else Q (.bl false) H := by
  by_cases h : l.length = n
  · rw [if_pos (by omega)]
    exact nx h fun H' s => by have := k H' s; rwa [decide_eq_true h, Bool.true_and] at this
  · rw [if_neg (by omega)]
    have := k H (Same.refl _)
    rwa [decide_eq_false h, Bool.false_and] at this
theorem ask_rd {R : Hp → Prop} {g : Tr → Bool} {H : Hp} {x : V} {t : Tr} {c : Bool} {Q : VK} {A : Hp → Prop} (tv : TV H x t) (hR : R H) (k : ∀ H', Same H H' → Q (.bl (g t && c)) H') (nx : ∀ H', Same H H' → g t = true → (∀ H2, Same H' H2 → Q (.bl c) H2) → A H') :
    spB R g [x] H (fun y H1 => ∃ b, y = V.bl b ∧ if b = true then A H1 else Q (V.bl false) H1) E0 := by
  refine ⟨x, t, rfl, tv, hR, fun H1 s1 => ⟨_, rfl, ?_⟩⟩
  cases hb : g t with
  | false =>
    have := k H1 s1
    rw [hb, Bool.false_and] at this
    rw [if_neg Bool.false_ne_true]; exact this
  | true =>
    rw [if_pos rfl]
    refine nx H1 s1 hb fun H2 s2 => ?_
    have := k H2 (s1.trans s2)
    rwa [hb, Bool.true_and] at this
theorem step_rd {R : Hp → Prop} {g : Tr → Bool} {H : Hp} {l : List Tr} {xs : List V} {c : Bool} {Q : VK} {A : Hp → Prop} (i : Nat) (hl : TVs H xs l) (hi : i < l.length) (hR : R H) (k : ∀ H', Same H H' → Q (.bl (g (l.getD i .non) && c)) H') (nx : ∀ H', Same H H' → g (l.getD i .non) = true → (∀ H2, Same H' H2 → Q (.bl c) H2) → A H') :
    ∃ v, atI xs (i : Int) = some v ∧ spB R g [v] H (fun y H1 => ∃ b, y = V.bl b ∧ if b = true then A H1 else Q (V.bl false) H1) E0 := by
  obtain ⟨x, e, tv⟩ := tv_at hl i hi
  exact ⟨x, e, ask_rd tv hR k nx⟩
theorem last_rd {R : Hp → Prop} {g : Tr → Bool} {H : Hp} {l : List Tr} {xs : List V} {Q : VK} (i : Nat) (hl : TVs H xs l) (hi : i < l.length) (hR : R H) (k : ∀ H', Same H H' → Q (.bl (g (l.getD i .non))) H') : ∃ v, atI xs (i : Int) = some v ∧ spB R g [v] H Q E0 := by
  obtain ⟨x, e, tv⟩ := tv_at hl i hi
  exact ⟨x, e, x, _, rfl, tv, hR, k⟩
theorem ok_is_many_bound   (T : Txt w K mg) (L : FnL K mg "is_many_bound" s_is_many_bound ["thing"]) (Fis_whole : Fn P w K mg base "is_whole" 2 ["thing", "least", "greatest"] (spWh)) : Fn P w K mg base "is_many_bound" 3 ["thing"] (spB R0 mbT) := by
  have nd := sc_is_many_bound.nd
  refine L.ok sc_is_many_bound (fun vs H Q E h => ?_) (fun f cdv A outer s H vs Q E hr h => ?_) <;> obtain ⟨v, t, rfl, ht, hR, k⟩ := h
  · rfl
  have hu := hu_of hr
  refine ⟨_, (pss_one (ps_ret (pe_callF Fis_whole (hr.mono (by first | decide | omega)) rfl (pa_cons (pvM 0) (pa_cons pe_int (pa_cons (pe_cI T.c_GREATEST_MANY rfl) pa_nil)))))), ?_⟩
  (try ctx_has vcx true_and)
  exact ⟨v, t, _, _, rfl, ht, k⟩
theorem ok_is_sum_bound   (T : Txt w K mg) (L : FnL K mg "is_sum_bound" s_is_sum_bound ["thing"]) (Fis_whole : Fn P w K mg base "is_whole" 2 ["thing", "least", "greatest"] (spWh)) : Fn P w K mg base "is_sum_bound" 3 ["thing"] (spB R0 sbT) := by
  have nd := sc_is_sum_bound.nd
  refine L.ok sc_is_sum_bound (fun vs H Q E h => ?_) (fun f cdv A outer s H vs Q E hr h => ?_) <;> obtain ⟨v, t, rfl, ht, hR, k⟩ := h
  · rfl
  have hu := hu_of hr
  refine ⟨_, (pss_one (ps_ret (pe_or (pe_cmp (pc_isN (pvM 0))) (pe_one (pe_callF Fis_whole (hr.mono (by first | decide | omega)) rfl (pa_cons (pvM 0) (pa_cons (pe_un un_neg (pe_cI T.c_GREATEST_BOUND rfl)) (pa_cons (pe_cI T.c_GREATEST_BOUND rfl) pa_nil)))))))), ?_⟩
  cases t with
  | non => cases (show v = _ from ht); (try ctx_has vcx true_and sbT); exact k _ (Same.refl _)
  | bl b => cases (show v = _ from ht); (try ctx_has vcx true_and sbT); exact ⟨_, .bl b, _, _, rfl, rfl, k⟩
  | int i => cases (show v = _ from ht); (try ctx_has vcx true_and sbT); exact ⟨_, .int i, _, _, rfl, rfl, k⟩
  | str s => obtain ⟨rfl, hs⟩ := ht; (try ctx_has vcx true_and sbT); exact ⟨_, .str s, _, _, rfl, ⟨rfl, hs⟩, k⟩
  | tup l =>
    obtain ⟨a, xs, rfl, ha, hl⟩ := ht
    (try ctx_has vcx true_and sbT); exact ⟨_, .tup l, _, _, rfl, ⟨a, xs, rfl, ha, hl⟩, k⟩
theorem ok_is_unlike   (T : Txt w K mg) (L : FnL K mg "is_unlike" s_is_unlike ["wish"]) (Fare_names : Fn P w K mg base "are_names" 5 ["thing"] (spB R0 namesT)) : Fn P w K mg base "is_unlike" 6 ["wish"] (spFm R0 unlikeF) := by
  have nd := sc_is_unlike.nd
  refine L.ok sc_is_unlike (fun vs H Q E h => ?_) (fun f cdv A outer s H vs Q E hr h => ?_) <;> obtain ⟨v, l, rfl, ht, hR, k⟩ := h
  · rfl
  have hu := hu_of hr
  refine ⟨_, (pss_one (ps_ret (pe_and (pe_cmpR op_eq (pe_callB call_lenT rfl T.b_len PySem.boot_len (pa_cons (pvM 0) pa_nil)) pe_int (nomark _)) (pe_one (pe_callF Fare_names (hr.mono (by first | decide | omega)) rfl (pa_cons (pe_ix ix_T (pvM 0) pe_int (fun _ _ => rfl)) pa_nil)))))), ?_⟩
  obtain ⟨a, xs, rfl, ha, hl⟩ := ht
  have hlen := hl.len
  (try ctx_has vcx true_and ha hlen)
  refine len_rd (n := 2) k fun h0 k => ?_
  exact last_rd 1 hl (by omega) True.intro k
theorem ok_is_many   (T : Txt w K mg) (L : FnL K mg "is_many" s_is_many ["wish"]) (Fare_names : Fn P w K mg base "are_names" 5 ["thing"] (spB R0 namesT)) (Fare_values : Fn P w K mg base "are_values" 7 ["thing"] (spB R0 valuesT)) (Fis_many_bound : Fn P w K mg base "is_many_bound" 3 ["thing"] (spB R0 mbT)) : Fn P w K mg base "is_many" 8 ["wish"] (spFm R0 manyF) := by
  have nd := sc_is_many.nd
  refine L.ok sc_is_many (fun vs H Q E h => ?_) (fun f cdv A outer s H vs Q E hr h => ?_) <;> obtain ⟨v, l, rfl, ht, hR, k⟩ := h
  · rfl
  have hu := hu_of hr
  refine ⟨_, (pss_one (ps_ret (pe_and (pe_cmpR op_eq (pe_callB call_lenT rfl T.b_len PySem.boot_len (pa_cons (pvM 0) pa_nil)) pe_int (nomark _)) (pe_and (pe_callF Fare_values (hr.mono (by first | decide | omega)) rfl (pa_cons (pe_ix ix_T (pvM 0) pe_int (fun _ _ => rfl)) pa_nil)) (pe_and (pe_callF Fare_names (hr.mono (by first | decide | omega)) rfl (pa_cons (pe_ix ix_T (pvM 0) pe_int (fun _ _ => rfl)) pa_nil)) (pe_and (pe_callF Fis_many_bound (hr.mono (by first | decide | omega)) rfl (pa_cons (pe_ix ix_T (pvM 0) pe_int (fun _ _ => rfl)) pa_nil)) (pe_one (pe_callF Fis_many_bound (hr.mono (by first | decide | omega)) rfl (pa_cons (pe_ix ix_T (pvM 0) pe_int (fun _ _ => rfl)) pa_nil))))))))), ?_⟩
  obtain ⟨a, xs, rfl, ha, hl⟩ := ht
  have hlen := hl.len
  (try ctx_has vcx true_and ha hlen)
  refine len_rd (n := 5) k fun h0 k => ?_
  refine step_rd 1 hl (by omega) True.intro k fun H1 s1 hg1 k => ?_
  replace ha := s1 _ _ ha
  replace hl := TVs.keep (Same.keepT s1) l hl
  refine ⟨xs, ha, step_rd 2 hl (by omega) True.intro k fun H1 s1 hg2 k => ?_⟩
  replace ha := s1 _ _ ha
  replace hl := TVs.keep (Same.keepT s1) l hl
  refine ⟨xs, ha, step_rd 3 hl (by omega) True.intro k fun H1 s1 hg3 k => ?_⟩
  replace ha := s1 _ _ ha
  replace hl := TVs.keep (Same.keepT s1) l hl
  exact ⟨xs, ha, last_rd 4 hl (by omega) True.intro k⟩
theorem ok_is_behind   (T : Txt w K mg) (L : FnL K mg "is_behind" s_is_behind ["wish"]) (Fare_names : Fn P w K mg base "are_names" 5 ["thing"] (spB R0 namesT)) (Fis_whole : Fn P w K mg base "is_whole" 2 ["thing", "least", "greatest"] (spWh)) : Fn P w K mg base "is_behind" 6 ["wish"] (spFm R0 behindF) := by
  have nd := sc_is_behind.nd
  refine L.ok sc_is_behind (fun vs H Q E h => ?_) (fun f cdv A outer s H vs Q E hr h => ?_) <;> obtain ⟨v, l, rfl, ht, hR, k⟩ := h
  · rfl
  have hu := hu_of hr
  refine ⟨_, (pss_one (ps_ret (pe_and (pe_cmpR op_eq (pe_callB call_lenT rfl T.b_len PySem.boot_len (pa_cons (pvM 0) pa_nil)) pe_int (nomark _)) (pe_and (pe_callF Fare_names (hr.mono (by first | decide | omega)) rfl (pa_cons (pe_ix ix_T (pvM 0) pe_int (fun _ _ => rfl)) pa_nil)) (pe_one (pe_callF Fis_whole (hr.mono (by first | decide | omega)) rfl (pa_cons (pe_ix ix_T (pvM 0) pe_int (fun _ _ => rfl)) (pa_cons (pe_un un_neg (pe_cI T.c_GREATEST_GAP rfl)) (pa_cons (pe_cI T.c_GREATEST_GAP rfl) pa_nil))))))))), ?_⟩
  obtain ⟨a, xs, rfl, ha, hl⟩ := ht
  have hlen := hl.len
  (try ctx_has vcx true_and ha hlen)
  refine len_rd (n := 3) k fun h0 k => ?_
  refine step_rd 1 hl (by omega) True.intro k fun H1 s1 hg1 k => ?_
  replace ha := s1 _ _ ha
  replace hl := TVs.keep (Same.keepT s1) l hl
  obtain ⟨x, e, tv⟩ := tv_at hl 2 (by omega)
  exact ⟨xs, ha, x, e, x, _, _, _, rfl, tv, k⟩
noncomputable def nzT : Tr → Bool
  | .int i => !decide (i = 0)
  | _ => true
noncomputable def termT : Tr → Bool
  | .tup l => decide (l.length = 2) && (valT (l.getD 0 .non) && (nzT (l.getD 0 .non) && nameT (l.getD 1 .non)))
  | _ => false
noncomputable def stepT : Tr → Bool
  | .tup l => decide (l.length = 3) && (stT (l.getD 0 .non) && (valT (l.getD 1 .non) && stT (l.getD 2 .non)))
  | _ => false
noncomputable def itT : Tr → List Tr
  | .tup l => l
  | _ => []
noncomputable def termsT (t : Tr) : Bool := tupOf termT 1 6 t && unT ((itT t).map fun t => (itT t).getD 1 .non)
noncomputable def stepsT (t : Tr) : Bool := tupOf stepT 0 60 t && unT ((itT t).map fun t => .tup ((itT t).take 2))
noncomputable def sumF (l : List Tr) : Bool := decide (l.length = 4) && (termsT (l.getD 1 .non) && (sbT (l.getD 2 .non) && sbT (l.getD 3 .non)))
noncomputable def wayF (l : List Tr) : Bool := decide (l.length = 4) && (namesT (l.getD 1 .non) && (stepsT (l.getD 2 .non) && endsT (l.getD 3 .non)))
theorem ok_is_term   (T : Txt w K mg) (L : FnL K mg "is_term" s_is_term ["thing"]) (Fis_value : Fn P w K mg base "is_value" 3 ["thing"] (spB R0 valT)) (Fis_name : Fn P w K mg base "is_name" 1 ["thing"] (spB R0 nameT)) : Fn P w K mg base "is_term" 4 ["thing"] (spB R0 termT) := by
  have nd := sc_is_term.nd
  refine L.ok sc_is_term (fun vs H Q E h => ?_) (fun f cdv A outer s H vs Q E hr h => ?_) <;> obtain ⟨v, t, rfl, ht, hR, k⟩ := h
  · rfl
  have hu := hu_of hr
  refine ⟨_, (pss_one (ps_ret (pe_and (pe_callB call_isB rfl T.b_isinstance (show bootBuiltins "isinstance" = some (.builtin "isinstance") by decide +kernel) (pa_cons (pvM 0) (pa_cons (pe_ty (T := "tuple") rfl T.b_tuple (by decide +kernel)) pa_nil))) (pe_and (pe_cmpR op_eq (pe_callB call_lenT rfl T.b_len PySem.boot_len (pa_cons (pvM 0) pa_nil)) pe_int (nomark _)) (pe_and (pe_callF Fis_value (hr.mono (by first | decide | omega)) rfl (pa_cons (pe_ix ix_T (pvM 0) pe_int (fun _ _ => rfl)) pa_nil)) (pe_and (pe_cmpR op_ne (pe_ix ix_T (pvM 0) pe_int (fun _ _ => rfl)) pe_int (nomark _)) (pe_one (pe_callF Fis_name (hr.mono (by first | decide | omega)) rfl (pa_cons (pe_ix ix_T (pvM 0) pe_int (fun _ _ => rfl)) pa_nil))))))))), ?_⟩
  cases t with
  | tup l =>
    simp only [termT] at k
    obtain ⟨a, xs, rfl, ha, hl⟩ := ht
    have hlen := hl.len
    (try ctx_has vcx true_and ha hlen)
    refine len_rd (n := 2) k fun h0 k => ?_
    refine step_rd 0 hl (by omega) True.intro k fun H1 s1 hg0 k => ?_
    replace ha := s1 _ _ ha
    replace hl := TVs.keep (Same.keepT s1) l hl
    obtain ⟨x, e, tv⟩ := tv_at hl 0 (by omega)
    obtain ⟨i, ei⟩ : ∃ i, l.getD 0 .non = .int i := by
      cases hx : l.getD 0 .non with
      | int i => exact ⟨i, rfl⟩
      | _ => rw [hx] at hg0; cases hg0
    rw [ei] at tv k
    cases (show x = _ from tv)
    refine ⟨xs, ha, _, e, rfl, ?_⟩
    by_cases hz : i = 0
    · subst hz
      rw [if_neg (by simp)]
      have := k H1 (Same.refl _)
      simpa [nzT] using this
    · rw [if_pos (by simp [hz])]
      refine ⟨xs, ha, last_rd 1 hl (by omega) True.intro fun H2 s2 => ?_⟩
      have := k H2 s2
      simpa [nzT, hz] using this
  | int i => cases (show v = _ from ht); (try ctx_has vcx true_and termT); exact k _ (Same.refl _)
  | bl s => cases (show v = _ from ht); (try ctx_has vcx true_and termT); exact k _ (Same.refl _)
  | non => cases (show v = _ from ht); (try ctx_has vcx true_and termT); exact k _ (Same.refl _)
  | str s => obtain ⟨rfl, hs⟩ := ht; (try ctx_has vcx true_and termT); exact k _ (Same.refl _)
theorem ok_is_step   (T : Txt w K mg) (L : FnL K mg "is_step" s_is_step ["thing"]) (Fis_value : Fn P w K mg base "is_value" 3 ["thing"] (spB R0 valT)) (Fis_state : Fn P w K mg base "is_state" 3 ["thing"] (spB R0 stT)) : Fn P w K mg base "is_step" 4 ["thing"] (spB R0 stepT) := by
  have nd := sc_is_step.nd
  refine L.ok sc_is_step (fun vs H Q E h => ?_) (fun f cdv A outer s H vs Q E hr h => ?_) <;> obtain ⟨v, t, rfl, ht, hR, k⟩ := h
  · rfl
  have hu := hu_of hr
  refine ⟨_, (pss_one (ps_ret (pe_and (pe_callB call_isB rfl T.b_isinstance (show bootBuiltins "isinstance" = some (.builtin "isinstance") by decide +kernel) (pa_cons (pvM 0) (pa_cons (pe_ty (T := "tuple") rfl T.b_tuple (by decide +kernel)) pa_nil))) (pe_and (pe_cmpR op_eq (pe_callB call_lenT rfl T.b_len PySem.boot_len (pa_cons (pvM 0) pa_nil)) pe_int (nomark _)) (pe_and (pe_callF Fis_state (hr.mono (by first | decide | omega)) rfl (pa_cons (pe_ix ix_T (pvM 0) pe_int (fun _ _ => rfl)) pa_nil)) (pe_and (pe_callF Fis_value (hr.mono (by first | decide | omega)) rfl (pa_cons (pe_ix ix_T (pvM 0) pe_int (fun _ _ => rfl)) pa_nil)) (pe_one (pe_callF Fis_state (hr.mono (by first | decide | omega)) rfl (pa_cons (pe_ix ix_T (pvM 0) pe_int (fun _ _ => rfl)) pa_nil))))))))), ?_⟩
  cases t with
  | tup l =>
    simp only [stepT] at k
    obtain ⟨a, xs, rfl, ha, hl⟩ := ht
    have hlen := hl.len
    (try ctx_has vcx true_and ha hlen)
    refine len_rd (n := 3) k fun h0 k => ?_
    refine step_rd 0 hl (by omega) True.intro k fun H1 s1 hg0 k => ?_
    replace ha := s1 _ _ ha
    replace hl := TVs.keep (Same.keepT s1) l hl
    refine ⟨xs, ha, step_rd 1 hl (by omega) True.intro k fun H1 s1 hg1 k => ?_⟩
    replace ha := s1 _ _ ha
    replace hl := TVs.keep (Same.keepT s1) l hl
    exact ⟨xs, ha, last_rd 2 hl (by omega) True.intro k⟩
  | int i => cases (show v = _ from ht); (try ctx_has vcx true_and stepT); exact k _ (Same.refl _)
  | bl s => cases (show v = _ from ht); (try ctx_has vcx true_and stepT); exact k _ (Same.refl _)
  | non => cases (show v = _ from ht); (try ctx_has vcx true_and stepT); exact k _ (Same.refl _)
  | str s => obtain ⟨rfl, hs⟩ := ht; (try ctx_has vcx true_and stepT); exact k _ (Same.refl _)
noncomputable def vK : Tr → V
  | .int i => .int i
  | .str s => .str s
  | _ => .non
theorem vK_tr (k : Key) : vK (trK k) = kV k := by cases k <;> rfl
theorem un_lst {H : Hp} {D : Addr} {m : List Tr} {Q : VK} {E : XK} {g : Tr → Bool} (hg : ∀ t, g t = true → ∃ k, t = trK k) (hm : m.all g = true) (hD : H D = some (.lst (m.map vK))) (hl : m.length ≤ 69) (k : ∀ H', Same H H' → Q (.bl (unT m)) H') : spUn [.ref D] H Q E := by
  obtain ⟨ks, rfl⟩ := all_key hg hm
  refine ⟨D, _, rfl, .inr hD, by simpa using hl, .inl ⟨ks, by rw [List.map_map]; exact List.map_congr_left fun k _ => vK_tr k, fun H' s => ?_⟩⟩
  have := k H' s
  unfold unT at this
  rwa [dec_iff (nodup_inj fun a b => trK_inj)] at this
theorem un_lst2 {H : Hp} {D : Addr} {ys : List V} {m : List Tr} {Q : VK} {E : XK} {g : Tr → Bool} (hg : ∀ t, g t = true → ∃ ks : List Key, t = .tup (ks.map trK)) (hm : m.all g = true) (hD : H D = some (.lst ys)) (ht : TVs H ys m) (hl : m.length ≤ 69) (k : ∀ H', Same H H' → Q (.bl (unT m)) H') : spUn [.ref D] H Q E := by
  obtain ⟨kss, rfl⟩ := all_row hg hm
  refine ⟨D, _, rfl, .inr hD, by rw [ht.len]; exact hl, .inr ⟨kss, tvsKK ht, fun H' s => ?_⟩⟩
  have this : Q (.bl (dec (kss.map fun ks => Tr.tup (ks.map trK)).Nodup)) H' := k H' s
  rwa [dec_iff (nodup_inj fun a b => mapK_inj)] at this
theorem term_at {t : Tr} (h : termT t = true) : ∃ l, t = .tup l ∧ l.length = 2 ∧ nameT (l.getD 1 .non) = true := by
  cases t with
  | tup l => simp only [termT, Bool.and_eq_true, decide_eq_true_eq] at h; exact ⟨l, rfl, h.1, h.2.2.2⟩
  | _ => cases h
theorem step_at {t : Tr} (h : stepT t = true) : ∃ i j k, t = .tup [.int i, .int j, .int k] := by
  cases t with
  | tup l =>
    simp only [stepT, Bool.and_eq_true, decide_eq_true_eq] at h
    obtain ⟨h0, h1, h2, h3⟩ := h
    match l, h0, h1, h2, h3 with
    | [a, b, c], _, h1, h2, h3 =>
      obtain ⟨i, rfl⟩ : ∃ i, a = .int i := by cases a with | int i => exact ⟨i, rfl⟩ | _ => cases h1
      obtain ⟨j, rfl⟩ : ∃ i, b = .int i := by cases b with | int i => exact ⟨i, rfl⟩ | _ => cases h2
      obtain ⟨k, rfl⟩ : ∃ i, c = .int i := by cases c with | int i => exact ⟨i, rfl⟩ | _ => cases h3
      exact ⟨i, j, k, rfl⟩
  | _ => cases h
theorem all_map' {α β : Type} {f : α → β} {p : β → Bool} {q : α → Bool} (hpq : ∀ a, q a = true → p (f a) = true) {l : List α} (h : l.all q = true) : (l.map f).all p = true := by
  rw [List.all_map, List.all_eq_true]
  rw [List.all_eq_true] at h
  exact fun a ha => hpq a (h a ha)
noncomputable def prT : Tr → Bool
  | .tup [.int _, .int _] => true
  | _ => false
theorem pr_row : ∀ t, prT t = true → ∃ ks : List Key, t = .tup (ks.map trK)
  | .tup [.int i, .int j], _ => ⟨[.inl i, .inl j], rfl⟩
theorem ok_are_terms   (T : Txt w K mg) (L : FnL K mg "are_terms" s_are_terms ["thing"]) (Fis_tuple_of : Fn P w K mg base "is_tuple_of" 7 ["thing", "is_one", "least", "most"] (spTO (clsAt mg "is_term") R0 termT)) (Fare_unlike : Fn P w K mg base "are_unlike" 1 ["things"] (spUn)) : Fn P w K mg base "are_terms" 8 ["thing"] (spB R0 termsT) := by
  have nd := sc_are_terms.nd
  refine L.ok sc_are_terms (fun vs H Q E h => ?_) (fun f cdv A outer s H vs Q E hr h => ?_) <;> obtain ⟨v, t, rfl, ht, hR, k⟩ := h
  · rfl
  have hu := hu_of hr
  refine ⟨_, (pss_one (ps_ret (pe_and (pe_callF Fis_tuple_of (hr.mono (by first | decide | omega)) rfl (pa_cons (pvM 0) (pa_cons (pe_glob (v := .ref (clsAt mg "is_term")) rfl T.at_is_term rfl) (pa_cons pe_int (pa_cons (pe_cI T.c_MOST_TERMS rfl) pa_nil))))) (pe_one (pe_callF Fare_unlike (hr.mono (by first | decide | omega)) rfl (pa_cons (pe_comp (N := ["term"]) (nt := 1) (js := []) rfl (compOk_of ["thing"] (defScope s_are_terms).names rfl rfl rfl (by decide +kernel)) (pi_TK (K := K) rfl (pvM 0)) (fun _ _ _ _ _ _ => (pg_name (i := 0) (show List.Nodup [("term" : Str)] by decide +kernel) rfl (Or.inl rfl))) (tgOk_name (by decide)) (fun _ _ _ _ _ _ => pts_nil) (fun _ _ _ _ _ _ => (pe_ix ix_T (pvM 0) pe_int (fun _ _ => rfl)))) pa_nil)))))), ?_⟩
  (try ctx_has vcx true_and)
  refine ⟨v, t, _, _, rfl, ht, True.intro, by decide, fun H1 s1 => ?_⟩
  cases hb : tupOf termT 1 6 t with
  | false =>
    (try ctx_has vcx true_and Bool.false_eq_true if_false)
    have := k H1 s1
    simp only [termsT, hb, Bool.false_and] at this
    exact this
  | true =>
    (try ctx_has vcx true_and if_true)
    obtain ⟨l, rfl, h1, h2, h3⟩ := tupOf_tup hb
    obtain ⟨a, xs, rfl, ha, hl⟩ := ht
    replace ha := s1 _ _ ha
    replace hl := TVs.keep (Same.keepT s1) l hl
    (try ctx_has vcx true_and ha)
    intro D hD
    refine comp_tr wlk_tup (fun t => vK ((itT t).getD 1 .non)) hl hD (fun H' s => .of (s _ _ ha)) (by rw [hl.len]; omega) ?_ ?_
    · intro x t H2 Q2 hm tv sm q2
      obtain ⟨m, rfl, hm2, hn⟩ := term_at (List.all_eq_true.mp h3 t hm)
      obtain ⟨b, ys, rfl, hb2, hy⟩ := tv
      obtain ⟨y, e, ty⟩ := tv_at hy 1 (by omega)
      (try ctx_has vcx true_and hb2)
      refine ⟨y, e, ?_⟩
      have ey : y = vK ((itT (.tup m)).getD 1 .non) := by
        show y = vK (m.getD 1 .non)
        obtain ⟨k, ek⟩ := name_key _ hn
        rw [ek] at ty ⊢
        rw [vK_tr]; exact tvK ty
      rw [ey]
      exact q2 H2 (Same.refl _)
    · intro H2 sm hD2
      refine un_lst (m := l.map fun t => (itT t).getD 1 .non) name_key (all_map' (fun t h => by obtain ⟨m, rfl, _, hn⟩ := term_at h; exact hn) h3) (by rw [hD2, List.map_map]; rfl) (by rw [List.length_map]; omega) fun H3 s3 => ?_
      have := k H3 (s1.trans (sm.trans s3))
      simp only [termsT, hb, Bool.true_and] at this
      exact this
theorem ok_are_steps   (T : Txt w K mg) (L : FnL K mg "are_steps" s_are_steps ["thing"]) (Fis_tuple_of : Fn P w K mg base "is_tuple_of" 7 ["thing", "is_one", "least", "most"] (spTO (clsAt mg "is_step") R0 stepT)) (Fare_unlike : Fn P w K mg base "are_unlike" 1 ["things"] (spUn)) : Fn P w K mg base "are_steps" 8 ["thing"] (spB R0 stepsT) := by
  have nd := sc_are_steps.nd
  refine L.ok sc_are_steps (fun vs H Q E h => ?_) (fun f cdv A outer s H vs Q E hr h => ?_) <;> obtain ⟨v, t, rfl, ht, hR, k⟩ := h
  · rfl
  have hu := hu_of hr
  refine ⟨_, (pss_one (ps_ret (pe_and (pe_callF Fis_tuple_of (hr.mono (by first | decide | omega)) rfl (pa_cons (pvM 0) (pa_cons (pe_glob (v := .ref (clsAt mg "is_step")) rfl T.at_is_step rfl) (pa_cons pe_int (pa_cons (pe_cI T.c_MOST_STEPS rfl) pa_nil))))) (pe_one (pe_callF Fare_unlike (hr.mono (by first | decide | omega)) rfl (pa_cons (pe_comp (N := ["step"]) (nt := 1) (js := []) rfl (compOk_of ["thing"] (defScope s_are_steps).names rfl rfl rfl (by decide +kernel)) (pi_TK (K := K) rfl (pvM 0)) (fun _ _ _ _ _ _ => (pg_name (i := 0) (show List.Nodup [("step" : Str)] by decide +kernel) rfl (Or.inl rfl))) (tgOk_name (by decide)) (fun _ _ _ _ _ _ => pts_nil) (fun _ _ _ _ _ _ => (pe_slice sl_Ts (pvM 0) po_none (po_some pe_int)))) pa_nil)))))), ?_⟩
  (try ctx_has vcx true_and)
  refine ⟨v, t, _, _, rfl, ht, True.intro, by decide, fun H1 s1 => ?_⟩
  cases hb : tupOf stepT 0 60 t with
  | false =>
    (try ctx_has vcx true_and Bool.false_eq_true if_false)
    have := k H1 s1
    simp only [stepsT, hb, Bool.false_and] at this
    exact this
  | true =>
    (try ctx_has vcx true_and if_true)
    obtain ⟨l, rfl, h1, h2, h3⟩ := tupOf_tup hb
    obtain ⟨a, xs, rfl, ha, hl⟩ := ht
    replace ha := s1 _ _ ha
    replace hl := TVs.keep (Same.keepT s1) l hl
    (try ctx_has vcx true_and ha)
    intro D hD
    refine comp_g wlk_tup (fun i ys H2 => TVs H2 ys ((l.take i).map fun t => .tup ((itT t).take 2)) ∧ H2 D = some (.lst ys) ∧ Same H1 H2 ∧ i ≤ l.length)
      ⟨by simp [TVs], upd_same, Same.upd0 hD, Nat.zero_le _⟩ (fun i ys H2 h => .of (h.2.2.1 _ _ ha)) ?_ ?_
    · rintro i x ys H2 hi hx ⟨hys, hD2, sm, hle⟩
      obtain ⟨t, et, tv⟩ := hl.at hx
      obtain ⟨i1, i2, i3, rfl⟩ := step_at (List.all_eq_true.mp h3 t (List.mem_of_getElem? et))
      have hil : i < l.length := (List.getElem?_eq_some_iff.mp et).1
      have tv2 := TV.keep (Same.keepT sm) _ tv
      obtain ⟨b, us, rfl, hb2, hu2⟩ := tv2
      (try ctx_has vcx true_and hb2)
      have ekk : us = [V.int i1, V.int i2, V.int i3] := tvsK (ks := [.inl i1, .inl i2, .inl i3]) hu2
      subst ekk
      have etk : (l.take (i + 1)).map (fun t => Tr.tup ((itT t).take 2)) = (l.take i).map (fun t => Tr.tup ((itT t).take 2)) ++ [.tup [.int i1, .int i2]] := by rw [List.take_add_one, et]; simp [itT]
      intro p H3 hp s3
      have hD3 := s3 _ _ hD2
      have kp : KeepT H2 (upd H3 D (.lst (ys ++ [.ref p]))) := (Same.keepT s3).trans (keepT_put hD3)
      refine ⟨hD3, by rw [hys.len, List.length_map, List.length_take]; exact small1000 (by omega), ?_, upd_same, fun c o e => ?_, hil⟩
      · rw [etk]
        exact (TVs.keep kp _ hys).app (TVs.one ⟨p, [V.int i1, V.int i2], rfl, keepT_put hD3 _ _ hp, _, _, rfl, rfl, _, _, rfl, rfl, rfl⟩)
      · rw [upd_ne (ne_of_none e hD)]; exact s3 _ _ (sm c o e)
    · rintro ys H2 ⟨hys, hD2, sm, _⟩
      rw [hl.len, List.take_length] at hys
      refine un_lst2 pr_row (all_map' (fun t h => by obtain ⟨i, j, k, rfl⟩ := step_at h; rfl) h3) hD2 hys (by rw [List.length_map]; omega) fun H3 s3 => ?_
      have := k H3 (s1.trans (sm.trans s3))
      simp only [stepsT, hb, Bool.true_and] at this
      exact this
theorem ok_is_sum   (T : Txt w K mg) (L : FnL K mg "is_sum" s_is_sum ["wish"]) (Fare_terms : Fn P w K mg base "are_terms" 8 ["thing"] (spB R0 termsT)) (Fis_sum_bound : Fn P w K mg base "is_sum_bound" 3 ["thing"] (spB R0 sbT)) : Fn P w K mg base "is_sum" 9 ["wish"] (spFm R0 sumF) := by
  have nd := sc_is_sum.nd
  refine L.ok sc_is_sum (fun vs H Q E h => ?_) (fun f cdv A outer s H vs Q E hr h => ?_) <;> obtain ⟨v, l, rfl, ht, hR, k⟩ := h
  · rfl
  have hu := hu_of hr
  refine ⟨_, (pss_one (ps_ret (pe_and (pe_cmpR op_eq (pe_callB call_lenT rfl T.b_len PySem.boot_len (pa_cons (pvM 0) pa_nil)) pe_int (nomark _)) (pe_and (pe_callF Fare_terms (hr.mono (by first | decide | omega)) rfl (pa_cons (pe_ix ix_T (pvM 0) pe_int (fun _ _ => rfl)) pa_nil)) (pe_and (pe_callF Fis_sum_bound (hr.mono (by first | decide | omega)) rfl (pa_cons (pe_ix ix_T (pvM 0) pe_int (fun _ _ => rfl)) pa_nil)) (pe_one (pe_callF Fis_sum_bound (hr.mono (by first | decide | omega)) rfl (pa_cons (pe_ix ix_T (pvM 0) pe_int (fun _ _ => rfl)) pa_nil)))))))), ?_⟩
  obtain ⟨a, xs, rfl, ha, hl⟩ := ht
  have hlen := hl.len
  (try ctx_has vcx true_and ha hlen)
  refine len_rd (n := 4) k fun h0 k => ?_
  refine step_rd 1 hl (by omega) True.intro k fun H1 s1 hg1 k => ?_
  replace ha := s1 _ _ ha
  replace hl := TVs.keep (Same.keepT s1) l hl
  refine ⟨xs, ha, step_rd 2 hl (by omega) True.intro k fun H1 s1 hg2 k => ?_⟩
  replace ha := s1 _ _ ha
  replace hl := TVs.keep (Same.keepT s1) l hl
  exact ⟨xs, ha, last_rd 3 hl (by omega) True.intro k⟩
theorem ok_is_way   (T : Txt w K mg) (L : FnL K mg "is_way" s_is_way ["wish"]) (Fare_names : Fn P w K mg base "are_names" 5 ["thing"] (spB R0 namesT)) (Fare_steps : Fn P w K mg base "are_steps" 8 ["thing"] (spB R0 stepsT)) (Fare_ends : Fn P w K mg base "are_ends" 7 ["thing"] (spB R0 endsT)) : Fn P w K mg base "is_way" 9 ["wish"] (spFm R0 wayF) := by
  have nd := sc_is_way.nd
  refine L.ok sc_is_way (fun vs H Q E h => ?_) (fun f cdv A outer s H vs Q E hr h => ?_) <;> obtain ⟨v, l, rfl, ht, hR, k⟩ := h
  · rfl
  have hu := hu_of hr
  refine ⟨_, (pss_one (ps_ret (pe_and (pe_cmpR op_eq (pe_callB call_lenT rfl T.b_len PySem.boot_len (pa_cons (pvM 0) pa_nil)) pe_int (nomark _)) (pe_and (pe_callF Fare_names (hr.mono (by first | decide | omega)) rfl (pa_cons (pe_ix ix_T (pvM 0) pe_int (fun _ _ => rfl)) pa_nil)) (pe_and (pe_callF Fare_steps (hr.mono (by first | decide | omega)) rfl (pa_cons (pe_ix ix_T (pvM 0) pe_int (fun _ _ => rfl)) pa_nil)) (pe_one (pe_callF Fare_ends (hr.mono (by first | decide | omega)) rfl (pa_cons (pe_ix ix_T (pvM 0) pe_int (fun _ _ => rfl)) pa_nil)))))))), ?_⟩
  obtain ⟨a, xs, rfl, ha, hl⟩ := ht
  have hlen := hl.len
  (try ctx_has vcx true_and ha hlen)
  refine len_rd (n := 4) k fun h0 k => ?_
  refine step_rd 1 hl (by omega) True.intro k fun H1 s1 hg1 k => ?_
  replace ha := s1 _ _ ha
  replace hl := TVs.keep (Same.keepT s1) l hl
  refine ⟨xs, ha, step_rd 2 hl (by omega) True.intro k fun H1 s1 hg2 k => ?_⟩
  replace ha := s1 _ _ ha
  replace hl := TVs.keep (Same.keepT s1) l hl
  exact ⟨xs, ha, last_rd 3 hl (by omega) True.intro k⟩
noncomputable def sortV : Tr → V
  | .tup (.str s :: _) => .str s
  | _ => .non
noncomputable def spSort : Sp := fun vs H Q _ => ∃ (v : V) (t : Tr), vs = [v] ∧ TV H v t ∧ Q (sortV t) H
theorem ok_sort_of   (T : Txt w K mg) (L : FnL K mg "sort_of" s_sort_of ["thing"])  : Fn P w K mg base "sort_of" 1 ["thing"] (spSort) := by
  have nd := sc_sort_of.nd
  refine L.ok sc_sort_of (fun vs H Q E h => ?_) (fun f cdv A outer s H vs Q E hr h => ?_) <;> obtain ⟨v, t, rfl, ht, k⟩ := h
  · rfl
  have hu := hu_of hr
  refine ⟨_, (pss_cons (ps_if (PW.pt (pw_and (pt_val (pe_callB call_isB rfl T.b_isinstance (show bootBuiltins "isinstance" = some (.builtin "isinstance") by decide +kernel) (pa_cons (pvM 0) (pa_cons (pe_ty (T := "tuple") rfl T.b_tuple (by decide +kernel)) pa_nil)))) (pw_and (pt_cmpR op_gt (pe_callB call_lenT rfl T.b_len PySem.boot_len (pa_cons (pvM 0) pa_nil)) pe_int (nomark _)) (pw_and1 (pt_val (pe_callB call_isB rfl T.b_isinstance (show bootBuiltins "isinstance" = some (.builtin "isinstance") by decide +kernel) (pa_cons (pe_ix ix_T (pvM 0) pe_int (fun _ _ => rfl)) (pa_cons (pe_ty (T := "str") rfl T.b_str (by decide +kernel)) pa_nil)))))))) (pss_one (ps_ret (pe_ix ix_T (pvM 0) pe_int (fun _ _ => rfl)))) pss_nil)
    (pss_one (ps_ret pe_non))), ?_⟩
  cases t with
  | tup l =>
    obtain ⟨a, xs, rfl, ha, hl⟩ := ht
    have hlen := hl.len
    cases l with
    | nil =>
      have e : xs = [] := hl
      subst e
      (try ctx_has vcx true_and ha sortV)
      exact k
    | cons t l =>
      obtain ⟨x, ys, rfl, tx, hy⟩ := hl
      cases t with
      | str s =>
        obtain ⟨rfl, hs⟩ := tx
        (try ctx_has vcx true_and ha sortV)
        rw [if_pos (by omega)]
        exact k
      | int i =>
        cases (show x = _ from tx)
        (try ctx_has vcx true_and ha sortV)
        rw [if_pos (by omega)]
        exact k
      | bl i =>
        cases (show x = _ from tx)
        (try ctx_has vcx true_and ha sortV)
        rw [if_pos (by omega)]
        exact k
      | non =>
        cases (show x = _ from tx)
        (try ctx_has vcx true_and ha sortV)
        rw [if_pos (by omega)]
        exact k
      | tup m =>
        obtain ⟨b, us, rfl, hb, hu'⟩ := tx
        (try ctx_has vcx true_and ha hb sortV)
        rw [if_pos (by omega)]
        exact k
  | int i => cases (show v = _ from ht); (try ctx_has vcx true_and sortV); exact k
  | bl s => cases (show v = _ from ht); (try ctx_has vcx true_and sortV); exact k
  | non => cases (show v = _ from ht); (try ctx_has vcx true_and sortV); exact k
  | str s => obtain ⟨rfl, hs⟩ := ht; (try ctx_has vcx true_and sortV); exact k
noncomputable def qRow : Str := "are_rows.<locals>.is_row"
noncomputable def RT (pt : Addr) : Hp → Prop := fun H => H pt = some (.tab qRow)
theorem RT.same {pt : Addr} {H H' : Hp} (h : RT pt H) (s : Same H H') : RT pt H' := s _ _ h
noncomputable def RC (pt c : Addr) : Hp → Prop := fun H => ∃ oc, H c = some (.frz oc (.own pt)) ∧ CodeO oc qRow
theorem RC.same {pt c : Addr} {H H' : Hp} (h : RC pt c H) (s : Same H H') : RC pt c H' := let ⟨oc, a, b⟩ := h; ⟨oc, s _ _ a, b⟩
noncomputable def rowT (n : Int) : Tr → Bool := tupOf valT n n
noncomputable def rowsT (n : Int) (t : Tr) : Bool := tupOf (rowT n) 0 60 t && unX t
theorem row_key {n : Int} (t : Tr) (h : rowT n t = true) : ∃ ks : List Key, t = .tup (ks.map trK) := by
  obtain ⟨l, rfl, _, _, h3⟩ := tupOf_tup h
  obtain ⟨ks, rfl⟩ := all_key whole_key h3
  exact ⟨ks, rfl⟩
noncomputable def spRowsP (pt : Addr) : Sp := fun vs H Q _ => ∃ (v : V) (t : Tr) (n : Int), vs = [v, .int n] ∧ TV H v t ∧ RT pt H ∧ n ≤ 60 ∧ ∀ H', Same H H' → Q (.bl (rowsT n t)) H'
noncomputable def s_is_row : Stmt := (defBody s_are_rows).getD 0 (.Pass ⟨0, 0, 0, 0⟩)
noncomputable def spRow (pt g c' : Addr) : St → Sp := fun σ vs H Q E => ∃ n : Int, σ[1]? = some (some (.int n)) ∧ n ≤ 60 ∧ spTO g (RC pt c') (rowT n) vs H Q E
theorem ok_are_rows {P : Program} {w : World} {K : PySem.W.Frag} {mg : Str → Option Value} {base : Heap} {pt : Addr} (bm : BMain mg base) (T : Txt w K mg) (L : FnLT K mg "are_rows" s_are_rows ["thing", "length"] pt) (Fare_unlike : Fn P w K mg base "are_unlike" 1 ["things"] (spUn))
    (LT : FnL K mg "is_tuple_of" s_is_tuple_of ["thing", "is_one", "least", "most"]) (FV : ∀ B : Heap, K.In B → Fn P w K mg B "is_tuple_of" 6 ["thing", "is_one", "least", "most"] (spTO (clsAt mg "is_value") R0 valT)) (KB : K.In base) :
    Fn P w K mg base "are_rows" 12 ["thing", "length"] (spRowsP pt) := by
  have nd := sc_are_rows.nd
  refine L.ok sc_are_rows (fun vs H Q E h => ?_) (fun f c hc A outer s H vs Q E hr h => ?_)
  · obtain ⟨v, t, n, rfl, ht, hR, n1, k⟩ := h
    rfl
  · obtain ⟨v, t, n, rfl, ht, hR, n1, k⟩ := h
    have hu := hu_of hr
    refine ⟨_, pss_defn (i := 2) (pt := pt) (q := qRow) (clos := [("length", s.heap.objs.size + 1)]) nd rfl (.inl rfl) rfl rfl hc bm rfl (fun g c' doc pm ctv => pss_one (ps_ret (pe_and (pe_callWF (ps := ["thing", "is_one", "least", "most"]) (sp := spRow pt g c') (k := 10) (FV base KB) (hr.mono (by decide)) rfl
      (fun B pins σ H1 s1 vs1 Q1 I M hB hsp => ?_) (pa_cons (pvM 0) (pa_cons (pvM 2) (pa_cons pe_int (pa_cons (pe_cI T.c_MOST_ROWS rfl) pa_nil))))) (pe_callF Fare_unlike (hr.mono (by decide)) rfl (pa_cons (pvM 0) pa_nil))))), ?_⟩
    · obtain ⟨n, hσ, hn, hsp⟩ := hsp
      have hf := pin_wide I hB
      obtain ⟨u, ru, hcell⟩ := cell_wide (i := 1) (y := "length") I hB rfl hσ rfl rfl rfl
      have FH : FnOk P w K mg B CX0 7 g (PySem.W.fnX "is_row" qRow (defArgs s_is_row) (defBody s_is_row) (defScope s_is_row) [("length", s.heap.objs.size + 1)] .none .none doc pm none (.ref c') ctv) ["one"] (spB (RC pt c') (rowT n)) := by
        refine clo_ok (oc := fun _ _ => True) (k := 6) ⟨rfl, rfl, rfl, rfl, rfl, by decide +kernel, by decide +kernel⟩ hf hcell ru (fun vs H Q E h => ?_) (fun vs H Q E h => ?_) (fun A outer s H v0 Q E hr h => ?_)
        · obtain ⟨v, t, rfl, _⟩ := h
          rfl
        · obtain ⟨v, t, rfl, _, ⟨oc, h1, h2⟩, _⟩ := h
          exact ⟨oc, _, h1, h2⟩
        · obtain ⟨v, t, e, tv, _, k⟩ := h
          refine ⟨_, pss_one (ps_ret (pe_callF (FV B M.kin) (hr.mono (by decide)) rfl (pa_cons (pvM 0) (pa_cons (pe_glob (v := .ref (clsAt mg "is_value")) rfl T.at_is_value rfl) (pa_cons (pvM 1) (pa_cons (pvM 1) pa_nil)))))), ?_⟩
          cases e
          (try ctx_has vcx true_and)
          exact ⟨_, t, _, _, rfl, tv, True.intro, by omega, k⟩
      exact ⟨_, hsp, ok_is_tuple_of (fun _ _ s h => h.same s) ⟨_, _, _, _, hf⟩ (Binds.all fun us hl => match us, hl with | [_], _ => rfl) FH T LT⟩
    · refine ⟨hR, fun g c' oc H1 s1 hg hc' ho => ?_⟩
      (try ctx_has vcx true_and tCallW)
      refine ⟨n, rfl, n1, v, t, _, _, rfl, TV.keep (Same.keepT s1) t ht, ⟨oc, hc', ho⟩, by decide, fun H2 s2 => ?_⟩
      cases hb : tupOf (rowT n) 0 60 t with
      | false =>
        (try ctx_has vcx true_and Bool.false_eq_true if_false)
        have := k H2 (s1.trans s2)
        simp only [rowsT, hb, Bool.false_and] at this
        exact this
      | true =>
        (try ctx_has vcx true_and if_true)
        refine un_row row_key (TV.keep (Same.keepT (s1.trans s2)) t ht) hb (by decide) fun H3 s3 => ?_
        have := k H3 ((s1.trans s2).trans s3)
        simp only [rowsT, hb, Bool.true_and] at this
        exact this
noncomputable def IsTerm (H : Hp) (x : V) (nm : Str) : Prop := ∃ p c, x = .ref p ∧ H p = some (.tup [.int c, .str nm])
noncomputable def Plain (H : Hp) (v : V) (cells : List Str) : Prop := ∃ p, v = .ref p ∧
  ((∃ (s : Str) (t : Addr) (rest : List V), (s = "unlike" ∨ s = "table" ∨ s = "way" ∨ s = "behind") ∧ H p = some (.tup (.str s :: .ref t :: rest)) ∧ H t = some (.tup (cells.map V.str))) ∨
   (∃ (x : V) (t : Addr) (rest : List V), H p = some (.tup (.str "many" :: x :: .ref t :: rest)) ∧ H t = some (.tup (cells.map V.str))) ∨
   (∃ (t : Addr) (rest ts : List V), H p = some (.tup (.str "sum" :: .ref t :: rest)) ∧ H t = some (.tup ts) ∧ ts.length = cells.length ∧ ∀ (i : Nat) x, ts[i]? = some x → ∃ nm, cells[i]? = some nm ∧ IsTerm H x nm))
theorem IsTerm.keep {H H' : Hp} {x : V} {nm : Str} (k : KeepT H H') (h : IsTerm H x nm) : IsTerm H' x nm := by
  obtain ⟨p, c, rfl, h⟩ := h
  exact ⟨p, c, rfl, k _ _ h⟩
theorem Plain.keep {H H' : Hp} {v : V} {cells : List Str} (k : KeepT H H') (h : Plain H v cells) : Plain H' v cells := by
  obtain ⟨p, rfl, h⟩ := h
  refine ⟨p, rfl, ?_⟩
  rcases h with ⟨s, t, rest, hs, h1, h2⟩ | ⟨x, t, rest, h1, h2⟩ | ⟨t, rest, ts, h1, h2, h3, h4⟩
  · exact .inl ⟨s, t, rest, hs, k _ _ h1, k _ _ h2⟩
  · exact .inr (.inl ⟨x, t, rest, k _ _ h1, k _ _ h2⟩)
  · exact .inr (.inr ⟨t, rest, ts, k _ _ h1, k _ _ h2, h3, fun i x e => by obtain ⟨nm, a, b⟩ := h4 i x e; exact ⟨nm, a, b.keep k⟩⟩)
noncomputable def WishAt (H : Hp) (v : V) (cells : List Str) : Prop := Plain H v cells ∨ ∃ (p : Addr) (own : Str) (x inner : V) (cs : List Str), v = .ref p ∧ H p = some (.tup [.str "same", .str own, x, inner]) ∧ Plain H inner cs ∧ cells = own :: cs
noncomputable def spPlainC : Sp := fun vs H Q _ => ∃ (v : V) (cells : List Str), vs = [v] ∧ Plain H v cells ∧ cells.length ≤ 15 ∧ ∀ (p : Addr) (H' : Hp), H' p = some (.tup (cells.map V.str)) → Same H H' → Q (.ref p) H'
noncomputable def spCells : Sp := fun vs H Q _ => ∃ (v : V) (cells : List Str), vs = [v] ∧ WishAt H v cells ∧ cells.length ≤ 15 ∧ ∀ (p : Addr) (H' : Hp), H' p = some (.tup (cells.map V.str)) → Same H H' → Q (.ref p) H'
noncomputable def tableF (l : List Tr) : Bool := decide (l.length = 3) && (namesT (l.getD 1 .non) && rowsT ((itT (l.getD 1 .non)).length : Int) (l.getD 2 .non))
theorem names_tree {n : Tr} (h : namesT n = true) : ∃ ws : List Str, n = .tup (ws.map Tr.str) ∧ 1 ≤ ws.length ∧ ws.length ≤ 12 ∧ ws.Nodup ∧ ∀ w ∈ ws, nmB w = true := by
  unfold namesT at h
  rw [Bool.and_eq_true] at h
  obtain ⟨l, rfl, h1, h2, h3⟩ := tupOf_tup h.1
  have all : ∀ {l : List Tr}, l.all nameT = true → ∃ ws : List Str, l = ws.map Tr.str ∧ ∀ w ∈ ws, nmB w = true := by
    intro l
    induction l with
    | nil => exact fun _ => ⟨[], rfl, by simp⟩
    | cons t l ih =>
      intro h
      rw [List.all_cons, Bool.and_eq_true] at h
      obtain ⟨ws, rfl, hw⟩ := ih h.2
      cases t with
      | str s => exact ⟨s :: ws, rfl, fun w hw' => (List.mem_cons.mp hw').elim (fun e => by rw [e]; exact h.1) (hw w)⟩
      | _ => cases h.1
  obtain ⟨ws, rfl, hw⟩ := all h3
  rw [List.length_map] at h1 h2
  have := of_dec (show dec (ws.map Tr.str).Nodup = true from h.2)
  rw [nodup_inj fun a b e => by injection e] at this
  exact ⟨ws, rfl, by omega, by omega, this, hw⟩
theorem tv_strs {H : Hp} : ∀ {ws : List Str} {xs : List V}, TVs H xs (ws.map Tr.str) → xs = ws.map V.str
  | [], _, h => h
  | w :: ws, _, h => by
    obtain ⟨y, zs, rfl, a, b⟩ := h
    rw [a.1, tv_strs b]; rfl
theorem names_at {H : Hp} {v : V} {n : Tr} (tv : TV H v n) (h : namesT n = true) : ∃ (ws : List Str) (a : Addr), v = .ref a ∧ H a = some (.tup (ws.map V.str)) ∧ n = .tup (ws.map Tr.str) ∧ 1 ≤ ws.length ∧ ws.length ≤ 12 := by
  obtain ⟨ws, rfl, h1, h2, _⟩ := names_tree h
  obtain ⟨a, xs, rfl, ha, hx⟩ := tv
  rw [tv_strs hx] at ha
  exact ⟨ws, a, rfl, ha, rfl, h1, h2⟩
theorem ok_is_table  {pt : Addr} (T : Txt w K mg) (L : FnL K mg "is_table" s_is_table ["wish"]) (Fare_names : Fn P w K mg base "are_names" 5 ["thing"] (spB R0 namesT)) (Fare_rows : Fn P w K mg base "are_rows" 12 ["thing", "length"] (spRowsP pt)) : Fn P w K mg base "is_table" 13 ["wish"] (spFm (RT pt) tableF) := by
  have nd := sc_is_table.nd
  refine L.ok sc_is_table (fun vs H Q E h => ?_) (fun f cdv A outer s H vs Q E hr h => ?_) <;> obtain ⟨v, l, rfl, ht, hR, k⟩ := h
  · rfl
  have hu := hu_of hr
  refine ⟨_, (pss_one (ps_ret (pe_and (pe_cmpR op_eq (pe_callB call_lenT rfl T.b_len PySem.boot_len (pa_cons (pvM 0) pa_nil)) pe_int (nomark _)) (pe_and (pe_callF Fare_names (hr.mono (by first | decide | omega)) rfl (pa_cons (pe_ix ix_T (pvM 0) pe_int (fun _ _ => rfl)) pa_nil)) (pe_one (pe_callF Fare_rows (hr.mono (by first | decide | omega)) rfl (pa_cons (pe_ix ix_T (pvM 0) pe_int (fun _ _ => rfl)) (pa_cons (pe_callB call_lenT rfl T.b_len PySem.boot_len (pa_cons (pe_ix ix_T (pvM 0) pe_int (fun _ _ => rfl)) pa_nil)) pa_nil)))))))), ?_⟩
  obtain ⟨a, xs, rfl, ha, hl⟩ := ht
  have hlen := hl.len
  (try ctx_has vcx true_and ha hlen)
  refine len_rd (n := 3) k fun h0 k => ?_
  refine step_rd 1 hl (by omega) True.intro k fun H1 s1 hg1 k => ?_
  replace ha := s1 _ _ ha
  replace hl := TVs.keep (Same.keepT s1) l hl
  replace hR := hR.same s1
  obtain ⟨y, e1, t1⟩ := tv_at hl 1 (by omega)
  obtain ⟨x, e2, t2⟩ := tv_at hl 2 (by omega)
  obtain ⟨ws, b, rfl, hb, en, n1, n2⟩ := names_at t1 hg1
  rw [en] at k
  refine ⟨xs, ha, x, e2, xs, ha, _, e1, _, rfl, _, hb, ?_⟩
  refine ⟨x, _, _, rfl, t2, hR, by rw [List.length_map]; omega, fun H2 s2 => ?_⟩
  have := k H2 s2
  simp only [itT, List.length_map] at this
  rw [List.length_map]
  exact this
theorem ok_plain_cells_of   (T : Txt w K mg) (L : FnL K mg "plain_cells_of" s_plain_cells_of ["wish"])  : Fn P w K mg base "plain_cells_of" 1 ["wish"] (spPlainC) := by
  have nd := sc_plain_cells_of.nd
  refine L.ok sc_plain_cells_of (fun vs H Q E h => ?_) (fun f cdv A outer s H vs Q E hr h => ?_) <;> obtain ⟨v, cells, rfl, hp, hl, k⟩ := h
  · rfl
  have hu := hu_of hr
  refine ⟨_, (pss_cons (ps_if (pt_cmpR op_eq (pe_ix ix_T (pvM 0) pe_int (fun _ _ => rfl)) pe_str (nomark _)) (pss_one (ps_ret (pe_callTy call_tupL rfl T.b_tuple (show bootBuiltins "tuple" = some (.type "tuple") by decide +kernel) (pa_cons (pe_comp (N := ["term"]) (nt := 1) (js := []) rfl (compOk_of ["wish"] (defScope s_plain_cells_of).names rfl rfl rfl (by decide +kernel)) (pi_TK (K := K) rfl (pe_ix ix_T (pvM 0) pe_int (fun _ _ => rfl))) (fun _ _ _ _ _ _ => (pg_name (i := 0) (show List.Nodup [("term" : Str)] by decide +kernel) rfl (Or.inl rfl))) (tgOk_name (by decide)) (fun _ _ _ _ _ _ => pts_nil) (fun _ _ _ _ _ _ => (pe_ix ix_T (pvM 0) pe_int (fun _ _ => rfl)))) pa_nil)))) pss_nil)
    (pss_cons (ps_if (pt_cmpR op_eq (pe_ix ix_T (pvM 0) pe_int (fun _ _ => rfl)) pe_str (nomark _)) (pss_one (ps_ret (pe_ix ix_T (pvM 0) pe_int (fun _ _ => rfl)))) pss_nil)
    (pss_one (ps_ret (pe_ix ix_T (pvM 0) pe_int (fun _ _ => rfl)))))), ?_⟩
  obtain ⟨p, rfl, ⟨s', t, rest, hs, h1, h2⟩ | ⟨x, t, rest, h1, h2⟩ | ⟨t, rest, ts, h1, h2, h3, h4⟩⟩ := hp
  · rcases hs with rfl | rfl | rfl | rfl
    all_goals
      (try ctx_has vcx true_and h1)
      exact k t H h2 (Same.refl _)
  · (try ctx_has vcx true_and h1)
    exact k t H h2 (Same.refl _)
  · (try ctx_has vcx true_and h1 h2)
    intro q hq
    refine comp_g wlk_tup (fun i ys H' => ys = (cells.take i).map V.str ∧ H' q = some (.lst ys) ∧ Same H H')
      ⟨by simp, upd_same, Same.upd0 hq⟩ (fun i ys H' zq38 => by obtain ⟨_, _, sm⟩ := zq38; exact (.of (sm _ _ h2))) ?_ ?_
    · rintro i x ys H' hi hx ⟨rfl, h5, sm⟩
      obtain ⟨nm, hnm, g, c, rfl, hg⟩ := h4 i x hx
      have hg' := sm _ _ hg
      (try ctx_has vcx true_and hg')
      refine ⟨h5, by simp; exact small1000 (by omega), ?_, upd_same, ?_⟩
      · rw [List.take_add_one, hnm]; simp
      · exact fun b o e => by rw [upd_ne (ne_of_none e hq)]; exact sm b o e
    · rintro ys H' ⟨rfl, h5, sm⟩
      rw [h3, List.take_length] at h5
      (try ctx_has vcx true_and h5)
      exact fun u hu1 => k u _ upd_same (sm.upd_new hu1)
theorem ok_cells_of   (T : Txt w K mg) (L : FnL K mg "cells_of" s_cells_of ["wish"]) (Fplain_cells_of : Fn P w K mg base "plain_cells_of" 1 ["wish"] (spPlainC)) : Fn P w K mg base "cells_of" 2 ["wish"] (spCells) := by
  have nd := sc_cells_of.nd
  refine L.ok sc_cells_of (fun vs H Q E h => ?_) (fun f cdv A outer s H vs Q E hr h => ?_) <;> obtain ⟨v, cells, rfl, hp, hl, k⟩ := h
  · rfl
  have hu := hu_of hr
  refine ⟨_, (pss_cons (ps_set (i := 1) nd rfl (by first | exact Or.inl rfl | exact Or.inr rfl) (pe_lst pa_nil))
    (pss_cons (ps_set (i := 2) nd rfl (by first | exact Or.inl rfl | exact Or.inr rfl) (pvM 0))
    (pss_cons (ps_while PassesOwn.never (pt_cmpR op_eq (pe_ix ix_T (pvM 2) pe_int (fun _ _ => rfl)) pe_str (nomark _)) (pss_cons (ps_expr (pe_mL PySem.F.slot_list_append PySem.F.type_list_append ml_append (pvM 1) (pa_cons (pe_ix ix_T (pvM 2) pe_int (fun _ _ => rfl)) pa_nil)))
    (pss_one (ps_set (i := 2) nd rfl (by first | exact Or.inl rfl | exact Or.inr rfl) (pe_ix ix_T (pvM 2) pe_int (fun _ _ => rfl))))))
    (pss_one (ps_ret (pe_op op_catTs (pe_callTy call_tupL rfl T.b_tuple (show bootBuiltins "tuple" = some (.type "tuple") by decide +kernel) (pa_cons (pvM 1) pa_nil)) (pe_callF Fplain_cells_of (hr.mono (by first | decide | omega)) rfl (pa_cons (pvM 2) pa_nil)))))))), ?_⟩
  (try ctx_has vcx true_and)
  refine ⟨by decide, fun g hg => ?_⟩
  refine while_rd (fun μ σ H' => ∃ (ow cs' : List Str) (w : V), σ = [some v, some (.ref g), some w] ∧ H' g = some (.lst (ow.map V.str)) ∧ Same H H' ∧ cells = ow ++ cs' ∧ ((μ = 0 ∧ Plain H w cs') ∨ (μ = 1 ∧ ∃ (p : Addr) (own : Str) (x inner : V) (cs : List Str), w = .ref p ∧ H p = some (.tup [.str "same", .str own, x, inner]) ∧ Plain H inner cs ∧ cs' = own :: cs)))
    (fun σ H' => ∃ (ow cs' : List Str) (w : V), σ = [some v, some (.ref g), some w] ∧ H' g = some (.lst (ow.map V.str)) ∧ Same H H' ∧ cells = ow ++ cs' ∧ Plain H w cs') ?_ ?_ ?_
  · rcases hp with hp | ⟨p, own, x, inner, cs, rfl, h1, h2, rfl⟩
    · exact ⟨0, [], cells, v, rfl, upd_same, Same.upd0 hg, rfl, .inl ⟨rfl, hp⟩⟩
    · exact ⟨1, [], _, _, rfl, upd_same, Same.upd0 hg, rfl, .inr ⟨rfl, p, own, x, inner, cs, rfl, h1, h2, rfl⟩⟩
  · rintro R hR μ σ H1 ⟨ow, cs', w', rfl, h1, sm, rfl, ⟨rfl, hp1⟩ | ⟨rfl, p, own, x, inner, cs, rfl, hp1, hp2, rfl⟩⟩
    · have hr := hR _ _ ⟨ow, cs', w', rfl, h1, sm, rfl, hp1⟩
      obtain ⟨p, rfl, ⟨s', t, rest, hs, h2, h3⟩ | ⟨x, t, rest, h2, h3⟩ | ⟨t, rest, ts, h2, h3, h4, h5⟩⟩ := hp1
      · have h2' := sm _ _ h2
        rcases hs with rfl | rfl | rfl | rfl
        all_goals
          (try ctx_has vcx true_and h2')
          exact hr
      · have h2' := sm _ _ h2
        (try ctx_has vcx true_and h2')
        exact hr
      · have h2' := sm _ _ h2
        (try ctx_has vcx true_and h2')
        exact hr
    · have h2' := sm _ _ hp1
      (try ctx_has vcx true_and h2' h1)
      refine ⟨fun σ' H' => σ' = [some v, some (.ref g), some inner] ∧ H' = upd H1 g (.lst ((ow ++ [own]).map V.str)), ?_, ?_⟩
      · rintro _ _ ⟨rfl, rfl⟩
        exact ⟨0, Nat.zero_lt_one, ow ++ [own], cs, inner, rfl, upd_same, fun b o e => by rw [upd_ne (ne_of_none e hg)]; exact sm b o e, by simp, .inl ⟨rfl, hp2⟩⟩
      · refine ⟨by simp at hl ⊢; exact small1000 (by omega), _, by rw [upd_ne (ne_of h2' h1 (by intro z; cases z))]; exact h2', ?_⟩
        (try ctx_has vcx true_and)
        simp
  · rintro σ H1 ⟨ow, cs', w', rfl, h1, sm, rfl, hp1⟩
    (try ctx_has vcx true_and h1)
    intro u hu1
    have s1 := sm.upd_new (o := .tup (ow.map V.str)) hu1
    refine ⟨w', cs', rfl, hp1.keep (Same.keepT s1), by simp at hl; omega, fun q H2 hq sm2 => ?_⟩
    refine ⟨q, rfl, _, sm2 _ _ upd_same, _, hq, Nat.le_of_lt (small1000 (by simp at hl ⊢; omega)), fun y H3 hy sm3 => ?_⟩
    exact k y H3 (by rw [hy]; simp) ((s1.trans sm2).trans sm3)
noncomputable def six : List Str := ["unlike", "many", "sum", "table", "way", "behind"]
noncomputable def formF (s : Str) (l : List Tr) : Bool := if s = "unlike" then unlikeF l else if s = "many" then manyF l else if s = "sum" then sumF l else if s = "table" then tableF l else if s = "way" then wayF l else if s = "behind" then behindF l else false
theorem form_cases {s : Str} {l : List Tr} (h : formF s l = true) : (s = "unlike" ∧ unlikeF l = true) ∨ (s = "many" ∧ manyF l = true) ∨ (s = "sum" ∧ sumF l = true) ∨ (s = "table" ∧ tableF l = true) ∨ (s = "way" ∧ wayF l = true) ∨ (s = "behind" ∧ behindF l = true) := by
  unfold formF at h
  by_cases h1 : s = "unlike"
  · rw [if_pos h1] at h; exact .inl ⟨h1, h⟩
  rw [if_neg h1] at h
  by_cases h2 : s = "many"
  · rw [if_pos h2] at h; exact .inr (.inl ⟨h2, h⟩)
  rw [if_neg h2] at h
  by_cases h3 : s = "sum"
  · rw [if_pos h3] at h; exact .inr (.inr (.inl ⟨h3, h⟩))
  rw [if_neg h3] at h
  by_cases h4 : s = "table"
  · rw [if_pos h4] at h; exact .inr (.inr (.inr (.inl ⟨h4, h⟩)))
  rw [if_neg h4] at h
  by_cases h5 : s = "way"
  · rw [if_pos h5] at h; exact .inr (.inr (.inr (.inr (.inl ⟨h5, h⟩))))
  rw [if_neg h5] at h
  by_cases h6 : s = "behind"
  · rw [if_pos h6] at h; exact .inr (.inr (.inr (.inr (.inr ⟨h6, h⟩))))
  rw [if_neg h6] at h
  cases h
theorem form_not {s : Str} {l : List Tr} (h : s ∉ six) : formF s l = false := by
  cases e : formF s l with
  | false => rfl
  | true => rcases form_cases e with ⟨rfl, _⟩ | ⟨rfl, _⟩ | ⟨rfl, _⟩ | ⟨rfl, _⟩ | ⟨rfl, _⟩ | ⟨rfl, _⟩ <;> exact absurd (by simp [six]) h
noncomputable def plainT : Tr → Bool
  | .tup (.str s :: l) => formF s (.str s :: l)
  | _ => false
noncomputable def strT : Tr → Option Str
  | .str s => some s
  | _ => none
noncomputable def strsT (l : List Tr) : List Str := l.filterMap strT
theorem strsT_map : ∀ ws : List Str, strsT (ws.map Tr.str) = ws
  | [] => rfl
  | w :: ws => by
    show w :: strsT (ws.map Tr.str) = w :: ws
    rw [strsT_map ws]
noncomputable def cellsS : Tr → List Str
  | .tup (.str s :: l) => if s = "sum" then strsT ((itT (l.getD 0 .non)).map fun t => (itT t).getD 1 .non) else if s = "many" then strsT (itT (l.getD 1 .non)) else strsT (itT (l.getD 0 .non))
  | _ => []
theorem plain_tree {t : Tr} (h : plainT t = true) : ∃ s l, t = .tup (.str s :: l) ∧ formF s (.str s :: l) = true := by
  unfold plainT at h
  split at h
  · exact ⟨_, _, rfl, h⟩
  · cases h
theorem terms_at {H : Hp} {v : V} {t : Tr} (tv : TV H v t) (h : termsT t = true) : ∃ (a : Addr) (ts : List V) (cs : List Str), v = .ref a ∧ H a = some (.tup ts) ∧ ts.length = cs.length ∧ cs.length ≤ 6 ∧ cs = strsT ((itT t).map fun t => (itT t).getD 1 .non) ∧ ∀ (i : Nat) x, ts[i]? = some x → ∃ nm, cs[i]? = some nm ∧ IsTerm H x nm := by
  unfold termsT at h
  rw [Bool.and_eq_true] at h
  obtain ⟨l, rfl, h1, h2, h3⟩ := tupOf_tup h.1
  obtain ⟨a, xs, rfl, ha, hx⟩ := tv
  have key : ∀ {l : List Tr} {xs : List V}, TVs H xs l → l.all termT = true → ∃ cs : List Str, l.map (fun t => (itT t).getD 1 .non) = cs.map Tr.str ∧ ∀ (i : Nat) x, xs[i]? = some x → ∃ nm, cs[i]? = some nm ∧ IsTerm H x nm := by
    intro l
    induction l with
    | nil => exact fun hx _ => ⟨[], rfl, fun i x e => by rw [show _ = [] from hx] at e; simp at e⟩
    | cons t l ih =>
      intro xs hx h
      obtain ⟨y, ys, rfl, ty, hy⟩ := hx
      rw [List.all_cons, Bool.and_eq_true] at h
      obtain ⟨cs, e, hc⟩ := ih hy h.2
      obtain ⟨m, rfl, hm, hn⟩ := term_at h.1
      match m, hm, hn with
      | [p, q], _, hn =>
        have hp : valT p = true := by
          have := h.1
          simp only [termT, Bool.and_eq_true] at this
          exact this.2.1
        cases q with
        | str nm =>
          cases p with
          | int c =>
            obtain ⟨b, us, rfl, hb, hu⟩ := ty
            have eu : us = [V.int c, V.str nm] := tvsK (ks := [.inl c, .inr nm]) hu
            subst eu
            refine ⟨nm :: cs, by rw [List.map_cons, e]; rfl, fun i x ex => ?_⟩
            cases i with
            | zero => simp at ex; subst ex; exact ⟨nm, rfl, b, c, rfl, hb⟩
            | succ i => simpa using hc i x (by simpa using ex)
          | _ => cases hp
        | _ => cases hn
  obtain ⟨cs, e, hc⟩ := key hx h3
  have hl : l.length = cs.length := by have := congrArg List.length e; simpa using this
  refine ⟨a, xs, cs, rfl, ha, by rw [hx.len, hl], by omega, ?_, hc⟩
  show cs = strsT (l.map fun t => (itT t).getD 1 .non)
  rw [e, strsT_map]
theorem plain_at {H : Hp} {v : V} {t : Tr} (tv : TV H v t) (h : plainT t = true) : Plain H v (cellsS t) ∧ (cellsS t).length ≤ 12 := by
  obtain ⟨s, l, rfl, hf⟩ := plain_tree h
  obtain ⟨a, xs, rfl, ha, y, ys, rfl, ⟨rfl, _⟩, hy⟩ := tv
  have four : ∀ {rest : List Tr}, (s = "unlike" ∨ s = "table" ∨ s = "way" ∨ s = "behind") → namesT (l.getD 0 .non) = true → 0 < l.length → cellsS (.tup (.str s :: l)) = strsT (itT (l.getD 0 .non)) → Plain H (.ref a) (cellsS (.tup (.str s :: l))) ∧ (cellsS (.tup (.str s :: l))).length ≤ 12 := by
    intro _ hs hn hl hc
    match l, hl, hn, hy, hc with
    | n :: l, _, hn, hy, hc =>
      obtain ⟨x, us, rfl, tx, hu⟩ := hy
      obtain ⟨ws, b, rfl, hb, en, n1, n2⟩ := names_at tx hn
      have e : strsT (itT ((n :: l).getD 0 .non)) = ws := by
        show strsT (itT n) = ws
        rw [en]; exact strsT_map ws
      rw [hc, e]
      exact ⟨⟨a, rfl, .inl ⟨s, b, us, hs, ha, hb⟩⟩, n2⟩
  rcases form_cases hf with ⟨rfl, h⟩ | ⟨rfl, h⟩ | ⟨rfl, h⟩ | ⟨rfl, h⟩ | ⟨rfl, h⟩ | ⟨rfl, h⟩
  · simp only [unlikeF, Bool.and_eq_true, decide_eq_true_eq, List.length_cons] at h
    exact four (rest := []) (.inl rfl) h.2 (by omega) rfl
  · simp only [manyF, Bool.and_eq_true, decide_eq_true_eq, List.length_cons] at h
    match l, h, hy with
    | [n1, n2, n3, n4], h, hy =>
      obtain ⟨x1, u1, rfl, t1, x2, u2, rfl, t2, hu⟩ := hy
      obtain ⟨ws, b, rfl, hb, en, _, m2⟩ := names_at t2 h.2.2.1
      have e : cellsS (.tup [.str "many", n1, n2, n3, n4]) = ws := by
        show strsT (itT n2) = ws
        rw [en]; exact strsT_map ws
      rw [e]
      exact ⟨⟨a, rfl, .inr (.inl ⟨x1, b, u2, ha, hb⟩)⟩, m2⟩
  · simp only [sumF, Bool.and_eq_true, decide_eq_true_eq, List.length_cons] at h
    match l, h, hy with
    | [n1, n2, n3], h, hy =>
      obtain ⟨x1, u1, rfl, t1, hu⟩ := hy
      obtain ⟨b, ts, cs, rfl, hb, hl1, hl2, e, ht⟩ := terms_at t1 h.2.1
      have e2 : cellsS (.tup [.str "sum", n1, n2, n3]) = cs := e.symm
      rw [e2]
      exact ⟨⟨a, rfl, .inr (.inr ⟨b, u1, ts, ha, hb, hl1, ht⟩)⟩, by omega⟩
  · simp only [tableF, Bool.and_eq_true, decide_eq_true_eq, List.length_cons] at h
    exact four (rest := []) (.inr (.inl rfl)) h.2.1 (by omega) rfl
  · simp only [wayF, Bool.and_eq_true, decide_eq_true_eq, List.length_cons] at h
    exact four (rest := []) (.inr (.inr (.inl rfl))) h.2.1 (by omega) rfl
  · simp only [behindF, Bool.and_eq_true, decide_eq_true_eq, List.length_cons] at h
    exact four (rest := []) (.inr (.inr (.inr rfl))) h.2.1 (by omega) rfl
noncomputable def sameF (l : List Tr) : Bool := decide (l.length = 4) && (nameT (l.getD 1 .non) && (valuesT (l.getD 2 .non) && (plainT (l.getD 3 .non) && !(dec (l.getD 1 .non ∈ (cellsS (l.getD 3 .non)).map Tr.str)))))
noncomputable def wishT : Tr → Bool
  | .tup (.str s :: l) => if s = "same" then sameF (.str s :: l) else formF s (.str s :: l)
  | _ => false
theorem sort_cases : ∀ t : Tr, (∃ s l, t = .tup (.str s :: l)) ∨ (sortV t = .non ∧ wishT t = false ∧ plainT t = false)
  | .tup (.str s :: l) => .inl ⟨s, l, rfl⟩
  | .tup [] => .inr ⟨rfl, rfl, rfl⟩
  | .tup (.non :: _) => .inr ⟨rfl, rfl, rfl⟩
  | .tup (.bl _ :: _) => .inr ⟨rfl, rfl, rfl⟩
  | .tup (.int _ :: _) => .inr ⟨rfl, rfl, rfl⟩
  | .tup (.tup _ :: _) => .inr ⟨rfl, rfl, rfl⟩
  | .non => .inr ⟨rfl, rfl, rfl⟩
  | .bl _ => .inr ⟨rfl, rfl, rfl⟩
  | .int _ => .inr ⟨rfl, rfl, rfl⟩
  | .str _ => .inr ⟨rfl, rfl, rfl⟩
theorem ok_is_plain_wish  {pt : Addr} (TN : TabN w K (clsAt mg "PLAIN_FORMS") six) (HS : (clsAt mg "PLAIN_FORMS" == sysModules) = false) (FT_PLAIN_FORMS : ∀ y ∈ six, FnT P w K mg base (clsAt mg "PLAIN_FORMS") y 13 ["wish"] (spFm (RT pt) (formF y))) (T : Txt w K mg) (L : FnL K mg "is_plain_wish" s_is_plain_wish ["thing"]) (Fsort_of : Fn P w K mg base "sort_of" 1 ["thing"] (spSort)) : Fn P w K mg base "is_plain_wish" 14 ["thing"] (spB (RT pt) plainT) := by
  have nd := sc_is_plain_wish.nd
  refine L.ok sc_is_plain_wish (fun vs H Q E h => ?_) (fun f cdv A outer s H vs Q E hr h => ?_) <;> obtain ⟨v, t, rfl, ht, hR, k⟩ := h
  · rfl
  have hu := hu_of hr
  refine ⟨_, (pss_cons (ps_set (i := 1) nd rfl (by first | exact Or.inl rfl | exact Or.inr rfl) (pe_callF Fsort_of (hr.mono (by first | decide | omega)) rfl (pa_cons (pvM 0) pa_nil)))
    (pss_one (ps_ret (pe_and (pe_cmpR (op_inTab TN HS) (pvM 1) (pe_glob (v := .ref (clsAt mg "PLAIN_FORMS")) rfl T.at_PLAIN_FORMS rfl) (by with_unfolding_all rfl)) (pe_one (pe_callT T.tb_PLAIN_FORMS FT_PLAIN_FORMS (hr.mono (by first | decide | omega)) rfl T.at_PLAIN_FORMS (pvM 1) (pa_cons (pvM 0) pa_nil) (fun _ _ => rfl))))))), ?_⟩
  (try ctx_has vcx true_and)
  refine ⟨v, t, rfl, ht, ?_⟩
  rcases sort_cases t with ⟨s, l, rfl⟩ | ⟨e, _, ep⟩
  · (try ctx_has vcx true_and sortV)
    refine ⟨rfl, .inr ⟨s, rfl, ?_⟩⟩
    cases hb : six.any fun y => decide (y = s) with
    | false =>
      (try ctx_has vcx true_and Bool.false_eq_true if_false)
      have hs : s ∉ six := fun z => by
        have := List.any_eq_false.mp hb s z
        simp at this
      have := k H (Same.refl _)
      rw [show plainT (.tup (.str s :: l)) = formF s (.str s :: l) from rfl, form_not hs] at this
      exact this
    | true =>
      obtain ⟨y, hy, ey⟩ := List.any_eq_true.mp hb
      have ey : y = s := of_decide_eq_true ey
      subst ey
      (try ctx_has vcx true_and if_true tCallT)
      exact ⟨hy, v, _, rfl, ht, hR, k⟩
  · rw [e]
    (try ctx_has vcx true_and)
    refine ⟨rfl, .inl ⟨rfl, ?_⟩⟩
    (try ctx_has vcx true_and Bool.false_eq_true if_false)
    have := k H (Same.refl _)
    rw [ep] at this
    exact this
theorem ok_is_same  {pt : Addr} (T : Txt w K mg) (L : FnL K mg "is_same" s_is_same ["wish"]) (Fis_name : Fn P w K mg base "is_name" 1 ["thing"] (spB R0 nameT)) (Fare_values : Fn P w K mg base "are_values" 7 ["thing"] (spB R0 valuesT)) (Fis_plain_wish : Fn P w K mg base "is_plain_wish" 14 ["thing"] (spB (RT pt) plainT)) (Fcells_of : Fn P w K mg base "cells_of" 2 ["wish"] (spCells)) : Fn P w K mg base "is_same" 15 ["wish"] (spFm (RT pt) sameF) := by
  have nd := sc_is_same.nd
  refine L.ok sc_is_same (fun vs H Q E h => ?_) (fun f cdv A outer s H vs Q E hr h => ?_) <;> obtain ⟨v, l, rfl, ht, hR, k⟩ := h
  · rfl
  have hu := hu_of hr
  refine ⟨_, (pss_one (ps_ret (pe_and (pe_cmpR op_eq (pe_callB call_lenT rfl T.b_len PySem.boot_len (pa_cons (pvM 0) pa_nil)) pe_int (nomark _)) (pe_and (pe_callF Fis_name (hr.mono (by first | decide | omega)) rfl (pa_cons (pe_ix ix_T (pvM 0) pe_int (fun _ _ => rfl)) pa_nil)) (pe_and (pe_callF Fare_values (hr.mono (by first | decide | omega)) rfl (pa_cons (pe_ix ix_T (pvM 0) pe_int (fun _ _ => rfl)) pa_nil)) (pe_and (pe_callF Fis_plain_wish (hr.mono (by first | decide | omega)) rfl (pa_cons (pe_ix ix_T (pvM 0) pe_int (fun _ _ => rfl)) pa_nil)) (pe_one (pe_cmpR op_notInT (pe_ix ix_T (pvM 0) pe_int (fun _ _ => rfl)) (pe_callF Fcells_of (hr.mono (by first | decide | omega)) rfl (pa_cons (pe_ix ix_T (pvM 0) pe_int (fun _ _ => rfl)) pa_nil)) (by with_unfolding_all rfl))))))))), ?_⟩
  obtain ⟨a, xs, rfl, ha, hl⟩ := ht
  have hlen := hl.len
  (try ctx_has vcx true_and ha hlen)
  refine len_rd (n := 4) k fun h0 k => ?_
  refine step_rd 1 hl (by omega) True.intro k fun H1 s1 hg1 k => ?_
  replace ha := s1 _ _ ha
  replace hl := TVs.keep (Same.keepT s1) l hl
  replace hR := hR.same s1
  refine ⟨xs, ha, step_rd 2 hl (by omega) True.intro k fun H1 s1 hg2 k => ?_⟩
  replace ha := s1 _ _ ha
  replace hl := TVs.keep (Same.keepT s1) l hl
  replace hR := hR.same s1
  refine ⟨xs, ha, step_rd 3 hl (by omega) hR k fun H1 s1 hg3 k => ?_⟩
  replace ha := s1 _ _ ha
  replace hl := TVs.keep (Same.keepT s1) l hl
  replace hR := hR.same s1
  obtain ⟨y, e1, t1⟩ := tv_at hl 1 (by omega)
  obtain ⟨x, e3, t3⟩ := tv_at hl 3 (by omega)
  obtain ⟨hp, hc⟩ := plain_at t3 hg3
  obtain ⟨nm, en⟩ : ∃ nm, l.getD 1 .non = .str nm := by
    cases hx : l.getD 1 .non with
    | str nm => exact ⟨nm, rfl⟩
    | _ => rw [hx] at hg1; cases hg1
  rw [en] at t1 k
  obtain ⟨rfl, _⟩ := t1
  refine ⟨xs, ha, _, e1, xs, ha, x, e3, x, _, rfl, .inl hp, by omega, fun p H2 hp2 s2 => ⟨p, rfl, _, hp2, rfl, flat_strs _, ?_⟩⟩
  have := k H2 s2
  rw [inV_strs]
  have e : dec (Tr.str nm ∈ (cellsS (l.getD 3 .non)).map Tr.str) = decide (nm ∈ cellsS (l.getD 3 .non)) := by
    by_cases z : nm ∈ cellsS (l.getD 3 .non)
    · rw [dec_true (List.mem_map_of_mem z), decide_eq_true z]
    · rw [dec_false (fun w => z (by obtain ⟨b, hb, eb⟩ := List.mem_map.mp w; injection eb with eb; rw [← eb]; exact hb)), decide_eq_false z]
  rw [e] at this
  exact this
theorem ok_is_wish  {pt : Addr} (T : Txt w K mg) (L : FnL K mg "is_wish" s_is_wish ["thing"]) (Fsort_of : Fn P w K mg base "sort_of" 1 ["thing"] (spSort)) (Fis_plain_wish : Fn P w K mg base "is_plain_wish" 14 ["thing"] (spB (RT pt) plainT)) (Fis_same : Fn P w K mg base "is_same" 15 ["wish"] (spFm (RT pt) sameF)) : Fn P w K mg base "is_wish" 16 ["thing"] (spB (RT pt) wishT) := by
  have nd := sc_is_wish.nd
  refine L.ok sc_is_wish (fun vs H Q E h => ?_) (fun f cdv A outer s H vs Q E hr h => ?_) <;> obtain ⟨v, t, rfl, ht, hR, k⟩ := h
  · rfl
  have hu := hu_of hr
  refine ⟨_, (pss_cons (ps_if (pt_cmpR op_eq (pe_callF Fsort_of (hr.mono (by first | decide | omega)) rfl (pa_cons (pvM 0) pa_nil)) pe_str (nomark _)) (pss_one (ps_ret (pe_callF Fis_same (hr.mono (by first | decide | omega)) rfl (pa_cons (pvM 0) pa_nil)))) pss_nil)
    (pss_one (ps_ret (pe_callF Fis_plain_wish (hr.mono (by first | decide | omega)) rfl (pa_cons (pvM 0) pa_nil))))), ?_⟩
  (try ctx_has vcx true_and)
  refine ⟨v, t, rfl, ht, ?_⟩
  rcases sort_cases t with ⟨s, l, rfl⟩ | ⟨e, ew, ep⟩
  · have k : ∀ H', Same H H' → Q (.bl (if s = "same" then sameF (.str s :: l) else formF s (.str s :: l))) H' := k
    refine ⟨rfl, ?_⟩
    by_cases hs : s = "same"
    · rw [if_pos (by show V.str s = _; rw [hs])]
      exact ⟨v, _, rfl, ht, hR, fun H' sm => by have := k H' sm; rwa [if_pos hs] at this⟩
    · rw [if_neg (by show ¬ V.str s = _; intro z; injection z with z; exact hs z)]
      exact ⟨v, _, rfl, ht, hR, fun H' sm => by have := k H' sm; rwa [if_neg hs] at this⟩
  · rw [e]
    refine ⟨rfl, ?_⟩
    rw [if_neg (by intro z; cases z)]
    exact ⟨v, t, rfl, ht, hR, fun H' sm => by have := k H' sm; rwa [ew, ← ep] at this⟩
noncomputable def GoodN (ws : List Str) : Prop := ws.Nodup ∧ ∀ w ∈ ws, nmB w = true
theorem nm_len {w : Str} (h : nmB w = true) : w.length ≤ 20 := by
  simp only [nmB, Bool.and_eq_true, decide_eq_true_eq] at h
  omega
theorem GoodN.sub {ws us : List Str} (h : GoodN ws) (s : us.Sublist ws) : GoodN us := ⟨h.1.sublist s, fun w hw => h.2 w (s.subset hw)⟩
theorem all_strs {ws : List Str} (h : ∀ w ∈ ws, nmB w = true) : (ws.map Tr.str).all nameT = true := by
  rw [List.all_map, List.all_eq_true]; exact h
theorem nodup_strs {ws : List Str} : (ws.map Tr.str).Nodup ↔ ws.Nodup := nodup_inj fun a b e => by injection e
theorem nodup_ints {ns : List Int} : (ns.map Tr.int).Nodup ↔ ns.Nodup := nodup_inj fun a b e => by injection e
theorem namesT_of {ws : List Str} (h : GoodN ws) (h1 : 1 ≤ ws.length) (h2 : ws.length ≤ 12) : namesT (.tup (ws.map Tr.str)) = true := by
  simp only [namesT, tupOf, unX, unT, List.length_map, all_strs h.2, dec_true (nodup_strs.mpr h.1), Bool.and_true, Bool.and_eq_true, decide_eq_true_eq]
  omega
theorem tvs_names {H : Hp} : ∀ {ws : List Str}, (∀ w ∈ ws, nmB w = true) → TVs H (ws.map V.str) (ws.map Tr.str)
  | [], _ => rfl
  | w :: ws, h => ⟨_, _, rfl, ⟨rfl, nm_len (h w (by simp))⟩, tvs_names fun x hx => h x (by simp [hx])⟩
theorem tv_names {H : Hp} {a : Addr} {ws : List Str} (h : H a = some (.tup (ws.map V.str))) (hn : ∀ w ∈ ws, nmB w = true) : TV H (.ref a) (.tup (ws.map Tr.str)) := ⟨a, _, rfl, h, tvs_names hn⟩
theorem tvs_ints {H : Hp} : ∀ {ns : List Int}, TVs H (ns.map V.int) (ns.map Tr.int)
  | [] => rfl
  | n :: ns => ⟨_, _, rfl, rfl, tvs_ints⟩
theorem tv_ints {H : Hp} {a : Addr} {ns : List Int} (h : H a = some (.tup (ns.map V.int))) : TV H (.ref a) (.tup (ns.map Tr.int)) := ⟨a, _, rfl, h, tvs_ints⟩
theorem all_ints {ns : List Int} {lo hi : Int} (h : ∀ x ∈ ns, lo ≤ x ∧ x ≤ hi) : (ns.map Tr.int).all (wholeT lo hi) = true := by
  rw [List.all_map, List.all_eq_true]
  intro x hx
  simp only [Function.comp, wholeT, Bool.and_eq_true, decide_eq_true_eq]
  exact h x hx
theorem valuesT_of {ns : List Int} (h : ns.Nodup) (h1 : ns.length ≤ 60) (h2 : ∀ x ∈ ns, -1000000 ≤ x ∧ x ≤ 1000000) : valuesT (.tup (ns.map Tr.int)) = true := by
  have := all_ints h2
  simp only [valuesT, tupOf, unX, unT, List.length_map, valT, this, dec_true (nodup_ints.mpr h), Bool.and_true, Bool.and_eq_true, decide_eq_true_eq]
  omega
theorem term_ok {c : Int} {nm : Str} (h0 : c ≠ 0) (h1 : -1000000 ≤ c) (h2 : c ≤ 1000000) (hn : nmB nm = true) : termT (.tup [.int c, .str nm]) = true := by
  simp [termT, valT, wholeT, nzT, nameT, h0, h1, h2, hn]
theorem tr_cells {ws : List Str} {s : Str} {cs : List Tr} (h : s ≠ "sum") (h2 : s ≠ "many") : cellsS (.tup (.str s :: .tup (ws.map Tr.str) :: cs)) = ws := by
  show (if s = "sum" then _ else if s = "many" then _ else strsT (ws.map Tr.str)) = ws
  rw [if_neg h, if_neg h2, strsT_map]
theorem fm_unlike (l : List Tr) : formF "unlike" l = unlikeF l := by unfold formF; rw [if_pos rfl]
theorem fm_many (l : List Tr) : formF "many" l = manyF l := by unfold formF; rw [if_neg (by decide +kernel), if_pos rfl]
theorem fm_sum (l : List Tr) : formF "sum" l = sumF l := by unfold formF; rw [if_neg (by decide +kernel), if_neg (by decide +kernel), if_pos rfl]
theorem fm_table (l : List Tr) : formF "table" l = tableF l := by unfold formF; rw [if_neg (by decide +kernel), if_neg (by decide +kernel), if_neg (by decide +kernel), if_pos rfl]
theorem fm_way (l : List Tr) : formF "way" l = wayF l := by unfold formF; rw [if_neg (by decide +kernel), if_neg (by decide +kernel), if_neg (by decide +kernel), if_neg (by decide +kernel), if_pos rfl]
theorem fm_behind (l : List Tr) : formF "behind" l = behindF l := by unfold formF; rw [if_neg (by decide +kernel), if_neg (by decide +kernel), if_neg (by decide +kernel), if_neg (by decide +kernel), if_neg (by decide +kernel), if_pos rfl]
noncomputable def spWishOf : Sp := fun vs H Q _ => ∃ (d l t : Addr) (cells : List Str), vs = [.ref d, .ref t] ∧ DealAt H d l ∧ H t = some (.tup (cells.map V.str)) ∧ 1 ≤ cells.length ∧ cells.length ≤ 12 ∧ GoodN cells ∧ ∀ (v : V) (tr : Tr) (H' : Hp), TV H' v tr → plainT tr = true → (∀ c ∈ cellsS tr, c ∈ cells) → DealAt H' d l → But d l H H' → Q v H'
noncomputable def spRows : Sp := fun vs H Q _ => ∃ (d l : Addr) (wide many : Int), vs = [.ref d, .int wide, .int many] ∧ DealAt H d l ∧ 0 < wide ∧ wide ≤ 14 ∧ 0 ≤ many ∧ many ≤ 60 ∧ ∀ (v : V) (tr : Tr) (H' : Hp), TV H' v tr → rowsT wide tr = true → DealAt H' d l → But d l H H' → Q v H'
theorem sb_ok {x : V} {a b : Int} (ha : -10000000000000 ≤ a ∧ a ≤ 10000000000000) (hb : -10000000000000 ≤ b ∧ b ≤ 10000000000000) (h : x ∈ [V.int a, V.non, V.int b]) : ∃ t, (∀ H, TV H x t) ∧ sbT t = true := by
  simp only [List.mem_cons, List.not_mem_nil, or_false] at h
  rcases h with rfl | rfl | rfl
  · exact ⟨.int a, fun _ => rfl, by simp [sbT, wholeT, ha]⟩
  · exact ⟨.non, fun _ => rfl, rfl⟩
  · exact ⟨.int b, fun _ => rfl, by simp [sbT, wholeT, hb]⟩
theorem ok__law_big_sum   (T : Txt w K mg) (L : FnL K mg "_law_big_sum" s__law_big_sum ["_law_deal_here", "_law_some"]) (F_law_draw : Fn P w K mg base "_law_draw" 1 ["_law_deal_here", "_law_many_here"] (spDraw)) (F_law_number : Fn P w K mg base "_law_number" 2 ["_law_deal_here", "_law_most"] (spNumber)) : Fn P w K mg base "_law_big_sum" 3 ["_law_deal_here", "_law_some"] (spWishOf) := by
  have nd := sc__law_big_sum.nd
  refine L.ok sc__law_big_sum (fun vs H Q E h => ?_) (fun f cdv A outer s H vs Q E hr h => ?_) <;> obtain ⟨d, l, t, cells, rfl, D, ht, hl1, hlen, hgn, k⟩ := h
  · rfl
  have hu := hu_of hr
  refine ⟨_, (pss_cons (ps_set (i := 2) nd rfl (by first | exact Or.inl rfl | exact Or.inr rfl) (pe_lst pa_nil))
    (pss_cons (ps_for PassesOwn.never rfl (pi_TK (K := K) rfl (pe_slice sl_Ts (pvM 1) po_none (po_some pe_int))) (pg_name (i := 3) nd rfl (by first | exact Or.inl rfl | exact Or.inr rfl)) (pss_cons (ps_set (i := 4) nd rfl (by first | exact Or.inl rfl | exact Or.inr rfl) (pe_callF F_law_number (hr.mono (by first | decide | omega)) rfl (pa_cons (pvM 0) (pa_cons (pe_op op_pow pe_int pe_int) pa_nil))))
    (pss_one (ps_expr (pe_mL PySem.F.slot_list_append PySem.F.type_list_append ml_append (pvM 2) (pa_cons (pe_tup (pa_cons (pe_op op_add (pvM 4) (pe_callTy call_int1 rfl T.b_int (show bootBuiltins "int" = some (.type "int") by decide +kernel) (pa_cons (pe_cmpR op_eq (pvM 4) pe_int (nomark _)) pa_nil))) (pa_cons (pvM 3) pa_nil))) pa_nil))))))
    (pss_cons (ps_set (i := 5) nd rfl (by first | exact Or.inl rfl | exact Or.inr rfl) (pe_lst (pa_cons (pe_callF F_law_number (hr.mono (by first | decide | omega)) rfl (pa_cons (pvM 0) (pa_cons (pe_op op_pow pe_int pe_int) pa_nil))) (pa_cons pe_non (pa_cons (pe_callF F_law_number (hr.mono (by first | decide | omega)) rfl (pa_cons (pvM 0) (pa_cons (pe_op op_pow pe_int pe_int) pa_nil))) pa_nil)))))
    (pss_one (ps_ret (pe_tup (pa_cons pe_str (pa_cons (pe_callTy call_tupL rfl T.b_tuple (show bootBuiltins "tuple" = some (.type "tuple") by decide +kernel) (pa_cons (pvM 2) pa_nil)) (pa_cons (pe_ix ix_L (pvM 5) (pe_callF F_law_draw (hr.mono (by first | decide | omega)) rfl (pa_cons (pvM 0) (pa_cons pe_int pa_nil))) (fun _ _ => rfl)) (pa_cons (pe_ix ix_L (pvM 5) (pe_op op_add pe_int (pe_callF F_law_draw (hr.mono (by first | decide | omega)) rfl (pa_cons (pvM 0) (pa_cons pe_int pa_nil)))) (fun _ _ => rfl)) pa_nil)))))))))), ?_⟩
  (try ctx_has vcx true_and ht)
  refine ⟨by decide, fun p hp => ?_⟩
  have np := D.ne hp
  have tp : t ≠ p := ne_of_none ht hp
  refine ⟨_, by rw [upd_ne tp]; exact ht, fun q H1 h1 sm1 => ⟨_, h1, ?_⟩⟩
  rw [show ((6 : Int)) = ((6 : Nat) : Int) from rfl, cut_map] at h1
  have D1 := (D.new (o := .lst []) hp).same sm1
  have B1 := ((But.refl H).new (d := d) (l := l) (o := .lst []) hp).same sm1
  have h1p := sm1 _ _ (upd_same (H := H) (a := p) (o := .lst []))
  have hg6 : GoodN (cells.take 6) := hgn.sub (List.take_sublist _ _)
  refine for_g wlk_tup (fun i σ H' => ∃ (ts : List V) (ms : List Tr) (v3 v4 : Option V), σ = [some (.ref d), some (.ref t), some (.ref p), v3, v4, none] ∧ TVs H' ts ms ∧ ms.all termT = true ∧ ms.map (fun t => (itT t).getD 1 .non) = ((cells.take 6).take i).map Tr.str ∧ H' p = some (.lst ts) ∧ H' q = some (.tup ((cells.take 6).map V.str)) ∧ DealAt H' d l ∧ But d l H H')
    ⟨[], [], _, _, rfl, rfl, rfl, by simp, h1p, h1, D1, B1⟩ (fun i σ H' zq39 => by obtain ⟨_, _, _, _, _, _, _, _, _, h, _⟩ := zq39; exact (.of h)) ?_ ?_
  · rintro i x σ H2 hi hx ⟨ts, ms, v3, v4, rfl, hts, hall, hnm', h2, h2q, D2, B2⟩
    rw [List.length_map] at hi
    rw [List.getElem?_map] at hx
    (try ctx_has vcx true_and)
    obtain ⟨nm, hnm, rfl⟩ : ∃ nm, (cells.take 6)[i]? = some nm ∧ V.str nm = x := by
      cases e : (cells.take 6)[i]? with
      | none => rw [e] at hx; cases hx
      | some nm => rw [e] at hx; exact ⟨nm, rfl, Option.some.inj hx⟩
    refine ⟨⟨by decide, by decide, by decide⟩, d, l, _, rfl, D2, by decide, by decide, fun a H3 a0 a1 D3 B3 => ?_⟩
    replace a0 : -1000000 ≤ a := a0
    replace a1 : a ≤ 1000000 := a1
    have h3 := B3 p _ np.1 np.2 h2
    have h3q := B3.keepT D2 _ _ h2q
    (try ctx_has vcx true_and h3)
    refine ⟨by decide, fun r hr' => ?_⟩
    have pr : p ≠ r := ne_of_none h3 hr'
    have hb := hg6.2 nm (List.mem_of_getElem? hnm)
    have kp : KeepT H3 (upd (upd H3 r (HO.tup [V.int (a + if a = 0 then 1 else 0), V.str nm])) p (HO.lst (ts ++ [.ref r]))) := (Same.keepT (Same.upd0 hr')).trans (keepT_put (ys := ts) (by rw [upd_ne pr]; exact h3))
    have hml : ts.length = i := by
      rw [hts.len]
      have := congrArg List.length hnm'
      simp only [List.length_map, List.length_take] at this
      rw [List.length_take] at hi
      omega
    refine ⟨ts, by rw [upd_ne pr]; exact h3, small1000 (by rw [List.length_take] at hi; omega), ts ++ [.ref r], ms ++ [.tup [.int (a + if a = 0 then 1 else 0), .str nm]], ?_, ?_, ?_, upd_same, ?_, (D3.new hr').put np.1 np.2, ((B2.trans B3).new hr').put hp⟩
    · exact (TVs.keep kp _ (TVs.keep (B3.keepT D2) _ hts)).app (TVs.one ⟨r, _, rfl, by rw [upd_ne pr.symm]; exact upd_same, _, _, rfl, rfl, _, _, rfl, ⟨rfl, nm_len hb⟩, rfl⟩)
    · rw [List.all_append, hall, List.all_cons, List.all_nil, term_ok (by split <;> omega) (by split <;> omega) (by split <;> omega) hb]; rfl
    · rw [List.map_append, hnm', List.take_add_one (l := cells.take 6), hnm]; simp [itT]
    · rw [upd_ne (ne_of h3q h3 (by intro z; cases z)), upd_ne (ne_of_none h3q hr')]
      exact h3q
  · rintro σ H2 ⟨ts, ms, v3, v4, rfl, hts, hall, hnm', h2, h2q, D2, B2⟩
    rw [List.length_map, List.take_length] at hnm'
    (try ctx_has vcx true_and h2)
    refine ⟨⟨by decide, by decide, by decide⟩, d, l, _, rfl, D2, by decide, by decide, fun x H3 x0 x1 D3 B3 => ?_⟩
    replace x0 : -10000000000000 ≤ x := x0
    replace x1 : x ≤ 10000000000000 := x1
    refine ⟨⟨by decide, by decide, by decide⟩, d, l, _, rfl, D3, by decide, by decide, fun y H4 y0 y1 D4 B4 => ?_⟩
    replace y0 : -10000000000000 ≤ y := y0
    replace y1 : y ≤ 10000000000000 := y1
    have h4 := B4 p _ np.1 np.2 (B3 p _ np.1 np.2 h2)
    refine ⟨by decide, fun r hr1 => ⟨ts, by rw [upd_ne (ne_of_none h4 hr1)]; exact h4, fun u hu1 => ?_⟩⟩
    have D5 := (D4.new (o := .lst [V.int x, V.non, V.int y]) hr1).new (o := .tup ts) hu1
    have B5 := (((B2.trans B3).trans B4).new (o := .lst [V.int x, V.non, V.int y]) hr1).new (o := .tup ts) hu1
    have ur : u ≠ r := by rintro rfl; rw [upd_same] at hu1; cases hu1
    have nr := D4.ne hr1
    have nu := (D4.new (o := .lst [V.int x, V.non, V.int y]) hr1).ne hu1
    have k5 : KeepT H2 (upd (upd H4 r (HO.lst [V.int x, V.non, V.int y])) u (HO.tup ts)) := ((B3.keepT D2).trans (B4.keepT D3)).trans (Same.keepT ((Same.upd0 hr1).upd_new hu1))
    refine draw_rd D5 (by decide) (by decide) fun r6 H6 r60 r61 D6 B6 => ?_
    have h6 := B6 r _ nr.1 nr.2 (by rw [upd_ne ur.symm]; exact upd_same)
    obtain ⟨v, ha, hv⟩ := atI_mem (xs := [V.int x, V.non, V.int y]) (i := r6) r60 (by simp; omega)
    refine ⟨_, rfl, _, h6, _, ha, ?_⟩
    refine draw_rd D6 (by decide) (by decide) fun r7 H7 r70 r71 D7 B7 => ?_
    have h7 := B7 r _ nr.1 nr.2 h6
    obtain ⟨v2, ha2, hv2⟩ := atI_mem (xs := [V.int x, V.non, V.int y]) (i := 1 + r7) (by omega) (by simp; omega)
    refine ⟨_, rfl, _, h7, _, ha2, by decide, fun g hg => ?_⟩
    have k7 : KeepT H2 (upd H7 g (HO.tup [V.str (Str.ofString "sum"), V.ref u, v, v2])) := ((k5.trans (B6.keepT D5)).trans (B7.keepT D6)).trans (Same.keepT (Same.upd0 hg))
    have h7u := B7.keepT D6 _ _ (B6.keepT D5 _ _ (upd_same (H := upd H4 r (HO.lst [V.int x, V.non, V.int y])) (a := u) (o := .tup ts)))
    obtain ⟨b1, tb1, sb1⟩ := sb_ok ⟨x0, x1⟩ ⟨y0, y1⟩ hv
    obtain ⟨b2, tb2, sb2⟩ := sb_ok ⟨x0, x1⟩ ⟨y0, y1⟩ hv2
    have hmsl : ms.length = (cells.take 6).length := by have := congrArg List.length hnm'; simpa using this
    have htm : termsT (.tup ms) = true := by
      have e1 : unT (ms.map fun t => (itT t).getD 1 .non) = true := by rw [hnm']; exact dec_true (nodup_strs.mpr hg6.1)
      rw [List.length_take] at hmsl
      show (tupOf termT 1 6 (.tup ms) && unT (ms.map fun t => (itT t).getD 1 .non)) = true
      rw [e1]
      simp only [tupOf, hall, Bool.and_true, Bool.and_eq_true, decide_eq_true_eq]
      omega
    refine k _ (.tup [.str "sum", .tup ms, b1, b2]) _ ⟨g, _, rfl, upd_same, _, _, rfl, ⟨rfl, by decide⟩, _, _, rfl, ⟨u, ts, rfl, by rw [upd_ne (ne_of_none h7u hg)]; exact h7u, TVs.keep k7 _ hts⟩, _, _, rfl, tb1 _, _, _, rfl, tb2 _, rfl⟩ ?_ (fun c hc => ?_) (D7.new hg) (((B5.trans B6).trans B7).new hg)
    · show formF "sum" _ = true
      rw [fm_sum]
      simp [sumF, htm, sb1, sb2]
    · have e : cellsS (.tup [.str "sum", .tup ms, b1, b2]) = cells.take 6 := by
        show strsT (ms.map fun t => (itT t).getD 1 .non) = _
        rw [hnm', strsT_map]
      rw [e] at hc
      exact List.mem_of_mem_take hc
theorem nodup_of_map {α β : Type} {f : α → β} : ∀ {l : List α}, (l.map f).Nodup → l.Nodup
  | [], _ => by simp
  | a :: l, h => by
    rw [List.map_cons, List.nodup_cons] at h
    rw [List.nodup_cons]
    exact ⟨fun z => h.1 (List.mem_map_of_mem z), nodup_of_map h.2⟩
theorem map_int_inj : ∀ {a b : List Int}, a.map Tr.int = b.map Tr.int → a = b
  | [], [], _ => rfl
  | [], _ :: _, h => by cases h
  | _ :: _, [], h => by cases h
  | x :: a, y :: b, h => by
    rw [List.map_cons, List.map_cons] at h
    injection h with h1 h2
    injection h1 with h1
    rw [h1, map_int_inj h2]
theorem ok__law_big_rows   (T : Txt w K mg) (L : FnL K mg "_law_big_rows" s__law_big_rows ["_law_deal_here", "_law_wide", "_law_many_here"]) (F_law_draw : Fn P w K mg base "_law_draw" 1 ["_law_deal_here", "_law_many_here"] (spDraw)) (F_law_number : Fn P w K mg base "_law_number" 2 ["_law_deal_here", "_law_most"] (spNumber)) (F_law_numbers : Fn P w K mg base "_law_numbers" 3 ["_law_deal_here", "_law_many_here"] (spNumbers)) : Fn P w K mg base "_law_big_rows" 4 ["_law_deal_here", "_law_wide", "_law_many_here"] (spRows) := by
  have nd := sc__law_big_rows.nd
  refine L.ok sc__law_big_rows (fun vs H Q E h => ?_) (fun f cdv A outer s H vs Q E hr h => ?_) <;> obtain ⟨d, l, wide, many, rfl, D, w0, w1, m0, m1, k⟩ := h
  · rfl
  have hu := hu_of hr
  refine ⟨_, (pss_cons (ps_set (i := 3) nd rfl (by first | exact Or.inl rfl | exact Or.inr rfl) (pe_callF F_law_numbers (hr.mono (by first | decide | omega)) rfl (pa_cons (pvM 0) (pa_cons (pvM 2) pa_nil))))
    (pss_cons (ps_set (i := 4) nd rfl (by first | exact Or.inl rfl | exact Or.inr rfl) (pe_callF F_law_draw (hr.mono (by first | decide | omega)) rfl (pa_cons (pvM 0) (pa_cons (pvM 1) pa_nil))))
    (pss_cons (ps_set (i := 5) nd rfl (by first | exact Or.inl rfl | exact Or.inr rfl) (pe_lst pa_nil))
    (pss_cons (ps_for PassesOwn.never rfl (pi_TK (K := K) rfl (pvM 3)) (pg_name (i := 6) nd rfl (by first | exact Or.inl rfl | exact Or.inr rfl)) (pss_cons (ps_setC (i := 7) (N := ["_law_k", "_law_deal_here"]) (nt := 1) (js := [0]) nd rfl (by first | exact Or.inl rfl | exact Or.inr rfl) rfl (compOk_of ["_law_deal_here", "_law_wide", "_law_many_here", "_law_first", "_law_place", "_law_rows", "_law_value", "_law_row"] (defScope s__law_big_rows).names rfl rfl rfl (by decide +kernel)) (pi_range1 rfl T.b_range (pa_cons (pvM 1) pa_nil)) (fun _ _ _ _ _ _ => (pg_name (i := 0) (show List.Nodup [("_law_k" : Str), ("_law_deal_here" : Str)] by decide +kernel) rfl (Or.inl rfl))) (tgOk_name (by decide)) (fun _ _ _ _ _ _ => pts_nil) (fun _ _ _ _ _ _ => (pe_callF F_law_number (hr.mono (by first | decide | omega)) rfl (pa_cons (pvM 1) (pa_cons (pe_op op_pow pe_int pe_int) pa_nil)))))
    (pss_cons (ps_asg (pvM 6) (pg_sub (pvM 7) (pvM 4) set_L))
    (pss_one (ps_expr (pe_mL PySem.F.slot_list_append PySem.F.type_list_append ml_append (pvM 5) (pa_cons (pe_callTy call_tupL rfl T.b_tuple (show bootBuiltins "tuple" = some (.type "tuple") by decide +kernel) (pa_cons (pvM 7) pa_nil)) pa_nil)))))))
    (pss_one (ps_ret (pe_callTy call_tupL rfl T.b_tuple (show bootBuiltins "tuple" = some (.type "tuple") by decide +kernel) (pa_cons (pvM 5) pa_nil)))))))), ?_⟩
  (try ctx_has vcx true_and)
  refine ⟨d, l, _, rfl, D, m0, m1, fun q ns H1 _ hns hnd hrg h1 D1 B1 => ?_⟩
  refine draw_rd D1 w0 (by omega) fun r H2 r0 r1 D2 B2 => ?_
  refine ⟨by decide, fun p hp => ?_⟩
  have h2q := B2.keepT D1 _ _ h1
  have np := D2.ne hp
  refine ⟨q, rfl, _, by rw [upd_ne (ne_of_none h2q hp)]; exact h2q, ?_⟩
  have fr : H p = none := (B1.trans B2).free D2 hp
  refine for_g wlk_tup (fun i σ H' => ∃ (ts : List V) (rs : List (List Int)) (v6 v7 : Option V), σ = [some (.ref d), some (.int wide), some (.int many), some (.ref q), some (.int r), some (.ref p), v6, v7] ∧ TVs H' ts (rs.map fun x => .tup (x.map Tr.int)) ∧ (∀ x ∈ rs, (x.length : Int) = wide ∧ ∀ y ∈ x, -1000000 ≤ y ∧ y ≤ 1000000) ∧ rs.map (fun x => x.getD r.toNat 0) = ns.take i ∧ H' p = some (.lst ts) ∧ H' q = some (.tup (ns.map V.int)) ∧ DealAt H' d l ∧ But d l H H')
    ⟨[], [], _, _, rfl, rfl, by simp, by simp, upd_same, by rw [upd_ne (ne_of_none h2q hp)]; exact h2q, D2.new hp, (B1.trans B2).new hp⟩ (fun i σ H' zq40 => by obtain ⟨_, _, _, _, _, _, _, _, _, h, _⟩ := zq40; exact (.of h)) ?_ ?_
  · rintro i x σ H3 hi hx ⟨ts, rs, v6, v7, rfl, hts, hrs, hcol, h3, h3q, D3, B3⟩
    rw [List.length_map] at hi
    rw [List.getElem?_map] at hx
    obtain ⟨nv, hnv, rfl⟩ : ∃ nv, ns[i]? = some nv ∧ V.int nv = x := by
      cases e : ns[i]? with
      | none => rw [e] at hx; cases hx
      | some nm => rw [e] at hx; exact ⟨nm, rfl, Option.some.inj hx⟩
    have hl : ts.length = i := by
      rw [hts.len, List.length_map]
      have := congrArg List.length hcol
      simp only [List.length_map, List.length_take] at this
      omega
    (try ctx_has vcx true_and)
    refine ⟨by omega, by omega, fun g hg => ?_⟩
    have ng := D3.ne hg
    have pg : p ≠ g := ne_of_none h3 hg
    have fg : H g = none := B3.free D3 hg
    refine comp_g wlk_range (fun j ys H4 => ∃ zs : List Int, ys = zs.map V.int ∧ zs.length = j ∧ (∀ y ∈ zs, -1000000 ≤ y ∧ y ≤ 1000000) ∧ H4 g = some (.lst ys) ∧ H4 p = some (.lst ts) ∧ KeepT H3 H4 ∧ DealAt H4 d l ∧ But d l H H4)
      ⟨[], rfl, rfl, by simp, upd_same, by rw [upd_ne pg]; exact h3, Same.keepT (Same.upd0 hg), D3.new hg, B3.new hg⟩ (fun _ _ _ _ => True.intro) ?_ ?_
    · rintro j y ys H4 hj hy ⟨zs, rfl, hyl, hzr, h4, h4p, k4, D4, B4⟩
      rw [rngV_length] at hj
      (try ctx_has vcx true_and)
      refine ⟨⟨by decide, by decide, by decide⟩, d, l, _, rfl, D4, by decide, by decide, fun a H5 a0 a1 D5 B5 => ?_⟩
      replace a0 : -1000000 ≤ a := a0
      replace a1 : a ≤ 1000000 := a1
      have h5 := B5 g _ ng.1 ng.2 h4
      refine ⟨h5, by rw [List.length_map]; exact small1000 (by omega), zs ++ [a], by simp, by simp; omega, fun y hy => ?_, upd_same, by rw [upd_ne pg]; exact B5 p _ np.1 np.2 h4p, (k4.trans (B5.keepT D4)).trans (keepT_put h5), D5.put ng.1 ng.2, (B4.trans B5).put fg⟩
      rcases List.mem_append.mp hy with z | z
      · exact hzr y z
      · rw [List.mem_singleton.mp z]; exact ⟨a0, a1⟩
    · rintro ys H4 ⟨zs, rfl, hyl, hzr, h4, h4p, k4, D4, B4⟩
      rw [rngV_length] at hyl
      (try ctx_has vcx true_and h4 h4p)
      refine ⟨r0, by rw [List.length_map]; omega, by simp [upd_ne pg, h4p], ?_⟩
      refine ⟨_, upd_same, fun u hu1 => ?_⟩
      have gu : g ≠ u := by rintro rfl; rw [upd_same] at hu1; cases hu1
      have hu4 : H4 u = none := by rwa [upd_ne gu.symm] at hu1
      have pu : p ≠ u := ne_of_none h4p hu4
      have eset : (zs.map V.int).set r.toNat (V.int nv) = (zs.set r.toNat nv).map V.int := by rw [List.map_set]
      rw [eset] at hu1 ⊢
      have kk : KeepT H4 (upd (upd (upd H4 g (.lst ((zs.set r.toNat nv).map V.int))) u (.tup ((zs.set r.toNat nv).map V.int))) p (.lst (ts ++ [.ref u]))) := fun b vs e => by
        rw [upd_ne (ne_of e h4p (by intro z; cases z)), upd_ne (ne_of_none e hu4), upd_ne (ne_of e h4 (by intro z; cases z))]; exact e
      refine ⟨ts, by rw [upd_ne pu, upd_ne pg]; exact h4p, small1000 (by omega), ts ++ [.ref u], rs ++ [zs.set r.toNat nv], ?_, fun x hx => ?_, ?_, upd_same, kk _ _ (k4 _ _ h3q), ?_, ?_⟩
      · rw [List.map_append]
        exact (TVs.keep kk _ (TVs.keep k4 _ hts)).app (TVs.one (tv_ints (by rw [upd_ne pu.symm]; exact upd_same)))
      · rcases List.mem_append.mp hx with z | z
        · exact hrs x z
        · rw [List.mem_singleton.mp z]
          refine ⟨by rw [List.length_set]; omega, fun y hy => ?_⟩
          rcases List.mem_or_eq_of_mem_set hy with z | z
          · exact hzr y z
          · rw [z]; exact hrg nv (List.mem_of_getElem? hnv)
      · rw [List.map_append, hcol, List.take_add_one, hnv, List.map_cons, List.map_nil]
        have hlt : r.toNat < zs.length := by omega
        simp [List.getD_eq_getElem?_getD, hlt]
      · exact (((D4.put ng.1 ng.2).new hu1)).put np.1 np.2
      · exact ((B4.put fg).new hu1).put fr
  · rintro σ H3 ⟨ts, rs, v6, v7, rfl, hts, hrs, hcol, h3, h3q, D3, B3⟩
    rw [List.length_map, List.take_length] at hcol
    (try ctx_has vcx true_and h3)
    intro u hu1
    have hlr : rs.length = ns.length := by have := congrArg List.length hcol; simpa using this
    refine k _ (.tup (rs.map fun x => .tup (x.map Tr.int))) _ ⟨u, ts, rfl, upd_same, TVs.keep (Same.keepT (Same.upd0 hu1)) _ hts⟩ ?_ (D3.new hu1) (B3.new hu1)
    have hall : (rs.map fun x => Tr.tup (x.map Tr.int)).all (rowT wide) = true := by
      rw [List.all_map, List.all_eq_true]
      intro x hx
      obtain ⟨h1, h2⟩ := hrs x hx
      have h4 := all_ints h2
      show rowT wide (.tup (x.map Tr.int)) = true
      simp only [rowT, tupOf, List.length_map, valT, h4, Bool.and_true, Bool.and_eq_true, decide_eq_true_eq]
      omega
    have hndr : (rs.map fun x => Tr.tup (x.map Tr.int)).Nodup := by
      have h5 : rs.Nodup := by
        refine nodup_of_map (f := fun x => x.getD r.toNat 0) ?_
        rw [hcol]; exact hnd
      refine (nodup_inj fun a b e => ?_).mpr h5
      injection e with e
      exact map_int_inj e
    show (tupOf (rowT wide) 0 60 (.tup (rs.map fun x => .tup (x.map Tr.int))) && unT (rs.map fun x => .tup (x.map Tr.int))) = true
    rw [show unT (rs.map fun x => Tr.tup (x.map Tr.int)) = true from dec_true hndr]
    simp only [tupOf, hall, Bool.and_true, Bool.and_eq_true, decide_eq_true_eq, List.length_map]
    omega
noncomputable def prW (S : Int) (ns : List Int) (k : Nat) : Int × Int := (((k : Int) + (k : Int) / S) % S, ns.getD ((k : Int) / S).toNat 0)
theorem prW_inj {S : Int} {ns : List Int} (hS : 0 < S) (hn : ns.Nodup) (hl : ns.length = 60) {a b : Nat} (ha : a < 60) (hb : b < 60) (h : prW S ns a = prW S ns b) : a = b := by
  have q0 : 0 ≤ (a : Int) / S := Int.ediv_nonneg (by omega) (by omega)
  have q1 : 0 ≤ (b : Int) / S := Int.ediv_nonneg (by omega) (by omega)
  have q2 : (a : Int) / S ≤ a := Int.ediv_le_self _ (by omega)
  have q3 : (b : Int) / S ≤ b := Int.ediv_le_self _ (by omega)
  have e1 : ((a : Int) + (a : Int) / S) % S = ((b : Int) + (b : Int) / S) % S := congrArg Prod.fst h
  have e2 : ns.getD ((a : Int) / S).toNat 0 = ns.getD ((b : Int) / S).toNat 0 := congrArg Prod.snd h
  have l1 : ((a : Int) / S).toNat < ns.length := by omega
  have l2 : ((b : Int) / S).toNat < ns.length := by omega
  have e3 : ((a : Int) / S).toNat = ((b : Int) / S).toNat := by
    rw [List.getD_eq_getElem?_getD, List.getD_eq_getElem?_getD, List.getElem?_eq_getElem l1, List.getElem?_eq_getElem l2, Option.getD_some, Option.getD_some] at e2
    exact (List.getElem_inj hn).mp e2
  have e4 : (a : Int) / S = (b : Int) / S := by omega
  rw [e4] at e1
  replace e1 : (a : Int) % S = (b : Int) % S := (Int.emod_add_cancel_right _).mp e1
  have h1 := Int.mul_ediv_add_emod (a : Int) S
  have h2 := Int.mul_ediv_add_emod (b : Int) S
  rw [e4, e1] at h1
  omega
theorem nodup_prW {S : Int} {ns : List Int} (hS : 0 < S) (hn : ns.Nodup) (hl : ns.length = 60) {n : Nat} (h : n ≤ 60) : ((List.range n).map (prW S ns)).Nodup := by
  rw [List.Nodup, List.pairwise_map]
  refine List.Pairwise.imp_of_mem (fun {a b} ha hb hab e => ?_) (List.nodup_range (n := n))
  exact hab (prW_inj hS hn hl (by have := List.mem_range.mp ha; omega) (by have := List.mem_range.mp hb; omega) e)
noncomputable def enW (k : Nat) : Int := ((k : Int) * 8) % 21
theorem nodup_enW {n : Nat} (h : n ≤ 21) : ((List.range n).map enW).Nodup := by
  have : ((List.range 21).map enW).Nodup := by decide +kernel
  exact this.sublist ((List.range_sublist.mpr h).map enW)
noncomputable def stpT (x : Int × Int × Int) : Tr := .tup [.int x.1, .int x.2.1, .int x.2.2]
theorem stp_ok {x : Int × Int × Int} (h1 : 0 ≤ x.1 ∧ x.1 ≤ 20) (h2 : -1000000 ≤ x.2.1 ∧ x.2.1 ≤ 1000000) (h3 : 0 ≤ x.2.2 ∧ x.2.2 ≤ 20) : stepT (stpT x) = true := by
  simp [stepT, stpT, stT, valT, wholeT, h1, h2, h3]
theorem stepsT_of {S : Int} {ns : List Int} {sts : List (Int × Int × Int)} {n : Nat} (hS : 0 < S) (hn : ns.Nodup) (hl : ns.length = 60) (h : n ≤ 60) (e : sts.map (fun x => (x.1, x.2.1)) = (List.range n).map (prW S ns)) (ho : ∀ x ∈ sts, stepT (stpT x) = true) : stepsT (.tup (sts.map stpT)) = true := by
  have hlen : sts.length = n := by have := congrArg List.length e; simpa using this
  have h1 : (sts.map stpT).all stepT = true := by rw [List.all_map, List.all_eq_true]; exact ho
  have h2 : unT ((sts.map stpT).map fun t => .tup ((itT t).take 2)) = true := by
    refine dec_true ?_
    have h3 : (sts.map fun x => (x.1, x.2.1)).Nodup := by rw [e]; exact nodup_prW hS hn hl h
    have h4 : (sts.map stpT).map (fun t => Tr.tup ((itT t).take 2)) = (sts.map fun x => (x.1, x.2.1)).map fun y => Tr.tup [.int y.1, .int y.2] := by
      rw [List.map_map, List.map_map]; rfl
    rw [h4]
    refine (nodup_inj fun a b e => ?_).mpr h3
    injection e with e
    injection e with e1 e2
    injection e1 with e1
    injection e2 with e2 _
    injection e2 with e2
    exact Prod.ext e1 e2
  show (tupOf stepT 0 60 (.tup (sts.map stpT)) && unT ((sts.map stpT).map fun t => .tup ((itT t).take 2))) = true
  rw [h2]
  simp only [tupOf, h1, Bool.and_true, Bool.and_eq_true, decide_eq_true_eq, List.length_map]
  omega
theorem endsT_of {es : List Int} {n : Nat} (h : n ≤ 21) (p : es.Perm ((List.range n).map enW)) : endsT (.tup (es.map Tr.int)) = true := by
  have h1 : ∀ x ∈ es, 0 ≤ x ∧ x ≤ 20 := fun x hx => by
    obtain ⟨k, _, rfl⟩ := List.mem_map.mp (p.mem_iff.mp hx)
    unfold enW
    omega
  have h2 : es.Nodup := p.nodup_iff.mpr (nodup_enW h)
  have h3 : es.length = n := by have := p.length_eq; simpa using this
  have h4 := all_ints h1
  simp only [endsT, tupOf, unX, unT, List.length_map, stT, h4, dec_true (nodup_ints.mpr h2), Bool.and_true, Bool.and_eq_true, decide_eq_true_eq]
  omega
theorem ok__law_big_way   (T : Txt w K mg) (L : FnL K mg "_law_big_way" s__law_big_way ["_law_deal_here", "_law_some"]) (F_law_draw : Fn P w K mg base "_law_draw" 1 ["_law_deal_here", "_law_many_here"] (spDraw)) (F_law_numbers : Fn P w K mg base "_law_numbers" 3 ["_law_deal_here", "_law_many_here"] (spNumbers)) (F_law_many : Fn P w K mg base "_law_many" 2 ["_law_deal_here", "_law_most"] (spMany)) : Fn P w K mg base "_law_big_way" 4 ["_law_deal_here", "_law_some"] (spWishOf) := by
  have nd := sc__law_big_way.nd
  refine L.ok sc__law_big_way (fun vs H Q E h => ?_) (fun f cdv A outer s H vs Q E hr h => ?_) <;> obtain ⟨d, l, t, cells, rfl, D, ht, hl1, hlen, hgn, k⟩ := h
  · rfl
  have hu := hu_of hr
  refine ⟨_, (pss_cons (ps_set (i := 2) nd rfl (by first | exact Or.inl rfl | exact Or.inr rfl) (pe_op op_add pe_int (pe_callF F_law_draw (hr.mono (by first | decide | omega)) rfl (pa_cons (pvM 0) (pa_cons pe_int pa_nil)))))
    (pss_cons (ps_set (i := 3) nd rfl (by first | exact Or.inl rfl | exact Or.inr rfl) (pe_callF F_law_numbers (hr.mono (by first | decide | omega)) rfl (pa_cons (pvM 0) (pa_cons pe_int pa_nil))))
    (pss_cons (ps_set (i := 4) nd rfl (by first | exact Or.inl rfl | exact Or.inr rfl) (pe_lst pa_nil))
    (pss_cons (ps_for PassesOwn.never rfl (pi_range1 rfl T.b_range (pa_cons (pe_callF F_law_many (hr.mono (by first | decide | omega)) rfl (pa_cons (pvM 0) (pa_cons pe_int pa_nil))) pa_nil)) (pg_name (i := 5) nd rfl (by first | exact Or.inl rfl | exact Or.inr rfl)) (pss_one (ps_expr (pe_mL PySem.F.slot_list_append PySem.F.type_list_append ml_append (pvM 4) (pa_cons (pe_tup (pa_cons (pe_op op_mod (pe_op op_add (pvM 5) (pe_op op_fdivW (pvM 5) (pvM 2))) (pvM 2)) (pa_cons (pe_ix ix_T (pvM 3) (pe_op op_fdivW (pvM 5) (pvM 2)) (fun _ _ => rfl)) (pa_cons (pe_callF F_law_draw (hr.mono (by first | decide | omega)) rfl (pa_cons (pvM 0) (pa_cons pe_int pa_nil))) pa_nil)))) pa_nil)))))
    (pss_cons (ps_set (i := 6) nd rfl (by first | exact Or.inl rfl | exact Or.inr rfl) (pe_lst pa_nil))
    (pss_cons (ps_for PassesOwn.never rfl (pi_range1 rfl T.b_range (pa_cons (pe_callF F_law_many (hr.mono (by first | decide | omega)) rfl (pa_cons (pvM 0) (pa_cons pe_int pa_nil))) pa_nil)) (pg_name (i := 5) nd rfl (by first | exact Or.inl rfl | exact Or.inr rfl)) (pss_one (ps_expr (pe_mL PySem.F.slot_list_insert PySem.F.type_list_insert ml_insert (pvM 6) (pa_cons (pe_callF F_law_draw (hr.mono (by first | decide | omega)) rfl (pa_cons (pvM 0) (pa_cons (pe_op op_add (pe_callB call_lenL rfl T.b_len PySem.boot_len (pa_cons (pvM 6) pa_nil)) pe_int) pa_nil))) (pa_cons (pe_op op_mod (pe_op op_mul (pvM 5) pe_int) pe_int) pa_nil))))))
    (pss_one (ps_ret (pe_tup (pa_cons pe_str (pa_cons (pvM 1) (pa_cons (pe_callTy call_tupL rfl T.b_tuple (show bootBuiltins "tuple" = some (.type "tuple") by decide +kernel) (pa_cons (pvM 4) pa_nil)) (pa_cons (pe_callTy call_tupL rfl T.b_tuple (show bootBuiltins "tuple" = some (.type "tuple") by decide +kernel) (pa_cons (pvM 6) pa_nil)) pa_nil))))))))))))), ?_⟩
  (try ctx_has vcx true_and ht)
  refine draw_rd D (by decide) (by decide) fun r H1 r0 r1 D1 B1 => ?_
  refine ⟨_, rfl, d, l, _, rfl, D1, by decide, by decide, fun q ns H2 _ hns hnd hrg h2 D2 B2 => ?_⟩
  replace hns : ns.length = 60 := hns
  refine ⟨by decide, fun p hp => ?_⟩
  have np := D2.ne hp
  have fp : H p = none := (B1.trans B2).free D2 hp
  refine ⟨d, l, _, rfl, D2.new hp, by decide, by decide, fun j H3 j0 j1 D3 B3 => ?_⟩
  refine ⟨_, rfl, by omega, by omega, ?_⟩
  have h3 := B3 p _ np.1 np.2 upd_same
  have k3 : KeepT H2 H3 := (Same.keepT (Same.upd0 (o := .lst []) hp)).trans (B3.keepT (D2.new hp))
  have h3q := k3 _ _ h2
  have h3t := k3 _ _ (B2.keepT D1 _ _ (B1.keepT D _ _ ht))
  have B30 := ((B1.trans B2).new (o := .lst []) hp).trans B3
  refine for_g wlk_range (fun i σ H' => ∃ (ts : List V) (sts : List (Int × Int × Int)) (v5 : Option V), σ = [some (.ref d), some (.ref t), some (.int (1 + r)), some (.ref q), some (.ref p), v5, none] ∧ TVs H' ts (sts.map stpT) ∧ sts.map (fun x => (x.1, x.2.1)) = (List.range i).map (prW (1 + r) ns) ∧ (∀ x ∈ sts, stepT (stpT x) = true) ∧ H' p = some (.lst ts) ∧ KeepT H3 H' ∧ DealAt H' d l ∧ But d l H H')
    ⟨[], [], _, rfl, rfl, rfl, by simp, h3, fun _ _ e => e, D3, B30⟩ (fun _ _ _ _ => True.intro) ?_ ?_
  · rintro i x σ H4 hi hx ⟨ts, sts, v5, rfl, hts, hpr, hst, h4, k4, D4, B4⟩
    rw [rngV_length] at hi
    rw [rngV_get hi] at hx
    obtain rfl := Option.some.inj hx
    have hl : ts.length = i := by
      rw [hts.len, List.length_map]
      have := congrArg List.length hpr
      simpa using this
    have h4q := k4 _ _ h3q
    (try ctx_has vcx true_and h4 h4q)
    have hdiv : (0 + (i : Int)) / (1 + r) < 60 := by
      have : (0 + (i : Int)) / (1 + r) ≤ 0 + (i : Int) := Int.ediv_le_self _ (by omega)
      omega
    have hdiv0 : 0 ≤ (0 + (i : Int)) / (1 + r) := Int.ediv_nonneg (by omega) (by omega)
    have hlt : ((0 + (i : Int)) / (1 + r)).toNat < ns.length := by omega
    have ha : atI (ns.map V.int) ((0 + (i : Int)) / (1 + r)) = some (V.int (ns.getD ((0 + (i : Int)) / (1 + r)).toNat 0)) := by
      obtain ⟨m, hm⟩ : ∃ m : Nat, (0 + (i : Int)) / (1 + r) = (m : Int) := ⟨_, (Int.toNat_of_nonneg hdiv0).symm⟩
      rw [hm] at hlt ⊢
      rw [Int.toNat_natCast] at hlt ⊢
      exact atI_nat (by simp [List.getD_eq_getElem?_getD, hlt])
    refine ⟨⟨by omega, by omega⟩, by omega, ⟨by omega, by omega⟩, _, ha, ?_⟩
    refine draw_rd D4 (by decide) (by decide) fun r5 H5 r50 r51 D5 B5 => ?_
    have h5 := B5 p _ np.1 np.2 h4
    refine ⟨by decide, fun u hu1 => ?_⟩
    have pu : p ≠ u := ne_of_none h5 hu1
    have kk : KeepT H5 (upd (upd H5 u (.tup [V.int ((0 + (i : Int) + (0 + (i : Int)) / (1 + r)) % (1 + r)), V.int (ns.getD ((0 + (i : Int)) / (1 + r)).toNat 0), V.int r5])) p (.lst (ts ++ [.ref u]))) := (Same.keepT (Same.upd0 hu1)).trans (keepT_put (ys := ts) (by rw [upd_ne pu]; exact h5))
    have m0 := Int.emod_nonneg (0 + (i : Int) + (0 + (i : Int)) / (1 + r)) (show (1 + r) ≠ 0 by omega)
    have m1 := Int.emod_lt_of_pos (0 + (i : Int) + (0 + (i : Int)) / (1 + r)) (show 0 < 1 + r by omega)
    have hmem : ns.getD ((0 + (i : Int)) / (1 + r)).toNat 0 ∈ ns := by
      rw [List.getD_eq_getElem?_getD, List.getElem?_eq_getElem hlt, Option.getD_some]
      exact List.getElem_mem hlt
    refine ⟨ts, by rw [upd_ne pu]; exact h5, small1000 (by omega), ts ++ [.ref u], sts ++ [((0 + (i : Int) + (0 + (i : Int)) / (1 + r)) % (1 + r), ns.getD ((0 + (i : Int)) / (1 + r)).toNat 0, r5)], ?_, ?_, fun x hx => ?_, upd_same, (k4.trans (B5.keepT D4)).trans kk, (D5.new hu1).put np.1 np.2, ((B4.trans B5).new hu1).put fp⟩
    · rw [List.map_append]
      exact (TVs.keep kk _ (TVs.keep (B5.keepT D4) _ hts)).app (TVs.one ⟨u, _, rfl, by rw [upd_ne pu.symm]; exact upd_same, _, _, rfl, rfl, _, _, rfl, rfl, _, _, rfl, rfl, rfl⟩)
    · rw [List.map_append, hpr, List.range_succ, List.map_append, List.map_cons, List.map_nil, List.map_cons, List.map_nil]
      unfold prW
      rw [Int.zero_add]
    · rcases List.mem_append.mp hx with z | z
      · exact hst x z
      · rw [List.mem_singleton.mp z]
        exact stp_ok ⟨m0, by show _ % _ ≤ 20; omega⟩ (hrg _ hmem) ⟨r50, by show r5 ≤ 20; omega⟩
  · rintro σ H4 ⟨ts, sts, v5, rfl, hts, hpr, hst, h4, k4, D4, B4⟩
    rw [rngV_length] at hpr
    (try ctx_has vcx true_and)
    refine ⟨by decide, fun g hg => ?_⟩
    have ng := D4.ne hg
    have fg : H g = none := B4.free D4 hg
    have gp : p ≠ g := ne_of_none h4 hg
    refine ⟨d, l, _, rfl, D4.new hg, by decide, by decide, fun j2 H5 j20 j21 D5 B5 => ?_⟩
    refine ⟨_, rfl, by omega, by omega, ?_⟩
    have k45 : KeepT H4 H5 := (Same.keepT (Same.upd0 (o := .lst []) hg)).trans (B5.keepT (D4.new hg))
    refine for_g wlk_range (fun i σ H' => ∃ (es : List Int) (v5 : Option V), σ = [some (.ref d), some (.ref t), some (.int (1 + r)), some (.ref q), some (.ref p), v5, some (.ref g)] ∧ es.Perm ((List.range i).map enW) ∧ H' p = some (.lst ts) ∧ H' g = some (.lst (es.map V.int)) ∧ KeepT H4 H' ∧ DealAt H' d l ∧ But d l H H')
      ⟨[], _, rfl, by simp, B5 p _ np.1 np.2 (by rw [upd_ne gp]; exact h4), B5 g _ ng.1 ng.2 upd_same, k45, D5, (B4.new hg).trans B5⟩ (fun _ _ _ _ => True.intro) ?_ ?_
    · rintro i x σ H6 hi hx ⟨es, v6, rfl, hpe, h6p, h6, k6, D6, B6⟩
      rw [rngV_length] at hi
      rw [rngV_get hi] at hx
      obtain rfl := Option.some.inj hx
      have hl6 : es.length = i := by have := hpe.length_eq; simpa using this
      (try ctx_has vcx true_and h6)
      refine draw_rd D6 (by rw [List.length_map]; omega) (by rw [List.length_map]; omega) fun r7 H7 r70 r71 D7 B7 => ?_
      rw [List.length_map] at r71
      have h7 := B7 g _ ng.1 ng.2 h6
      (try ctx_has vcx true_and h7)
      refine ⟨cmul_small (by omega) (by omega), by decide, r70, by rw [List.length_map]; omega, by rw [List.length_map]; exact small1000 (by omega), es.take r7.toNat ++ enW i :: es.drop r7.toNat, ?_, by rw [upd_ne gp]; exact B7 p _ np.1 np.2 h6p, ?_, (k6.trans (B7.keepT D6)).trans (keepT_put h7), D7.put ng.1 ng.2, (B6.trans B7).put fg⟩
      · rw [List.range_succ, List.map_append]
        refine List.perm_middle.trans ?_
        rw [List.take_append_drop]
        exact (hpe.cons _).trans (List.perm_append_singleton _ _).symm
      · rw [upd_same, List.map_append, List.map_cons, List.map_take, List.map_drop]
        unfold enW
        rw [Int.zero_add]
    · rintro σ H6 ⟨es, v6, rfl, hpe, h6p, h6, k6, D6, B6⟩
      rw [rngV_length] at hpe
      (try ctx_has vcx true_and h6p)
      intro u hu1
      refine ⟨es.map V.int, by rw [upd_ne (ne_of_none h6 hu1)]; exact h6, fun u2 hu2 => ⟨by decide, fun w hw => ?_⟩⟩
      have sA := Same.upd_new ((Same.upd0 (o := .tup ts) hu1).upd_new (o := .tup (es.map V.int)) hu2) (o := .tup [V.str "way", V.ref t, V.ref u, V.ref u2]) hw
      have kA : KeepT H4 (upd (upd (upd H6 u (.tup ts)) u2 (.tup (es.map V.int))) w (.tup [V.str "way", V.ref t, V.ref u, V.ref u2])) := k6.trans (Same.keepT sA)
      have uu2 : u ≠ u2 := by rintro rfl; rw [upd_same] at hu2; cases hu2
      have uw : u ≠ w := by rintro rfl; rw [upd_ne uu2, upd_same] at hw; cases hw
      have u2w : u2 ≠ w := by rintro rfl; rw [upd_same] at hw; cases hw
      have htt : TV (upd (upd (upd H6 u (.tup ts)) u2 (.tup (es.map V.int))) w (.tup [V.str "way", V.ref t, V.ref u, V.ref u2])) (.ref t) (.tup (cells.map Tr.str)) := tv_names (kA _ _ (k4 _ _ h3t)) hgn.2
      refine k _ (.tup [.str "way", .tup (cells.map Tr.str), .tup (sts.map stpT), .tup (es.map Tr.int)]) _ ⟨w, _, rfl, upd_same, _, _, rfl, ⟨rfl, by decide⟩, _, _, rfl, htt, _, _, rfl, ⟨u, ts, rfl, by rw [upd_ne uw, upd_ne uu2]; exact upd_same, TVs.keep kA _ hts⟩, _, _, rfl, tv_ints (by rw [upd_ne u2w]; exact upd_same), rfl⟩ ?_ (fun c hc => ?_) (((D6.new hu1).new hu2).new hw) (((B6.new hu1).new hu2).new hw)
      · show formF "way" _ = true
        rw [fm_way]
        have e1 := stepsT_of (by omega) hnd hns (by omega) hpr hst
        have e2 := endsT_of (by omega) hpe
        simp [wayF, namesT_of hgn hl1 hlen, e1, e2]
      · rwa [tr_cells (by decide +kernel) (by decide +kernel)] at hc
noncomputable def sorts6 : List Str := ["unlike", "many", "sum", "table", "way", "behind"]
noncomputable def spBigP : Sp := fun vs H Q _ => ∃ (d l t : Addr) (cells : List Str) (sort : Str), vs = [.ref d, .ref t, .str sort] ∧ DealAt H d l ∧ H t = some (.lst (cells.map V.str)) ∧ 1 ≤ cells.length ∧ cells.length ≤ 14 ∧ GoodN cells ∧ sort ∈ sorts6 ∧ ∀ (v : V) (tr : Tr) (H' : Hp), TV H' v tr → plainT tr = true → (∀ c ∈ cellsS tr, c ∈ cells) → DealAt H' d l → But d l H H' → Q v H'
noncomputable def spBig : Sp := fun vs H Q _ => ∃ (d l t : Addr) (cells : List Str) (sort : Str), vs = [.ref d, .ref t, .str sort] ∧ DealAt H d l ∧ H t = some (.lst (cells.map V.str)) ∧ 2 ≤ cells.length ∧ cells.length ≤ 14 ∧ GoodN cells ∧ (sort ∈ sorts6 ∨ sort = "same") ∧ ∀ (v : V) (tr : Tr) (H' : Hp), TV H' v tr → wishT tr = true → DealAt H' d l → But d l H H' → Q v H'
theorem wish_plain {t : Tr} (h : plainT t = true) : wishT t = true := by
  obtain ⟨s, l, rfl, hf⟩ := plain_tree h
  show (if s = "same" then sameF (.str s :: l) else formF s (.str s :: l)) = true
  rw [if_neg, hf]
  rintro rfl
  rw [form_not (by decide +kernel)] at hf
  cases hf
theorem abs_le {a m : Int} (h1 : -m ≤ a) (h2 : a ≤ m) : 0 ≤ (if a < 0 then -a else a) ∧ (if a < 0 then -a else a) ≤ m := by split <;> omega
theorem ok__law_big_wishP   (T : Txt w K mg) (L : FnL K mg "_law_big_wish" s__law_big_wish ["_law_deal_here", "_law_names_here", "_law_sort"]) (F_law_draw : Fn P w K mg base "_law_draw" 1 ["_law_deal_here", "_law_many_here"] (spDraw)) (F_law_number : Fn P w K mg base "_law_number" 2 ["_law_deal_here", "_law_most"] (spNumber)) (F_law_numbers : Fn P w K mg base "_law_numbers" 3 ["_law_deal_here", "_law_many_here"] (spNumbers)) (F_law_many : Fn P w K mg base "_law_many" 2 ["_law_deal_here", "_law_most"] (spMany)) (F_law_big_sum : Fn P w K mg base "_law_big_sum" 3 ["_law_deal_here", "_law_some"] (spWishOf)) (F_law_big_rows : Fn P w K mg base "_law_big_rows" 4 ["_law_deal_here", "_law_wide", "_law_many_here"] (spRows)) (F_law_big_way : Fn P w K mg base "_law_big_way" 4 ["_law_deal_here", "_law_some"] (spWishOf)) : Fn P w K mg base "_law_big_wish" 5 ["_law_deal_here", "_law_names_here", "_law_sort"] (spBigP) := by
  have nd := sc__law_big_wish.nd
  refine L.ok sc__law_big_wish (fun vs H Q E h => ?_) (fun f cdv A outer s H vs Q E hr h => ?_) <;> obtain ⟨d, l, t, cells, sort, rfl, D, ht, l0, l1, hgn, hs, k⟩ := h
  · rfl
  have hu := hu_of hr
  refine ⟨_, (pss_cons (ps_set (i := 3) nd rfl (by first | exact Or.inl rfl | exact Or.inr rfl) (pe_callTy call_tupL rfl T.b_tuple (show bootBuiltins "tuple" = some (.type "tuple") by decide +kernel) (pa_cons (pe_slice sl_L (pvM 1) po_none (po_some (pe_op op_add pe_int (pe_callF F_law_draw (hr.mono (by first | decide | omega)) rfl (pa_cons (pvM 0) (pa_cons (pe_callB (call_min2 rfl) rfl T.b_min (show bootBuiltins "min" = some (.builtin "min") by decide +kernel) (pa_cons pe_int (pa_cons (pe_callB call_lenL rfl T.b_len PySem.boot_len (pa_cons (pvM 1) pa_nil)) pa_nil))) pa_nil)))))) pa_nil)))
    (pss_cons (ps_if (pt_cmpR op_eq (pvM 2) pe_str (nomark _)) (pss_one (ps_ret (pe_tup (pa_cons pe_str (pa_cons (pvM 3) pa_nil))))) pss_nil)
    (pss_cons (ps_if (pt_cmpR op_eq (pvM 2) pe_str (nomark _)) (pss_cons (ps_set (i := 4) nd rfl (by first | exact Or.inl rfl | exact Or.inr rfl) (pe_callB call_abs rfl T.b_abs (show bootBuiltins "abs" = some (.builtin "abs") by decide +kernel) (pa_cons (pe_callF F_law_number (hr.mono (by first | decide | omega)) rfl (pa_cons (pvM 0) (pa_cons (pe_op op_pow pe_int pe_int) pa_nil))) pa_nil)))
    (pss_one (ps_ret (pe_tup (pa_cons pe_str (pa_cons (pe_callF F_law_numbers (hr.mono (by first | decide | omega)) rfl (pa_cons (pvM 0) (pa_cons (pe_callF F_law_many (hr.mono (by first | decide | omega)) rfl (pa_cons (pvM 0) (pa_cons pe_int pa_nil))) pa_nil))) (pa_cons (pvM 3) (pa_cons (pvM 4) (pa_cons (pe_callB call_abs rfl T.b_abs (show bootBuiltins "abs" = some (.builtin "abs") by decide +kernel) (pa_cons (pe_callF F_law_number (hr.mono (by first | decide | omega)) rfl (pa_cons (pvM 0) (pa_cons (pe_op op_pow pe_int pe_int) pa_nil))) pa_nil)) pa_nil))))))))) pss_nil)
    (pss_cons (ps_if (pt_cmpR op_eq (pvM 2) pe_str (nomark _)) (pss_one (ps_ret (pe_callF F_law_big_sum (hr.mono (by first | decide | omega)) rfl (pa_cons (pvM 0) (pa_cons (pvM 3) pa_nil))))) pss_nil)
    (pss_cons (ps_if (pt_cmpR op_eq (pvM 2) pe_str (nomark _)) (pss_one (ps_ret (pe_tup (pa_cons pe_str (pa_cons (pvM 3) (pa_cons (pe_callF F_law_big_rows (hr.mono (by first | decide | omega)) rfl (pa_cons (pvM 0) (pa_cons (pe_callB call_lenT rfl T.b_len PySem.boot_len (pa_cons (pvM 3) pa_nil)) (pa_cons (pe_callF F_law_many (hr.mono (by first | decide | omega)) rfl (pa_cons (pvM 0) (pa_cons pe_int pa_nil))) pa_nil)))) pa_nil)))))) pss_nil)
    (pss_cons (ps_if (pt_cmpR op_eq (pvM 2) pe_str (nomark _)) (pss_one (ps_ret (pe_callF F_law_big_way (hr.mono (by first | decide | omega)) rfl (pa_cons (pvM 0) (pa_cons (pvM 3) pa_nil))))) pss_nil)
    (pss_cons (ps_if (pt_cmpR op_eq (pvM 2) pe_str (nomark _)) (pss_one (ps_ret (pe_tup (pa_cons pe_str (pa_cons (pvM 3) (pa_cons (pe_callF F_law_number (hr.mono (by first | decide | omega)) rfl (pa_cons (pvM 0) (pa_cons (pe_op op_pow pe_int pe_int) pa_nil))) pa_nil)))))) pss_nil)
    (pss_cons (ps_set (i := 5) nd rfl (by first | exact Or.inl rfl | exact Or.inr rfl) (pe_ix ix_L (pe_lst (pa_cons pe_str (pa_cons pe_str (pa_cons pe_str (pa_cons pe_str (pa_cons pe_str (pa_cons pe_str pa_nil))))))) (pe_callF F_law_draw (hr.mono (by first | decide | omega)) rfl (pa_cons (pvM 0) (pa_cons pe_int pa_nil))) (fun _ _ => rfl)))
    (pss_one ps_never))))))))), ?_⟩
  (try ctx_has vcx true_and ht)
  have fin := k
  have td : t ≠ d := by
    obtain ⟨m, sd, n, xs, hd, hl, _⟩ := D.ex
    exact ne_of ht hd (by intro z; cases z)
  have tl : t ≠ l := by
    rintro rfl
    obtain ⟨m, sd, n, xs, hd, hl, _⟩ := D.ex
    rw [ht] at hl
    cases cells with
    | nil => simp at l0
    | cons a b => cases xs with
      | nil => cases hl
      | cons c e => cases hl
  refine draw_rd D (by rw [List.length_map]; split <;> omega) (by rw [List.length_map]; split <;> omega) fun r H1 r0 r1 D1 B1 => ?_
  have h1t := B1 t _ td tl ht
  rw [List.length_map] at r1
  obtain ⟨n, hn⟩ : ∃ n : Nat, 1 + r = (n : Int) := ⟨(1 + r).toNat, by omega⟩
  refine ⟨_, rfl, _, h1t, ?_⟩
  rw [hn, cut_map]
  have hcl : (cells.take n).length ≤ 12 ∧ 1 ≤ (cells.take n).length := by
    rw [List.length_take]
    split at r1 <;> omega
  have hsub : ∀ c ∈ cells.take n, c ∈ cells := fun c hc => List.mem_of_mem_take hc
  have hgc : GoodN (cells.take n) := hgn.sub (List.take_sublist _ _)
  generalize cells.take n = cs at hcl hsub hgc ⊢
  have hnT := namesT_of hgc hcl.2 hcl.1
  intro p hp
  refine ⟨_, upd_same, fun u hu1 => ?_⟩
  have h3 : upd (upd H1 p (HO.lst (cs.map V.str))) u (HO.tup (cs.map V.str)) u = some (HO.tup (cs.map V.str)) := upd_same
  have D3 := (D1.new (o := HO.lst (cs.map V.str)) hp).new (o := HO.tup (cs.map V.str)) hu1
  have B3 := (B1.new (o := HO.lst (cs.map V.str)) hp).new (o := HO.tup (cs.map V.str)) hu1
  have h3t : upd (upd H1 p (HO.lst (cs.map V.str))) u (HO.tup (cs.map V.str)) t = some (HO.lst (cells.map V.str)) := Same.upd_new (Same.upd0 hp) hu1 _ _ h1t
  generalize upd (upd H1 p (HO.lst (cs.map V.str))) u (HO.tup (cs.map V.str)) = H3 at h3 D3 B3 h3t ⊢
  refine ite2 (fun e1 => ?_) (fun e1 => ?_)
  · refine ⟨by decide, fun w hw => fin _ (.tup [.str "unlike", .tup (cs.map Tr.str)]) _ ⟨w, _, rfl, upd_same, _, _, rfl, ⟨rfl, by decide⟩, _, _, rfl, tv_names (by rw [upd_ne (ne_of_none h3 hw)]; exact h3) hgc.2, rfl⟩ ?_ (fun c hc => ?_) (D3.new hw) (B3.new hw)⟩
    · show formF "unlike" _ = true
      rw [fm_unlike]
      simp [unlikeF, hnT]
    · rw [tr_cells (by decide +kernel) (by decide +kernel)] at hc; exact hsub c hc
  refine ite2 (fun e2 => ?_) (fun e2 => ?_)
  · refine ⟨⟨by decide, by decide, by decide⟩, d, l, _, rfl, D3, by decide, by decide, fun a H4 a0 a1 D4 B4 => ⟨_, rfl, ?_⟩⟩
    refine ⟨d, l, _, rfl, D4, by decide, by decide, fun b H5 b0 b1 D5 B5 => ?_⟩
    refine ⟨d, l, _, rfl, D5, b0, b1, fun g ns H6 _ hns hnd hrg h6g D6 B6 => ?_⟩
    refine ⟨⟨by decide, by decide, by decide⟩, d, l, _, rfl, D6, by decide, by decide, fun a2 H7 c0 c1 D7 B7 => ⟨_, rfl, by decide, fun w hw => ?_⟩⟩
    have h7 := B7.keepT D6 _ _ (B6.keepT D5 _ _ (B5.keepT D4 _ _ (B4.keepT D3 _ _ h3)))
    have h7g := B7.keepT D6 _ _ h6g
    refine fin _ (.tup [.str "many", .tup (ns.map Tr.int), .tup (cs.map Tr.str), .int _, .int _]) _ ⟨w, _, rfl, upd_same, _, _, rfl, ⟨rfl, by decide⟩, _, _, rfl, tv_ints (by rw [upd_ne (ne_of_none h7g hw)]; exact h7g), _, _, rfl, tv_names (by rw [upd_ne (ne_of_none h7 hw)]; exact h7) hgc.2, _, _, rfl, rfl, _, _, rfl, rfl, rfl⟩ ?_ (fun c hc => ?_) (D7.new hw) (((((B3.trans B4).trans B5).trans B6).trans B7).new hw)
    · show formF "many" _ = true
      rw [fm_many]
      have e3 := valuesT_of hnd (by omega) hrg
      have e4 := abs_le (m := 1000000000) a0 a1
      have e5 := abs_le (m := 1000000000) c0 c1
      simp [manyF, mbT, wholeT, hnT, e3]
      exact ⟨e4, e5⟩
    · have e : ∀ x y, cellsS (.tup [.str "many", .tup (ns.map Tr.int), .tup (cs.map Tr.str), x, y]) = cs := fun _ _ => strsT_map cs
      rw [e] at hc
      exact hsub c hc
  refine ite2 (fun e3 => ?_) (fun e3 => ?_)
  · exact ⟨d, l, u, cs, rfl, D3, h3, hcl.2, hcl.1, hgc, fun v tr H4 tv4 hp4 hs4 D4 B4 => fin v tr H4 tv4 hp4 (fun c hc => hsub c (hs4 c hc)) D4 (B3.trans B4)⟩
  refine ite2 (fun e4 => ?_) (fun e4 => ?_)
  · refine ⟨_, h3, d, l, _, rfl, D3, by decide, by decide, fun b H5 b0 b1 D5 B5 => ?_⟩
    refine ⟨d, l, _, _, rfl, D5, by rw [List.length_map]; omega, by rw [List.length_map]; omega, b0, b1, fun v tr H6 tv6 hr6 D6 B6 => ⟨by decide, fun w hw => ?_⟩⟩
    rw [List.length_map] at hr6
    have h6 := B6.keepT D5 _ _ (B5.keepT D3 _ _ h3)
    refine fin _ (.tup [.str "table", .tup (cs.map Tr.str), tr]) _ ⟨w, _, rfl, upd_same, _, _, rfl, ⟨rfl, by decide⟩, _, _, rfl, tv_names (by rw [upd_ne (ne_of_none h6 hw)]; exact h6) hgc.2, _, _, rfl, TV.keep (Same.keepT (Same.upd0 hw)) _ tv6, rfl⟩ ?_ (fun c hc => ?_) (D6.new hw) (((B3.trans B5).trans B6).new hw)
    · show formF "table" _ = true
      rw [fm_table]
      simp [tableF, itT, hnT, hr6]
    · rw [tr_cells (by decide +kernel) (by decide +kernel)] at hc; exact hsub c hc
  refine ite2 (fun e5 => ?_) (fun e5 => ?_)
  · exact ⟨d, l, u, cs, rfl, D3, h3, hcl.2, hcl.1, hgc, fun v tr H4 tv4 hp4 hs4 D4 B4 => fin v tr H4 tv4 hp4 (fun c hc => hsub c (hs4 c hc)) D4 (B3.trans B4)⟩
  refine ite2 (fun e6 => ?_) (fun e6 => ?_)
  · refine ⟨⟨by decide, by decide, by decide⟩, d, l, _, rfl, D3, by decide, by decide, fun a H4 a0 a1 D4 B4 => ⟨by decide, fun w hw => ?_⟩⟩
    replace a0 : -1000000000 ≤ a := a0
    replace a1 : a ≤ 1000000000 := a1
    have h4 := B4.keepT D3 _ _ h3
    refine fin _ (.tup [.str "behind", .tup (cs.map Tr.str), .int a]) _ ⟨w, _, rfl, upd_same, _, _, rfl, ⟨rfl, by decide⟩, _, _, rfl, tv_names (by rw [upd_ne (ne_of_none h4 hw)]; exact h4) hgc.2, _, _, rfl, rfl, rfl⟩ ?_ (fun c hc => ?_) (D4.new hw) ((B3.trans B4).new hw)
    · show formF "behind" _ = true
      rw [fm_behind]
      simp [behindF, gpT, wholeT, hnT, a0, a1]
    · rw [tr_cells (by decide +kernel) (by decide +kernel)] at hc; exact hsub c hc
  exfalso
  simp only [sorts6, List.mem_cons, List.not_mem_nil, or_false] at hs
  rcases hs with h | h | h | h | h | h
  · exact e1 h
  · exact e2 h
  · exact e3 h
  · exact e4 h
  · exact e5 h
  · exact e6 h
theorem ok__law_big_wish   (T : Txt w K mg) (L : FnL K mg "_law_big_wish" s__law_big_wish ["_law_deal_here", "_law_names_here", "_law_sort"]) (F_law_draw : Fn P w K mg base "_law_draw" 1 ["_law_deal_here", "_law_many_here"] (spDraw)) (F_law_number : Fn P w K mg base "_law_number" 2 ["_law_deal_here", "_law_most"] (spNumber)) (F_law_numbers : Fn P w K mg base "_law_numbers" 3 ["_law_deal_here", "_law_many_here"] (spNumbers)) (F_law_many : Fn P w K mg base "_law_many" 2 ["_law_deal_here", "_law_most"] (spMany)) (F_law_big_sum : Fn P w K mg base "_law_big_sum" 3 ["_law_deal_here", "_law_some"] (spWishOf)) (F_law_big_rows : Fn P w K mg base "_law_big_rows" 4 ["_law_deal_here", "_law_wide", "_law_many_here"] (spRows)) (F_law_big_way : Fn P w K mg base "_law_big_way" 4 ["_law_deal_here", "_law_some"] (spWishOf)) (F_law_big_wish : Fn P w K mg base "_law_big_wish" 5 ["_law_deal_here", "_law_names_here", "_law_sort"] (spBigP)) : Fn P w K mg base "_law_big_wish" 6 ["_law_deal_here", "_law_names_here", "_law_sort"] (spBig) := by
  have nd := sc__law_big_wish.nd
  refine L.ok sc__law_big_wish (fun vs H Q E h => ?_) (fun f cdv A outer s H vs Q E hr h => ?_) <;> obtain ⟨d, l, t, cells, sort, rfl, D, ht, l0, l1, hgn, hs, k⟩ := h
  · rfl
  have hu := hu_of hr
  refine ⟨_, (pss_cons (ps_set (i := 3) nd rfl (by first | exact Or.inl rfl | exact Or.inr rfl) (pe_callTy call_tupL rfl T.b_tuple (show bootBuiltins "tuple" = some (.type "tuple") by decide +kernel) (pa_cons (pe_slice sl_L (pvM 1) po_none (po_some (pe_op op_add pe_int (pe_callF F_law_draw (hr.mono (by first | decide | omega)) rfl (pa_cons (pvM 0) (pa_cons (pe_callB (call_min2 rfl) rfl T.b_min (show bootBuiltins "min" = some (.builtin "min") by decide +kernel) (pa_cons pe_int (pa_cons (pe_callB call_lenL rfl T.b_len PySem.boot_len (pa_cons (pvM 1) pa_nil)) pa_nil))) pa_nil)))))) pa_nil)))
    (pss_cons (ps_if (pt_cmpR op_eq (pvM 2) pe_str (nomark _)) (pss_one (ps_ret (pe_tup (pa_cons pe_str (pa_cons (pvM 3) pa_nil))))) pss_nil)
    (pss_cons (ps_if (pt_cmpR op_eq (pvM 2) pe_str (nomark _)) (pss_cons (ps_set (i := 4) nd rfl (by first | exact Or.inl rfl | exact Or.inr rfl) (pe_callB call_abs rfl T.b_abs (show bootBuiltins "abs" = some (.builtin "abs") by decide +kernel) (pa_cons (pe_callF F_law_number (hr.mono (by first | decide | omega)) rfl (pa_cons (pvM 0) (pa_cons (pe_op op_pow pe_int pe_int) pa_nil))) pa_nil)))
    (pss_one (ps_ret (pe_tup (pa_cons pe_str (pa_cons (pe_callF F_law_numbers (hr.mono (by first | decide | omega)) rfl (pa_cons (pvM 0) (pa_cons (pe_callF F_law_many (hr.mono (by first | decide | omega)) rfl (pa_cons (pvM 0) (pa_cons pe_int pa_nil))) pa_nil))) (pa_cons (pvM 3) (pa_cons (pvM 4) (pa_cons (pe_callB call_abs rfl T.b_abs (show bootBuiltins "abs" = some (.builtin "abs") by decide +kernel) (pa_cons (pe_callF F_law_number (hr.mono (by first | decide | omega)) rfl (pa_cons (pvM 0) (pa_cons (pe_op op_pow pe_int pe_int) pa_nil))) pa_nil)) pa_nil))))))))) pss_nil)
    (pss_cons (ps_if (pt_cmpR op_eq (pvM 2) pe_str (nomark _)) (pss_one (ps_ret (pe_callF F_law_big_sum (hr.mono (by first | decide | omega)) rfl (pa_cons (pvM 0) (pa_cons (pvM 3) pa_nil))))) pss_nil)
    (pss_cons (ps_if (pt_cmpR op_eq (pvM 2) pe_str (nomark _)) (pss_one (ps_ret (pe_tup (pa_cons pe_str (pa_cons (pvM 3) (pa_cons (pe_callF F_law_big_rows (hr.mono (by first | decide | omega)) rfl (pa_cons (pvM 0) (pa_cons (pe_callB call_lenT rfl T.b_len PySem.boot_len (pa_cons (pvM 3) pa_nil)) (pa_cons (pe_callF F_law_many (hr.mono (by first | decide | omega)) rfl (pa_cons (pvM 0) (pa_cons pe_int pa_nil))) pa_nil)))) pa_nil)))))) pss_nil)
    (pss_cons (ps_if (pt_cmpR op_eq (pvM 2) pe_str (nomark _)) (pss_one (ps_ret (pe_callF F_law_big_way (hr.mono (by first | decide | omega)) rfl (pa_cons (pvM 0) (pa_cons (pvM 3) pa_nil))))) pss_nil)
    (pss_cons (ps_if (pt_cmpR op_eq (pvM 2) pe_str (nomark _)) (pss_one (ps_ret (pe_tup (pa_cons pe_str (pa_cons (pvM 3) (pa_cons (pe_callF F_law_number (hr.mono (by first | decide | omega)) rfl (pa_cons (pvM 0) (pa_cons (pe_op op_pow pe_int pe_int) pa_nil))) pa_nil)))))) pss_nil)
    (pss_cons (ps_set (i := 5) nd rfl (by first | exact Or.inl rfl | exact Or.inr rfl) (pe_ix ix_L (pe_lst (pa_cons pe_str (pa_cons pe_str (pa_cons pe_str (pa_cons pe_str (pa_cons pe_str (pa_cons pe_str pa_nil))))))) (pe_callF F_law_draw (hr.mono (by first | decide | omega)) rfl (pa_cons (pvM 0) (pa_cons pe_int pa_nil))) (fun _ _ => rfl)))
    (pss_one (ps_ret (pe_tup (pa_cons pe_str (pa_cons (pe_ix ix_L (pvM 1) (pe_un un_neg pe_int) (fun _ _ => rfl)) (pa_cons (pe_callF F_law_numbers (hr.mono (by first | decide | omega)) rfl (pa_cons (pvM 0) (pa_cons (pe_callF F_law_many (hr.mono (by first | decide | omega)) rfl (pa_cons (pvM 0) (pa_cons pe_int pa_nil))) pa_nil))) (pa_cons (pe_callF F_law_big_wish (hr.mono (by first | decide | omega)) rfl (pa_cons (pvM 0) (pa_cons (pe_slice sl_L (pvM 1) po_none (po_some (pe_un un_neg pe_int))) (pa_cons (pvM 5) pa_nil)))) pa_nil))))))))))))))), ?_⟩
  (try ctx_has vcx true_and ht)
  have fin : ∀ (v : V) (tr : Tr) (H' : Hp), TV H' v tr → plainT tr = true → (∀ c ∈ cellsS tr, c ∈ cells) → DealAt H' d l → But d l H H' → Q v H' := fun v tr H' h1 h2 _ h4 h5 => k v tr H' h1 (wish_plain h2) h4 h5
  have td : t ≠ d := by
    obtain ⟨m, sd, n, xs, hd, hl, _⟩ := D.ex
    exact ne_of ht hd (by intro z; cases z)
  have tl : t ≠ l := by
    rintro rfl
    obtain ⟨m, sd, n, xs, hd, hl, _⟩ := D.ex
    rw [ht] at hl
    cases cells with
    | nil => simp at l0
    | cons a b => cases xs with
      | nil => cases hl
      | cons c e => cases hl
  refine draw_rd D (by rw [List.length_map]; split <;> omega) (by rw [List.length_map]; split <;> omega) fun r H1 r0 r1 D1 B1 => ?_
  have h1t := B1 t _ td tl ht
  rw [List.length_map] at r1
  obtain ⟨n, hn⟩ : ∃ n : Nat, 1 + r = (n : Int) := ⟨(1 + r).toNat, by omega⟩
  refine ⟨_, rfl, _, h1t, ?_⟩
  rw [hn, cut_map]
  have hcl : (cells.take n).length ≤ 12 ∧ 1 ≤ (cells.take n).length := by
    rw [List.length_take]
    split at r1 <;> omega
  have hsub : ∀ c ∈ cells.take n, c ∈ cells := fun c hc => List.mem_of_mem_take hc
  have hgc : GoodN (cells.take n) := hgn.sub (List.take_sublist _ _)
  generalize cells.take n = cs at hcl hsub hgc ⊢
  have hnT := namesT_of hgc hcl.2 hcl.1
  intro p hp
  refine ⟨_, upd_same, fun u hu1 => ?_⟩
  have h3 : upd (upd H1 p (HO.lst (cs.map V.str))) u (HO.tup (cs.map V.str)) u = some (HO.tup (cs.map V.str)) := upd_same
  have D3 := (D1.new (o := HO.lst (cs.map V.str)) hp).new (o := HO.tup (cs.map V.str)) hu1
  have B3 := (B1.new (o := HO.lst (cs.map V.str)) hp).new (o := HO.tup (cs.map V.str)) hu1
  have h3t : upd (upd H1 p (HO.lst (cs.map V.str))) u (HO.tup (cs.map V.str)) t = some (HO.lst (cells.map V.str)) := Same.upd_new (Same.upd0 hp) hu1 _ _ h1t
  generalize upd (upd H1 p (HO.lst (cs.map V.str))) u (HO.tup (cs.map V.str)) = H3 at h3 D3 B3 h3t ⊢
  refine ite2 (fun e1 => ?_) (fun e1 => ?_)
  · refine ⟨by decide, fun w hw => fin _ (.tup [.str "unlike", .tup (cs.map Tr.str)]) _ ⟨w, _, rfl, upd_same, _, _, rfl, ⟨rfl, by decide⟩, _, _, rfl, tv_names (by rw [upd_ne (ne_of_none h3 hw)]; exact h3) hgc.2, rfl⟩ ?_ (fun c hc => ?_) (D3.new hw) (B3.new hw)⟩
    · show formF "unlike" _ = true
      rw [fm_unlike]
      simp [unlikeF, hnT]
    · rw [tr_cells (by decide +kernel) (by decide +kernel)] at hc; exact hsub c hc
  refine ite2 (fun e2 => ?_) (fun e2 => ?_)
  · refine ⟨⟨by decide, by decide, by decide⟩, d, l, _, rfl, D3, by decide, by decide, fun a H4 a0 a1 D4 B4 => ⟨_, rfl, ?_⟩⟩
    refine ⟨d, l, _, rfl, D4, by decide, by decide, fun b H5 b0 b1 D5 B5 => ?_⟩
    refine ⟨d, l, _, rfl, D5, b0, b1, fun g ns H6 _ hns hnd hrg h6g D6 B6 => ?_⟩
    refine ⟨⟨by decide, by decide, by decide⟩, d, l, _, rfl, D6, by decide, by decide, fun a2 H7 c0 c1 D7 B7 => ⟨_, rfl, by decide, fun w hw => ?_⟩⟩
    have h7 := B7.keepT D6 _ _ (B6.keepT D5 _ _ (B5.keepT D4 _ _ (B4.keepT D3 _ _ h3)))
    have h7g := B7.keepT D6 _ _ h6g
    refine fin _ (.tup [.str "many", .tup (ns.map Tr.int), .tup (cs.map Tr.str), .int _, .int _]) _ ⟨w, _, rfl, upd_same, _, _, rfl, ⟨rfl, by decide⟩, _, _, rfl, tv_ints (by rw [upd_ne (ne_of_none h7g hw)]; exact h7g), _, _, rfl, tv_names (by rw [upd_ne (ne_of_none h7 hw)]; exact h7) hgc.2, _, _, rfl, rfl, _, _, rfl, rfl, rfl⟩ ?_ (fun c hc => ?_) (D7.new hw) (((((B3.trans B4).trans B5).trans B6).trans B7).new hw)
    · show formF "many" _ = true
      rw [fm_many]
      have e3 := valuesT_of hnd (by omega) hrg
      have e4 := abs_le (m := 1000000000) a0 a1
      have e5 := abs_le (m := 1000000000) c0 c1
      simp [manyF, mbT, wholeT, hnT, e3]
      exact ⟨e4, e5⟩
    · have e : ∀ x y, cellsS (.tup [.str "many", .tup (ns.map Tr.int), .tup (cs.map Tr.str), x, y]) = cs := fun _ _ => strsT_map cs
      rw [e] at hc
      exact hsub c hc
  refine ite2 (fun e3 => ?_) (fun e3 => ?_)
  · exact ⟨d, l, u, cs, rfl, D3, h3, hcl.2, hcl.1, hgc, fun v tr H4 tv4 hp4 hs4 D4 B4 => fin v tr H4 tv4 hp4 (fun c hc => hsub c (hs4 c hc)) D4 (B3.trans B4)⟩
  refine ite2 (fun e4 => ?_) (fun e4 => ?_)
  · refine ⟨_, h3, d, l, _, rfl, D3, by decide, by decide, fun b H5 b0 b1 D5 B5 => ?_⟩
    refine ⟨d, l, _, _, rfl, D5, by rw [List.length_map]; omega, by rw [List.length_map]; omega, b0, b1, fun v tr H6 tv6 hr6 D6 B6 => ⟨by decide, fun w hw => ?_⟩⟩
    rw [List.length_map] at hr6
    have h6 := B6.keepT D5 _ _ (B5.keepT D3 _ _ h3)
    refine fin _ (.tup [.str "table", .tup (cs.map Tr.str), tr]) _ ⟨w, _, rfl, upd_same, _, _, rfl, ⟨rfl, by decide⟩, _, _, rfl, tv_names (by rw [upd_ne (ne_of_none h6 hw)]; exact h6) hgc.2, _, _, rfl, TV.keep (Same.keepT (Same.upd0 hw)) _ tv6, rfl⟩ ?_ (fun c hc => ?_) (D6.new hw) (((B3.trans B5).trans B6).new hw)
    · show formF "table" _ = true
      rw [fm_table]
      simp [tableF, itT, hnT, hr6]
    · rw [tr_cells (by decide +kernel) (by decide +kernel)] at hc; exact hsub c hc
  refine ite2 (fun e5 => ?_) (fun e5 => ?_)
  · exact ⟨d, l, u, cs, rfl, D3, h3, hcl.2, hcl.1, hgc, fun v tr H4 tv4 hp4 hs4 D4 B4 => fin v tr H4 tv4 hp4 (fun c hc => hsub c (hs4 c hc)) D4 (B3.trans B4)⟩
  refine ite2 (fun e6 => ?_) (fun e6 => ?_)
  · refine ⟨⟨by decide, by decide, by decide⟩, d, l, _, rfl, D3, by decide, by decide, fun a H4 a0 a1 D4 B4 => ⟨by decide, fun w hw => ?_⟩⟩
    replace a0 : -1000000000 ≤ a := a0
    replace a1 : a ≤ 1000000000 := a1
    have h4 := B4.keepT D3 _ _ h3
    refine fin _ (.tup [.str "behind", .tup (cs.map Tr.str), .int a]) _ ⟨w, _, rfl, upd_same, _, _, rfl, ⟨rfl, by decide⟩, _, _, rfl, tv_names (by rw [upd_ne (ne_of_none h4 hw)]; exact h4) hgc.2, _, _, rfl, rfl, rfl⟩ ?_ (fun c hc => ?_) (D4.new hw) ((B3.trans B4).new hw)
    · show formF "behind" _ = true
      rw [fm_behind]
      simp [behindF, gpT, wholeT, hnT, a0, a1]
    · rw [tr_cells (by decide +kernel) (by decide +kernel)] at hc; exact hsub c hc
  refine ⟨by decide, fun g hg => ?_⟩
  refine draw_of D3 hg (by decide) (by decide) rfl fun r4 v H4 hv ha D4 B4 h4 => ?_
  have h4t := B4 t _ td tl h3t
  obtain ⟨cl0, z, rfl⟩ : ∃ cl0 z, cells = cl0 ++ [z] := by
    rcases List.eq_nil_or_concat cells with h | ⟨a, b, h⟩
    · rw [h] at l0; simp at l0
    · exact ⟨a, b, by rw [h, List.concat_eq_append]⟩
  have hla : atI (List.map V.str (cl0 ++ [z])) (-1) = some (V.str z) := by rw [List.map_append]; exact atI_last _ _
  obtain ⟨sv, rfl, hsv⟩ : ∃ sv, v = V.str sv ∧ sv ∈ sorts6 := by
    obtain ⟨sv, h1, h2⟩ := List.mem_map.mp (show v ∈ sorts6.map V.str from hv)
    exact ⟨sv, h2.symm, h1⟩
  refine ⟨_, rfl, _, h4, _, ha, _, h4t, _, hla, ?_⟩
  refine ⟨d, l, _, rfl, D4, by decide, by decide, fun b H5 b0 b1 D5 B5 => ?_⟩
  refine ⟨d, l, _, rfl, D5, b0, b1, fun f2 ns H6 _ hns hnd hrg h6f D6 B6 => ?_⟩
  have h6t := B6 t _ td tl (B5 t _ td tl h4t)
  refine ⟨_, h6t, fun y hy => ?_⟩
  rw [cut_map_but, List.dropLast_concat]
  have hz : z ∉ cl0 := fun w => by
    have := hgn.1
    rw [List.nodup_append] at this
    exact this.2.2 z w z (by simp) rfl
  refine ⟨d, l, y, cl0, sv, rfl, D6.new hy, upd_same, by simp at l0; omega, by simp at l1; omega, hgn.sub (List.sublist_append_left _ _), hsv, fun v2 tr2 H7 tv7 hp7 hs7 D7 B7 => ⟨by decide, fun w hw => ?_⟩⟩
  have hnz : nmB z = true := hgn.2 z (by simp)
  have h7f := B7.keepT (D6.new hy) _ _ (Same.keepT (Same.upd0 hy) _ _ h6f)
  refine k _ (.tup [.str "same", .str z, .tup (ns.map Tr.int), tr2]) _ ⟨w, _, rfl, upd_same, _, _, rfl, ⟨rfl, by decide⟩, _, _, rfl, ⟨rfl, nm_len hnz⟩, _, _, rfl, tv_ints (by rw [upd_ne (ne_of_none h7f hw)]; exact h7f), _, _, rfl, TV.keep (Same.keepT (Same.upd0 hw)) _ tv7, rfl⟩ ?_ (D7.new hw) (((((((B3.trans B4).trans B5).trans B6).new hy).trans B7)).new hw)
  show (if (Str.ofString "same") = "same" then sameF [.str "same", .str z, .tup (ns.map Tr.int), tr2] else formF "same" [.str "same", .str z, .tup (ns.map Tr.int), tr2]) = true
  rw [if_pos rfl]
  have e3 := valuesT_of hnd (by omega) hrg
  have e4 : dec (Tr.str z ∈ (cellsS tr2).map Tr.str) = false := dec_false fun hc => by
    obtain ⟨c, hc2, e⟩ := List.mem_map.mp hc
    injection e with e
    rw [← e] at hz
    exact hz (hs7 c hc2)
  simp only [sameF, List.length_cons, List.length_nil, List.getD_cons_succ, List.getD_cons_zero, nameT, hnz, e3, hp7, e4, Nat.reduceAdd, decide_true, Bool.true_and, Bool.not_false]
open L2.Irr
theorem TVs.set {H : Hp} {x : V} {t : Tr} (h : TV H x t) : ∀ {l : List Tr} {xs : List V} (i : Nat), TVs H xs l → TVs H (xs.set i x) (l.set i t)
  | [], _, i, hl => by rw [show _ = [] from hl]; rfl
  | _ :: _, _, 0, hl => by obtain ⟨y, ys, rfl, a, b⟩ := hl; exact ⟨x, ys, rfl, h, b⟩
  | _ :: _, _, i + 1, hl => by obtain ⟨y, ys, rfl, a, b⟩ := hl; exact ⟨y, _, rfl, a, TVs.set h i b⟩
theorem TVs.cons {H : Hp} {x : V} {t : Tr} {xs : List V} {l : List Tr} (h : TV H x t) (hs : TVs H xs l) : TVs H (x :: xs) (t :: l) := ⟨_, _, rfl, h, hs⟩
theorem pick {d l p : Addr} {m : Int} {vs : List V} {ts : List Tr} {H : Hp} {Q : VK} {E : XK} (P : Tr → Prop) (D : DealAt H d l) (hp : H p = none) (hts : TVs H vs ts) (hP : ∀ t ∈ ts, P t) (m0 : 0 < m) (m1 : m < 18446744073709551616) (hm : m = (vs.length : Int))
    (h : ∀ (r : Int) (v : V) (t : Tr) (H' : Hp), atI vs r = some v → TV H' v t → P t → DealAt H' d l → But d l H H' → H' p = some (.lst vs) → Q (.int r) H') : spDraw [.ref d, .int m] (upd H p (.lst vs)) Q E :=
  draw_of D hp m0 m1 hm fun r v H' hv ha D' B' hp' => by
    obtain ⟨i, hi, e⟩ := List.getElem_of_mem hv
    obtain ⟨t, et, tv⟩ := hts.at (i := i) (x := v) (by rw [List.getElem?_eq_getElem hi, e])
    exact h r v t H' ha (TV.keep (B'.keepT D) t tv) (hP t (List.mem_of_getElem? et)) D' B' hp'
theorem cutV_le (xs : List V) (lo hi : Option Int) : (cutV xs lo hi).length ≤ xs.length := by
  unfold cutV
  rw [List.length_take, List.length_drop]
  omega
theorem put_set {xs : List V} {i : Nat} {v : V} (h : i < xs.length) : cutV xs none (some (i : Int)) ++ [v] ++ cutV xs (some ((i : Int) + 1)) none = xs.set i v := by
  have e1 : cutV xs none (some (i : Int)) = xs.take i := by have := cut_map id xs i; simpa using this
  have e2 : cutV xs (some ((i : Int) + 1)) none = xs.drop (i + 1) := by have := cut_map_from id xs (i + 1); simpa using this
  rw [e1, e2, List.set_eq_take_append_cons_drop, if_pos h]
  simp
noncomputable def BadN (m : Int) (t : Tr) : Prop := ∀ lo hi, -m ≤ lo → hi ≤ m → wholeT lo hi t = false
noncomputable def spBadNum : Sp := fun vs H Q _ => ∃ (d l : Addr) (m : Int), vs = [.ref d, .int m] ∧ DealAt H d l ∧ 0 ≤ m ∧ m ≤ 1000000000 ∧ ∀ (v : V) (t : Tr) (H' : Hp), TV H' v t → BadN m t → DealAt H' d l → But d l H H' → Q v H'
noncomputable def spBadNm : Sp := fun vs H Q _ => ∃ (d l : Addr), vs = [.ref d] ∧ DealAt H d l ∧ ∀ (v : V) (t : Tr) (H' : Hp), TV H' v t → nameT t = false → DealAt H' d l → But d l H H' → Q v H'
noncomputable def spPut : Sp := fun vs H Q _ => ∃ (a : Addr) (xs : List V) (i : Nat) (v : V), vs = [.ref a, .int i, v] ∧ H a = some (.tup xs) ∧ i < xs.length ∧ xs.length ≤ 100 ∧ ∀ (p : Addr) (H' : Hp), H' p = some (.tup (xs.set i v)) → Same H H' → Q (.ref p) H'
theorem bad_far {m f : Int} (h : m < f) : BadN m (.int f) ∧ BadN m (.int (0 - f)) := by
  constructor
  · intro lo hi h1 h2
    simp only [wholeT]
    rw [decide_eq_false (show ¬ f ≤ hi by omega), Bool.and_false]
  · intro lo hi h1 h2
    simp only [wholeT]
    rw [decide_eq_false (show ¬ lo ≤ 0 - f by omega), Bool.false_and]
theorem ok__law_bad_number   (T : Txt w K mg) (L : FnL K mg "_law_bad_number" s__law_bad_number ["_law_deal_here", "_law_most"]) (F_law_draw : Fn P w K mg base "_law_draw" 1 ["_law_deal_here", "_law_many_here"] (spDraw)) : Fn P w K mg base "_law_bad_number" 2 ["_law_deal_here", "_law_most"] (spBadNum) := by
  have nd := sc__law_bad_number.nd
  refine L.ok sc__law_bad_number (fun vs H Q E h => ?_) (fun f cdv A outer s H vs Q E hr h => ?_) <;> obtain ⟨d, l, m, rfl, D, m0, m1, k⟩ := h
  · rfl
  have hu := hu_of hr
  refine ⟨_, (pss_cons (ps_set (i := 2) nd rfl (by first | exact Or.inl rfl | exact Or.inr rfl) (pe_op op_add (pe_op op_add (pvM 1) pe_int) (pe_op op_mul (pe_callF F_law_draw (hr.mono (by first | decide | omega)) rfl (pa_cons (pvM 0) (pa_cons pe_int pa_nil))) (pe_callF F_law_draw (hr.mono (by first | decide | omega)) rfl (pa_cons (pvM 0) (pa_cons (pe_op op_pow pe_int pe_int) pa_nil))))))
    (pss_one (ps_ret (pe_ix ix_L (pe_lst (pa_cons pe_bl (pa_cons pe_non (pa_cons pe_str (pa_cons (pe_tup (pa_cons pe_int pa_nil)) (pa_cons (pvM 2) (pa_cons (pe_op op_sub pe_int (pvM 2)) pa_nil))))))) (pe_callF F_law_draw (hr.mono (by first | decide | omega)) rfl (pa_cons (pvM 0) (pa_cons pe_int pa_nil))) (fun _ _ => rfl))))), ?_⟩
  (try ctx_has vcx true_and)
  refine draw_rd D (by decide) (by decide) fun r H1 r0 r1 D1 B1 => ⟨⟨by decide, by decide, by decide⟩, ?_⟩
  refine draw_rd D1 (by decide) (by decide) fun r2 H2 r20 r21 D2 B2 => ?_
  refine ⟨_, rfl, _, rfl, cmul_small r0 (by omega), by decide, fun p hp => ⟨by decide, fun p1 hp1 => ?_⟩⟩
  have hf : m < m + 1 + r * r2 := by
    have := Int.mul_nonneg r0 r20
    omega
  have D3 := D2.new (o := .tup [V.int 1]) hp
  refine pick (ts := [.bl true, .non, .str "3", .tup [.int 1], .int (m + 1 + r * r2), .int (0 - (m + 1 + r * r2))]) (BadN m) D3 hp1 ⟨_, _, rfl, rfl, _, _, rfl, rfl, _, _, rfl, ⟨rfl, by decide⟩, _, _, rfl, ⟨p, _, rfl, upd_same, TVs.one rfl⟩, _, _, rfl, rfl, _, _, rfl, rfl, rfl⟩ (fun t ht => ?_) (by decide) (by decide) rfl fun r3 v t H3 ha tv hb D4 B4 h4 => ⟨_, rfl, _, h4, _, ha, k v t H3 tv hb D4 (((B1.trans B2).new hp).trans B4)⟩
  simp only [List.mem_cons, List.not_mem_nil, or_false] at ht
  rcases ht with rfl | rfl | rfl | rfl | rfl | rfl
  · exact fun _ _ _ _ => rfl
  · exact fun _ _ _ _ => rfl
  · exact fun _ _ _ _ => rfl
  · exact fun _ _ _ _ => rfl
  · exact (bad_far hf).1
  · exact (bad_far hf).2
theorem ok__law_bad_name   (T : Txt w K mg) (L : FnL K mg "_law_bad_name" s__law_bad_name ["_law_deal_here"]) (F_law_draw : Fn P w K mg base "_law_draw" 1 ["_law_deal_here", "_law_many_here"] (spDraw)) : Fn P w K mg base "_law_bad_name" 2 ["_law_deal_here"] (spBadNm) := by
  have nd := sc__law_bad_name.nd
  refine L.ok sc__law_bad_name (fun vs H Q E h => ?_) (fun f cdv A outer s H vs Q E hr h => ?_) <;> obtain ⟨d, l, rfl, D, k⟩ := h
  · rfl
  have hu := hu_of hr
  refine ⟨_, (pss_cons (ps_set (i := 1) nd rfl (by first | exact Or.inl rfl | exact Or.inr rfl) (pe_lst (pa_cons pe_str (pa_cons pe_str (pa_cons pe_str (pa_cons pe_str (pa_cons pe_str (pa_cons pe_str (pa_cons pe_str (pa_cons pe_str (pa_cons pe_str (pa_cons pe_non (pa_cons pe_int (pa_cons pe_bl (pa_cons (pe_tup (pa_cons pe_str pa_nil)) (pa_cons (pe_tup pa_nil) pa_nil))))))))))))))))
    (pss_one (ps_ret (pe_ix ix_L (pvM 1) (pe_callF F_law_draw (hr.mono (by first | decide | omega)) rfl (pa_cons (pvM 0) (pa_cons pe_int pa_nil))) (fun _ _ => rfl))))), ?_⟩
  (try ctx_has vcx true_and)
  refine ⟨by decide, fun p hp => ⟨by decide, fun p1 hp1 => ⟨by decide, fun p2 hp2 => ?_⟩⟩⟩
  have pp1 : p ≠ p1 := by rintro rfl; rw [upd_same] at hp1; cases hp1
  have st : ∀ {x : Str}, x.length ≤ 20 → TV (upd (upd H p (HO.tup [V.str (Str.ofString "a")])) p1 (HO.tup [])) (.str x) (.str x) := fun h => ⟨rfl, h⟩
  refine pick (ts := [.str "in", .str "from", .str "to", .str "end", .str "", .str "A", .str "a1", .str "abcdefghi", .str "a b", .non, .int 5, .bl true, .tup [.str "a"], .tup []]) (fun t => nameT t = false) ((D.new hp).new hp1) hp2
    (.cons (st (by decide)) (.cons (st (by decide)) (.cons (st (by decide)) (.cons (st (by decide)) (.cons (st (by decide)) (.cons (st (by decide)) (.cons (st (by decide)) (.cons (st (by decide)) (.cons (st (by decide)) (.cons rfl (.cons rfl (.cons rfl (.cons ⟨p, _, rfl, by rw [upd_ne pp1]; exact upd_same, TVs.one ⟨rfl, by decide⟩⟩ (.cons ⟨p1, [], rfl, upd_same, rfl⟩ rfl)))))))))))))) (fun t ht => ?_) (by decide) (by decide) rfl fun r3 v t H3 ha tv hb D4 B4 h4 => ⟨_, rfl, _, h4, _, ha, k v t H3 tv hb D4 ((((But.refl H).new hp).new hp1).trans B4)⟩
  simp only [List.mem_cons, List.not_mem_nil, or_false] at ht
  rcases ht with rfl | rfl | rfl | rfl | rfl | rfl | rfl | rfl | rfl | rfl | rfl | rfl | rfl | rfl
  all_goals decide +kernel
theorem ok__law_put   (T : Txt w K mg) (L : FnL K mg "_law_put" s__law_put ["_law_things", "_law_place", "_law_thing"])  : Fn P w K mg base "_law_put" 1 ["_law_things", "_law_place", "_law_thing"] (spPut) := by
  have nd := sc__law_put.nd
  refine L.ok sc__law_put (fun vs H Q E h => ?_) (fun f cdv A outer s H vs Q E hr h => ?_) <;> obtain ⟨a, xs, i, v, rfl, ha, hi, hl, k⟩ := h
  · rfl
  have hu := hu_of hr
  refine ⟨_, (pss_one (ps_ret (pe_op op_catTs (pe_op op_catTs (pe_slice sl_Ts (pvM 0) po_none (po_some (pvM 1))) (pe_tup (pa_cons (pvM 2) pa_nil))) (pe_slice sl_Ts (pvM 0) (po_some (pe_op op_add (pvM 1) pe_int)) po_none)))), ?_⟩
  (try ctx_has vcx true_and ha)
  intro p H1 h1 s1
  refine ⟨by decide, fun p1 hp1 => ?_⟩
  refine ⟨_, by rw [upd_ne (ne_of_none h1 hp1)]; exact h1, _, upd_same, ?_, fun p2 H2 h2 s2 => ?_⟩
  · exact Nat.le_of_lt (small1000 (by have := cutV_le xs none (some (i : Int)); simp; omega))
  have h2a := s2 _ _ (Same.upd0 hp1 _ _ (s1 _ _ ha))
  refine ⟨_, h2a, fun p3 H3 h3 s3 => ?_⟩
  refine ⟨_, s3 _ _ h2, _, h3, ?_, fun p4 H4 h4 s4 => ?_⟩
  · have h5 := cutV_le xs none (some (i : Int))
    have h6 := cutV_le xs (some ((i : Int) + 1)) none
    exact Nat.le_of_lt (small1000 (by simp; omega))
  refine k p4 H4 ?_ ((s1.trans ((Same.upd0 hp1).trans s2)).trans (s3.trans s4))
  rw [h4, put_set hi]
theorem tupOf_bad {g : Tr → Bool} {lo hi : Int} {l : List Tr} {t : Tr} (h : t ∈ l) (hg : g t = false) : tupOf g lo hi (.tup l) = false := by
  have : l.all g = false := by
    rw [Bool.eq_false_iff]
    intro z
    rw [List.all_eq_true.mp z t h] at hg
    cases hg
  simp only [tupOf, this, Bool.and_false]
theorem tupOf_long {g : Tr → Bool} {lo hi : Int} {l : List Tr} (h : hi < (l.length : Int)) : tupOf g lo hi (.tup l) = false := by
  simp only [tupOf]
  rw [decide_eq_false (show ¬ (l.length : Int) ≤ hi by omega), Bool.false_and, Bool.and_false]
theorem tupOf_short {g : Tr → Bool} {lo hi : Int} {l : List Tr} (h : (l.length : Int) < lo) : tupOf g lo hi (.tup l) = false := by
  simp only [tupOf]
  rw [decide_eq_false (show ¬ lo ≤ (l.length : Int) by omega), Bool.false_and]
theorem dup_not {α : Type} {l : List α} {n j : Nat} {x : α} (hx : l[j]? = some x) (hj : j < n) : ¬ (l.take n ++ [x]).Nodup := fun h => by
  rw [List.nodup_append] at h
  have hm : x ∈ l.take n := List.mem_of_getElem? (i := j) (by rw [List.getElem?_take_of_lt hj]; exact hx)
  exact h.2.2 x hm x (by simp) rfl
theorem mem_set_at {α : Type} {l : List α} {i : Nat} {x : α} (h : i < l.length) : x ∈ l.set i x := List.mem_of_getElem? (i := i) (by simp [h])
noncomputable def SpareAt (H : Hp) (p : Addr) (ws : List Str) : Prop := H p = some (.lst (ws.map V.str)) ∧ ws.length = 14 ∧ GoodN ws
theorem SpareAt.ne {H : Hp} {p d l : Addr} {ws : List Str} (h : SpareAt H p ws) (D : DealAt H d l) : p ≠ d ∧ p ≠ l := by
  obtain ⟨m, sd, n, xs, hd, hl, _⟩ := D.ex
  refine ⟨ne_of h.1 hd (by intro z; cases z), ?_⟩
  rintro rfl
  have h1 := h.1
  rw [hl] at h1
  have h2 := h.2.1
  match ws, xs, h1, h2 with
  | a :: b, [], h1, _ => cases h1
  | a :: b, c :: e, h1, _ => cases h1
theorem SpareAt.but {H H' : Hp} {p d l : Addr} {ws : List Str} (h : SpareAt H p ws) (D : DealAt H d l) (B : But d l H H') : SpareAt H' p ws := ⟨B p _ (h.ne D).1 (h.ne D).2 h.1, h.2⟩
theorem SpareAt.same {H H' : Hp} {p : Addr} {ws : List Str} (h : SpareAt H p ws) (B : Same H H') : SpareAt H' p ws := ⟨B _ _ h.1, h.2⟩
noncomputable def spBadNs : Sp := fun vs H Q _ => ∃ (d l p : Addr) (v : V) (n : Tr) (ws : List Str), vs = [.ref d, v, .ref p] ∧ DealAt H d l ∧ TV H v n ∧ namesT n = true ∧ SpareAt H p ws ∧ ∀ (v : V) (t : Tr) (H' : Hp), TV H' v t → namesT t = false → DealAt H' d l → But d l H H' → Q v H'
theorem put_rd {a : Addr} {i : Int} {v : V} {t : Tr} {l : List Tr} {xs : List V} {H : Hp} {Q : VK} {E : XK} (ha : H a = some (.tup xs)) (hl : TVs H xs l) (tv : TV H v t) (i0 : 0 ≤ i) (i1 : i < (l.length : Int)) (hn : l.length ≤ 100) (k : ∀ (p : Addr) (H' : Hp), TV H' (.ref p) (.tup (l.set i.toNat t)) → Same H H' → Q (.ref p) H') : spPut [.ref a, .int i, v] H Q E := by
  obtain ⟨n, rfl⟩ := Int.eq_ofNat_of_zero_le i0
  have e := hl.len
  refine ⟨a, xs, n, v, rfl, ha, by omega, by omega, fun p H' hp s => k p H' ⟨p, _, rfl, hp, ?_⟩ s⟩
  exact TVs.set (TV.keep (Same.keepT s) t tv) n (TVs.keep (Same.keepT s) l hl)
theorem dup_rd {n : Nat} {xs : List V} {l : List Tr} {H : Hp} {a : Addr} {r : Int} {Q : VK} (ha : H a = some (.tup xs)) (hl : TVs H xs l) (h1 : 1 ≤ l.length) (h2 : l.length ≤ 100) (hn : 1 ≤ n) (r0 : 0 ≤ r)
    (k : ∀ (p : Addr) (H' : Hp) (j : Nat) (x : Tr), l[j]? = some x → j < n → TV H' (.ref p) (.tup (l.take n ++ [x])) → Same H H' → Q (.ref p) H') :
    ∀ (p : Addr) (H' : Hp), H' p = some (.tup (cutV xs none (some (n : Int)))) → Same H H' → ∃ ys, H' a = some (.tup ys) ∧ (0 < if (ys.length : Int) < (n : Int) then (ys.length : Int) else (n : Int)) ∧ ∃ xs, H' a = some (.tup xs) ∧ ∃ v, atI xs (r % if (ys.length : Int) < (n : Int) then (ys.length : Int) else (n : Int)) = some v ∧ 1 ≤ sizeLine ∧
      ∀ p1, H' p1 = none → ∃ xs, upd H' p1 (.tup [v]) p = some (.tup xs) ∧ ∃ ys, upd H' p1 (.tup [v]) p1 = some (.tup ys) ∧ xs.length + ys.length ≤ sizeLine ∧ ∀ (p : Addr) (H2 : Hp), H2 p = some (.tup (xs ++ ys)) → Same (upd H' p1 (.tup [v])) H2 → Q (.ref p) H2 := by
  intro p H1 hp s1
  have e := hl.len
  have ha1 := s1 _ _ ha
  have hm : 0 < if (xs.length : Int) < (n : Int) then (xs.length : Int) else (n : Int) := by split <;> omega
  have m0 := Int.emod_nonneg r (show (if (xs.length : Int) < (n : Int) then (xs.length : Int) else (n : Int)) ≠ 0 by omega)
  have m1 := Int.emod_lt_of_pos r hm
  obtain ⟨j, hj⟩ := Int.eq_ofNat_of_zero_le m0
  have hjl : j < l.length ∧ j < n := by rw [hj] at m1; split at m1 <;> omega
  obtain ⟨v, ev, tv⟩ := hl.get (i := j) (t := l[j]'hjl.1) (by simp [hjl.1])
  refine ⟨xs, ha1, hm, xs, ha1, v, by rw [hj]; exact atI_nat ev, by decide, fun p1 hp1 => ?_⟩
  have ecut : cutV xs none (some (n : Int)) = xs.take n := by have := cut_map id xs n; simpa using this
  rw [ecut] at hp
  refine ⟨_, by rw [upd_ne (ne_of_none hp hp1)]; exact hp, _, upd_same, ?_, fun p2 H2 h2' s2 => ?_⟩
  · exact Nat.le_of_lt (small1000 (by simp; omega))
  have s3 : Same H H2 := s1.trans ((Same.upd0 hp1).trans s2)
  refine k p2 H2 j (l[j]'hjl.1) (List.getElem?_eq_getElem hjl.1) hjl.2 ⟨p2, _, rfl, h2', ?_⟩ s3
  exact (TVs.take n (TVs.keep (Same.keepT s3) l hl)).app (TVs.one (TV.keep (Same.keepT s3) _ tv))
theorem un_dup {l : List Tr} {n j : Nat} {x : Tr} (hx : l[j]? = some x) (hj : j < n) : unX (.tup (l.take n ++ [x])) = false := dec_false (dup_not hx hj)
theorem ok__law_bad_names   (T : Txt w K mg) (L : FnL K mg "_law_bad_names" s__law_bad_names ["_law_deal_here", "_law_names_here", "_law_spare"]) (F_law_draw : Fn P w K mg base "_law_draw" 1 ["_law_deal_here", "_law_many_here"] (spDraw)) (F_law_bad_name : Fn P w K mg base "_law_bad_name" 2 ["_law_deal_here"] (spBadNm)) (F_law_put : Fn P w K mg base "_law_put" 1 ["_law_things", "_law_place", "_law_thing"] (spPut)) : Fn P w K mg base "_law_bad_names" 3 ["_law_deal_here", "_law_names_here", "_law_spare"] (spBadNs) := by
  have nd := sc__law_bad_names.nd
  refine L.ok sc__law_bad_names (fun vs H Q E h => ?_) (fun f cdv A outer s H vs Q E hr h => ?_) <;> obtain ⟨d, l, p, v, n, ws, rfl, D, tv, hn, hS, k⟩ := h
  · rfl
  have hu := hu_of hr
  refine ⟨_, (pss_cons (ps_set (i := 3) nd rfl (by first | exact Or.inl rfl | exact Or.inr rfl) (pe_callF F_law_draw (hr.mono (by first | decide | omega)) rfl (pa_cons (pvM 0) (pa_cons pe_int pa_nil))))
    (pss_cons (ps_set (i := 4) nd rfl (by first | exact Or.inl rfl | exact Or.inr rfl) (pe_callF F_law_draw (hr.mono (by first | decide | omega)) rfl (pa_cons (pvM 0) (pa_cons (pe_callB call_lenT rfl T.b_len PySem.boot_len (pa_cons (pvM 1) pa_nil)) pa_nil))))
    (pss_cons (ps_if (pt_cmpR op_eq (pvM 3) pe_int (nomark _)) (pss_one (ps_ret (pe_ix ix_L (pe_lst (pa_cons (pe_tup pa_nil) (pa_cons pe_non (pa_cons pe_str (pa_cons pe_int pa_nil))))) (pe_callF F_law_draw (hr.mono (by first | decide | omega)) rfl (pa_cons (pvM 0) (pa_cons pe_int pa_nil))) (fun _ _ => rfl)))) pss_nil)
    (pss_cons (ps_if (pt_cmpR op_eq (pvM 3) pe_int (nomark _)) (pss_one (ps_ret (pe_callTy call_tupL rfl T.b_tuple (show bootBuiltins "tuple" = some (.type "tuple") by decide +kernel) (pa_cons (pe_slice sl_L (pvM 2) po_none (po_some pe_int)) pa_nil)))) pss_nil)
    (pss_cons (ps_if (pt_cmpR op_eq (pvM 3) pe_int (nomark _)) (pss_one (ps_ret (pe_op op_catTs (pe_slice sl_Ts (pvM 1) po_none (po_some pe_int)) (pe_tup (pa_cons (pe_ix ix_T (pvM 1) (pe_op op_mod (pvM 4) (pe_callB (call_min2 rfl) rfl T.b_min (show bootBuiltins "min" = some (.builtin "min") by decide +kernel) (pa_cons pe_int (pa_cons (pe_callB call_lenT rfl T.b_len PySem.boot_len (pa_cons (pvM 1) pa_nil)) pa_nil)))) (fun _ _ => rfl)) pa_nil))))) pss_nil)
    (pss_one (ps_ret (pe_callF F_law_put (hr.mono (by first | decide | omega)) rfl (pa_cons (pvM 1) (pa_cons (pvM 4) (pa_cons (pe_callF F_law_bad_name (hr.mono (by first | decide | omega)) rfl (pa_cons (pvM 0) pa_nil)) pa_nil))))))))))), ?_⟩
  obtain ⟨us, a, rfl, ha, rfl, u1, u2⟩ := names_at tv hn
  (try ctx_has vcx true_and ha)
  refine draw_rd D (by decide) (by decide) fun r H1 r0 r1 D1 B1 => ?_
  have h1 := B1.keepT D _ _ ha
  (try ctx_has vcx true_and h1)
  refine draw_rd D1 (by rw [List.length_map]; omega) (by rw [List.length_map]; omega) fun r2 H2 r20 r21 D2 B2 => ?_
  have h2 := B2.keepT D1 _ _ h1
  have S2 := (hS.but D B1).but D1 B2
  have B02 := B1.trans B2
  rw [List.length_map] at r21
  (try ctx_has vcx true_and h2)
  refine ite2 (fun e => ?_) (fun e => ?_)
  · refine ⟨by decide, fun q hq => ⟨by decide, fun q1 hq1 => ?_⟩⟩
    refine pick (ts := [.tup [], .non, .str "ab", .int 7]) (fun t => namesT t = false) (D2.new hq) hq1 (.cons ⟨q, [], rfl, upd_same, rfl⟩ (.cons rfl (.cons ⟨rfl, by decide⟩ (.cons rfl rfl)))) (fun t ht => ?_) (by decide) (by decide) rfl fun r3 v t H3 ha tv hb D4 B4 h4 => ⟨_, rfl, _, h4, _, ha, k v t H3 tv hb D4 ((B02.new hq).trans B4)⟩
    simp only [List.mem_cons, List.not_mem_nil, or_false] at ht
    rcases ht with rfl | rfl | rfl | rfl <;> rfl
  refine ite2 (fun e => ?_) (fun e => ?_)
  · refine ⟨_, S2.1, fun q hq => ⟨_, upd_same, fun q1 hq1 => ?_⟩⟩
    have ec : cutV (ws.map V.str) none (some 13) = (ws.take 13).map V.str := cut_map V.str ws 13
    rw [ec] at hq1 ⊢
    refine k _ (.tup ((ws.take 13).map Tr.str)) _ (tv_names upd_same (fun w hw => S2.2.2.2 w (List.mem_of_mem_take hw))) ?_ ((D2.new hq).new hq1) ((B02.new hq).new hq1)
    unfold namesT
    rw [tupOf_long (by rw [List.length_map, List.length_take, S2.2.1]; decide), Bool.false_and]
  refine ite2 (fun e => ?_) (fun e => ?_)
  · have tv2 : TVs H2 (us.map V.str) (us.map Tr.str) := by
      obtain ⟨a', xs, e1, e2, e3⟩ := TV.keep (B02.keepT D) _ tv
      cases e1
      rw [h2] at e2
      cases e2
      exact e3
    refine dup_rd (n := 11) h2 tv2 (by simpa using u1) (by simp; omega) (by decide) r20 fun q H3 j x hx hj tq s3 => k _ _ H3 tq ?_ (D2.same s3) (B02.same s3)
    unfold namesT
    rw [un_dup hx hj, Bool.and_false]
  refine ⟨d, l, rfl, D2, fun v t H3 tv3 hb D3 B3 => ?_⟩
  have tv2 : TVs H3 (us.map V.str) (us.map Tr.str) := by
    obtain ⟨a', xs, e1, e2, e3⟩ := TV.keep ((B02.trans B3).keepT D) _ tv
    cases e1
    rw [B3.keepT D2 _ _ h2] at e2
    cases e2
    exact e3
  refine put_rd (B3.keepT D2 _ _ h2) tv2 tv3 r20 (by simpa using r21) (by simp; omega) fun q H4 tq s4 => k _ _ H4 tq ?_ (D3.same s4) ((B02.trans B3).same s4)
  unfold namesT
  rw [tupOf_bad (mem_set_at (by simp; omega)) hb, Bool.false_and]
theorem tvs_rng {H : Hp} (lo : Int) (n : Nat) : TVs H (rngV lo n) ((List.range n).map fun i : Nat => .int (lo + (i : Int))) := by
  have := tvs_ints (H := H) (ns := (List.range n).map fun i : Nat => lo + (i : Int))
  rw [List.map_map, List.map_map] at this
  exact this
noncomputable def spBadX (g : Tr → Bool) : Sp := fun vs H Q _ => ∃ (d l : Addr) (v : V) (n : Tr), vs = [.ref d, v] ∧ DealAt H d l ∧ TV H v n ∧ g n = true ∧ ∀ (v : V) (t : Tr) (H' : Hp), TV H' v t → g t = false → DealAt H' d l → But d l H H' → Q v H'
theorem and_tup {g : Tr → Bool} {lo hi : Int} {t : Tr} {b : Bool} (h : (tupOf g lo hi t && b) = true) : ∃ l, t = .tup l ∧ lo ≤ l.length ∧ (l.length : Int) ≤ hi ∧ l.all g = true := tupOf_tup (Bool.and_eq_true_iff.mp h).1
theorem ok__law_bad_values   (T : Txt w K mg) (L : FnL K mg "_law_bad_values" s__law_bad_values ["_law_deal_here", "_law_values"]) (F_law_draw : Fn P w K mg base "_law_draw" 1 ["_law_deal_here", "_law_many_here"] (spDraw)) (F_law_bad_number : Fn P w K mg base "_law_bad_number" 2 ["_law_deal_here", "_law_most"] (spBadNum)) (F_law_put : Fn P w K mg base "_law_put" 1 ["_law_things", "_law_place", "_law_thing"] (spPut)) : Fn P w K mg base "_law_bad_values" 3 ["_law_deal_here", "_law_values"] (spBadX valuesT) := by
  have nd := sc__law_bad_values.nd
  refine L.ok sc__law_bad_values (fun vs H Q E h => ?_) (fun f cdv A outer s H vs Q E hr h => ?_) <;> obtain ⟨d, l, v, n, rfl, D, tv, hn, k⟩ := h
  · rfl
  have hu := hu_of hr
  refine ⟨_, (pss_cons (ps_set (i := 2) nd rfl (by first | exact Or.inl rfl | exact Or.inr rfl) (pe_callF F_law_draw (hr.mono (by first | decide | omega)) rfl (pa_cons (pvM 0) (pa_cons pe_int pa_nil))))
    (pss_cons (ps_if (PW.pt (pw_or (pt_cmpR op_eq (pvM 2) pe_int (nomark _)) (pw_or1 (pt_cmpR op_eq (pe_callB call_lenT rfl T.b_len PySem.boot_len (pa_cons (pvM 1) pa_nil)) pe_int (nomark _))))) (pss_one (ps_ret (pe_ix ix_L (pe_lst (pa_cons pe_non (pa_cons pe_int (pa_cons pe_str (pa_cons (pe_tup (pa_cons pe_bl pa_nil)) (pa_cons (pe_tup (pa_cons pe_non pa_nil)) (pa_cons (pe_tup (pa_cons pe_str pa_nil)) (pa_cons (pe_tup (pa_cons (pe_tup pa_nil) pa_nil)) pa_nil)))))))) (pe_callF F_law_draw (hr.mono (by first | decide | omega)) rfl (pa_cons (pvM 0) (pa_cons pe_int pa_nil))) (fun _ _ => rfl)))) pss_nil)
    (pss_cons (ps_set (i := 3) nd rfl (by first | exact Or.inl rfl | exact Or.inr rfl) (pe_callF F_law_draw (hr.mono (by first | decide | omega)) rfl (pa_cons (pvM 0) (pa_cons (pe_callB call_lenT rfl T.b_len PySem.boot_len (pa_cons (pvM 1) pa_nil)) pa_nil))))
    (pss_cons (ps_if (pt_cmpR op_eq (pvM 2) pe_int (nomark _)) (pss_one (ps_ret (pe_op op_catTs (pe_slice sl_Ts (pvM 1) po_none (po_some pe_int)) (pe_tup (pa_cons (pe_ix ix_T (pvM 1) (pe_op op_mod (pvM 3) (pe_callB (call_min2 rfl) rfl T.b_min (show bootBuiltins "min" = some (.builtin "min") by decide +kernel) (pa_cons pe_int (pa_cons (pe_callB call_lenT rfl T.b_len PySem.boot_len (pa_cons (pvM 1) pa_nil)) pa_nil)))) (fun _ _ => rfl)) pa_nil))))) pss_nil)
    (pss_cons (ps_if (pt_cmpR op_eq (pvM 2) pe_int (nomark _)) (pss_one (ps_ret (pe_tuprange2 rfl rfl T.b_tuple rfl T.b_range (pa_cons (pe_callB call_lenT rfl T.b_len PySem.boot_len (pa_cons (pvM 1) pa_nil)) (pa_cons (pe_op op_add (pe_callB call_lenT rfl T.b_len PySem.boot_len (pa_cons (pvM 1) pa_nil)) pe_int) pa_nil))))) pss_nil)
    (pss_one (ps_ret (pe_callF F_law_put (hr.mono (by first | decide | omega)) rfl (pa_cons (pvM 1) (pa_cons (pvM 3) (pa_cons (pe_callF F_law_bad_number (hr.mono (by first | decide | omega)) rfl (pa_cons (pvM 0) (pa_cons (pe_op op_pow pe_int pe_int) pa_nil))) pa_nil))))))))))), ?_⟩
  obtain ⟨l0, rfl, n1, n2, n3⟩ := and_tup hn
  obtain ⟨a, xs, rfl, ha, hl⟩ := tv
  have hlen := hl.len
  (try ctx_has vcx true_and ha hlen)
  refine draw_rd D (by decide) (by decide) fun r H1 r0 r1 D1 B1 => ?_
  have h1 := B1.keepT D _ _ ha
  have hl1 := TVs.keep (B1.keepT D) _ hl
  (try ctx_has vcx true_and h1 hlen)
  refine ite2 (fun e => ?_) (fun e => ?_)
  · kpf_say (H1, q1, hq1, hh1, ss1) al G1 (HO.tup [V.bl true])
    kpf_say (G1, q2, hq2, hh2, ss2) al G2 (HO.tup [V.non])
    kpf_say (G2, q3, hq3, hh3, ss3) al G3 (HO.tup [V.str "3"])
    kpf_say (G3, q4, hq4, hh4, ss4) al G4 (HO.tup [])
    kpf_say (G4, q5, hq5, hh5, ss5) al G5 (HO.tup [V.ref q4])
    refine ⟨by decide, fun q6 hq6 => ?_⟩
    refine pick (ts := [.non, .int 5, .str "ab", .tup [.bl true], .tup [.non], .tup [.str "3"], .tup [.tup []]]) (fun t => valuesT t = false) (D1.same (((((ss1).trans ss2).trans ss3).trans ss4).trans ss5)) hq6 (.cons (rfl) (.cons (rfl) (.cons (⟨rfl, by decide⟩) (.cons (⟨q1, _, rfl, (ss5 _ _ (ss4 _ _ (ss3 _ _ (ss2 _ _ hh1)))), (.cons (rfl) rfl)⟩) (.cons (⟨q2, _, rfl, (ss5 _ _ (ss4 _ _ (ss3 _ _ hh2))), (.cons (rfl) rfl)⟩) (.cons (⟨q3, _, rfl, (ss5 _ _ (ss4 _ _ hh3)), (.cons (⟨rfl, by decide⟩) rfl)⟩) (.cons (⟨q5, _, rfl, hh5, (.cons (⟨q4, _, rfl, (ss5 _ _ hh4), rfl⟩) rfl)⟩) rfl))))))) (fun t ht => ?_) (by decide) (by decide) rfl fun r3 v t H3 ha tv hb D4 B4 h4 => ⟨_, rfl, _, h4, _, ha, k v t H3 tv hb D4 ((B1.same (((((ss1).trans ss2).trans ss3).trans ss4).trans ss5)).trans B4)⟩
    simp only [List.mem_cons, List.not_mem_nil, or_false] at ht
    rcases ht with rfl | rfl | rfl | rfl | rfl | rfl | rfl
    all_goals rfl
  refine ite2 (fun e0 => ?_) (fun e0 => ?_)
  · kpf_say (H1, q7, hq7, hh7, ss7) al G7 (HO.tup [V.bl true])
    kpf_say (G7, q8, hq8, hh8, ss8) al G8 (HO.tup [V.non])
    kpf_say (G8, q9, hq9, hh9, ss9) al G9 (HO.tup [V.str "3"])
    kpf_say (G9, q10, hq10, hh10, ss10) al G10 (HO.tup [])
    kpf_say (G10, q11, hq11, hh11, ss11) al G11 (HO.tup [V.ref q10])
    refine ⟨by decide, fun q12 hq12 => ?_⟩
    refine pick (ts := [.non, .int 5, .str "ab", .tup [.bl true], .tup [.non], .tup [.str "3"], .tup [.tup []]]) (fun t => valuesT t = false) (D1.same (((((ss7).trans ss8).trans ss9).trans ss10).trans ss11)) hq12 (.cons (rfl) (.cons (rfl) (.cons (⟨rfl, by decide⟩) (.cons (⟨q7, _, rfl, (ss11 _ _ (ss10 _ _ (ss9 _ _ (ss8 _ _ hh7)))), (.cons (rfl) rfl)⟩) (.cons (⟨q8, _, rfl, (ss11 _ _ (ss10 _ _ (ss9 _ _ hh8))), (.cons (rfl) rfl)⟩) (.cons (⟨q9, _, rfl, (ss11 _ _ (ss10 _ _ hh9)), (.cons (⟨rfl, by decide⟩) rfl)⟩) (.cons (⟨q11, _, rfl, hh11, (.cons (⟨q10, _, rfl, (ss11 _ _ hh10), rfl⟩) rfl)⟩) rfl))))))) (fun t ht => ?_) (by decide) (by decide) rfl fun r3 v t H3 ha tv hb D4 B4 h4 => ⟨_, rfl, _, h4, _, ha, k v t H3 tv hb D4 ((B1.same (((((ss7).trans ss8).trans ss9).trans ss10).trans ss11)).trans B4)⟩
    simp only [List.mem_cons, List.not_mem_nil, or_false] at ht
    rcases ht with rfl | rfl | rfl | rfl | rfl | rfl | rfl
    all_goals rfl
  refine draw_rd D1 (by omega) (by omega) fun r2 H2 r20 r21 D2 B2 => ?_
  have h2 := B2.keepT D1 _ _ h1
  have hl2 := TVs.keep (B2.keepT D1) _ hl1
  have B02 := B1.trans B2
  (try ctx_has vcx true_and h2 hlen tTupRng2)
  refine ite2 (fun e => ?_) (fun e => ?_)
  · refine dup_rd (n := 59) h2 hl2 (by omega) (by omega) (by decide) r20 fun q H3 j x hx hj tq s3 => k _ _ H3 tq ?_ (D2.same s3) (B02.same s3)
    unfold valuesT
    rw [un_dup hx hj, Bool.and_false]
  refine ite2 (fun e => ?_) (fun e => ?_)
  · refine ⟨by omega, by omega, by omega, fun q hq => ?_⟩
    refine k _ (.tup ((List.range 61).map fun i : Nat => .int ((l0.length : Int) + (i : Int)))) _ ⟨q, _, rfl, upd_same, ?_⟩ ?_ (D2.new hq) (B02.new hq)
    · have e1 : ((l0.length : Int) + 61 - (l0.length : Int)).toNat = 61 := by omega
      rw [e1]
      exact tvs_rng _ 61
    · unfold valuesT
      rw [tupOf_long (by simp), Bool.false_and]
  refine ⟨⟨by decide, by decide, by decide⟩, d, l, _, rfl, D2, by decide, by decide, fun v t H3 tv3 hb D3 B3 => ?_⟩
  refine put_rd (B3.keepT D2 _ _ h2) (TVs.keep (B3.keepT D2) _ hl2) tv3 r20 (by omega) (by omega) fun q H4 tq s4 => k _ _ H4 tq ?_ (D3.same s4) ((B02.trans B3).same s4)
  unfold valuesT
  rw [tupOf_bad (mem_set_at (by omega)) (show valT t = false from hb (-1000000) 1000000 (by decide) (by decide)), Bool.false_and]
theorem ends33 : endsT (.tup [.int 3, .int 3]) = false := by
  unfold endsT
  rw [show unX (.tup [.int 3, .int 3]) = false from dec_false (by simp), Bool.and_false]
theorem steps_dup {l0 : List Tr} {jj : Nat} {k1 k2 k3 : Int} {z : Tr} (h : l0[jj]? = some (.tup [.int k1, .int k2, .int k3])) (hj : jj < 59) : stepsT (.tup (l0.take 59 ++ [.tup [.int k1, .int k2, z]])) = false := by
  show (tupOf stepT 0 60 (.tup (l0.take 59 ++ [.tup [.int k1, .int k2, z]])) && unT ((l0.take 59 ++ [Tr.tup [.int k1, .int k2, z]]).map fun t => Tr.tup ((itT t).take 2))) = false
  rw [List.map_append, List.map_take]
  have e : (l0.map fun t => Tr.tup ((itT t).take 2))[jj]? = some (.tup [.int k1, .int k2]) := by rw [List.getElem?_map, h]; rfl
  rw [show unT ((l0.map fun t => Tr.tup ((itT t).take 2)).take 59 ++ [Tr.tup [.int k1, .int k2, z]].map fun t => Tr.tup ((itT t).take 2)) = false from dec_false (dup_not e hj), Bool.and_false]
theorem comp_new {lo : Int} {n : Nat} {te : TE} {σ0 : St} {Q : VK} {H1 : Hp} {D : Addr} (f : Nat → Tr) (hD : H1 D = none) (hn : n ≤ 100)
    (he : ∀ (i : Nat) (H2 : Hp) (Q2 : VK), i < n → Same H1 H2 → (∀ y H3, TV H3 y (f i) → Same H2 H3 → Q2 y H3) → te (σ0.set 0 (some (.int (lo + i)))) H2 Q2)
    (hd : ∀ ys H2, TVs H2 ys ((List.range n).map f) → H2 D = some (.lst ys) → Same H1 H2 → Q (.ref D) H2) : CompG (Itr lo n) σ0 (gName 0) tYes te Q H1 D := by
  refine comp_g wlk_range (fun i ys H => TVs H ys ((List.range i).map f) ∧ H D = some (.lst ys) ∧ Same H1 H) ⟨rfl, upd_same, Same.upd0 hD⟩ (fun _ _ _ _ => True.intro) ?_ ?_
  · rintro i x ys H hi hx ⟨hys, hD2, sm⟩
    rw [rngV_length] at hi
    rw [rngV_get hi] at hx
    obtain rfl := Option.some.inj hx
    simp only [gName, tYes, if_true]
    have hl := hys.len
    refine he i H _ hi sm fun y H4 ty s4 => ⟨s4 _ _ hD2, by rw [hl]; simp; exact small1000 (by omega), ?_, upd_same, fun b o e => by rw [upd_ne (ne_of_none e hD)]; exact s4 _ _ (sm b o e)⟩
    have kp : KeepT H4 (upd H4 D (.lst (ys ++ [y]))) := keepT_put (s4 _ _ hD2)
    rw [List.range_succ, List.map_append]
    exact (TVs.keep ((Same.keepT s4).trans kp) _ hys).app (TVs.one (TV.keep kp _ ty))
  · rintro ys H ⟨hys, hD2, sm⟩
    rw [rngV_length] at hys
    exact hd ys H hys hD2 sm
theorem stp_bad {a b c : Tr} (h : stT a = false ∨ valT b = false ∨ stT c = false) : stepT (.tup [a, b, c]) = false := by
  rcases h with h | h | h <;> simp [stepT, h]
theorem ok__law_bad_ends   (T : Txt w K mg) (L : FnL K mg "_law_bad_ends" s__law_bad_ends ["_law_deal_here", "_law_ends"]) (F_law_draw : Fn P w K mg base "_law_draw" 1 ["_law_deal_here", "_law_many_here"] (spDraw)) (F_law_bad_number : Fn P w K mg base "_law_bad_number" 2 ["_law_deal_here", "_law_most"] (spBadNum)) (F_law_put : Fn P w K mg base "_law_put" 1 ["_law_things", "_law_place", "_law_thing"] (spPut)) : Fn P w K mg base "_law_bad_ends" 3 ["_law_deal_here", "_law_ends"] (spBadX endsT) := by
  have nd := sc__law_bad_ends.nd
  refine L.ok sc__law_bad_ends (fun vs H Q E h => ?_) (fun f cdv A outer s H vs Q E hr h => ?_) <;> obtain ⟨d, l, v, n, rfl, D, tv, hn, k⟩ := h
  · rfl
  have hu := hu_of hr
  refine ⟨_, (pss_cons (ps_if (PW.pt (pw_or (pt_cmpR op_eq (pe_callB call_lenT rfl T.b_len PySem.boot_len (pa_cons (pvM 1) pa_nil)) pe_int (nomark _)) (pw_or1 (pt_cmpR op_eq (pe_callF F_law_draw (hr.mono (by first | decide | omega)) rfl (pa_cons (pvM 0) (pa_cons pe_int pa_nil))) pe_int (nomark _))))) (pss_one (ps_ret (pe_ix ix_L (pe_lst (pa_cons pe_non (pa_cons pe_int (pa_cons (pe_tup (pa_cons pe_int pa_nil)) (pa_cons (pe_tup (pa_cons (pe_un un_neg pe_int) pa_nil)) (pa_cons (pe_tup (pa_cons pe_bl pa_nil)) (pa_cons (pe_tup (pa_cons pe_non pa_nil)) (pa_cons (pe_tup (pa_cons pe_int (pa_cons pe_int pa_nil))) pa_nil)))))))) (pe_callF F_law_draw (hr.mono (by first | decide | omega)) rfl (pa_cons (pvM 0) (pa_cons pe_int pa_nil))) (fun _ _ => rfl)))) pss_nil)
    (pss_cons (ps_set (i := 2) nd rfl (by first | exact Or.inl rfl | exact Or.inr rfl) (pe_callF F_law_draw (hr.mono (by first | decide | omega)) rfl (pa_cons (pvM 0) (pa_cons (pe_callB call_lenT rfl T.b_len PySem.boot_len (pa_cons (pvM 1) pa_nil)) pa_nil))))
    (pss_cons (ps_if (pt_cmpR op_eq (pe_callF F_law_draw (hr.mono (by first | decide | omega)) rfl (pa_cons (pvM 0) (pa_cons pe_int pa_nil))) pe_int (nomark _)) (pss_one (ps_ret (pe_op op_catTs (pvM 1) (pe_tup (pa_cons (pe_ix ix_T (pvM 1) (pvM 2) (fun _ _ => rfl)) pa_nil))))) pss_nil)
    (pss_one (ps_ret (pe_callF F_law_put (hr.mono (by first | decide | omega)) rfl (pa_cons (pvM 1) (pa_cons (pvM 2) (pa_cons (pe_callF F_law_bad_number (hr.mono (by first | decide | omega)) rfl (pa_cons (pvM 0) (pa_cons pe_int pa_nil))) pa_nil))))))))), ?_⟩
  obtain ⟨l0, rfl, n1, n2, n3⟩ := and_tup hn
  obtain ⟨a, xs, rfl, ha, hl⟩ := tv
  have hlen := hl.len
  (try ctx_has vcx true_and ha hlen)
  refine ite2 (fun e0 => ?_) (fun e0 => ?_)
  · kpf_say (H, q13, hq13, hh13, ss13) al G13 (HO.tup [V.int 21])
    kpf_say (G13, q14, hq14, hh14, ss14) al G14 (HO.tup [V.int (-1)])
    kpf_say (G14, q15, hq15, hh15, ss15) al G15 (HO.tup [V.bl true])
    kpf_say (G15, q16, hq16, hh16, ss16) al G16 (HO.tup [V.non])
    kpf_say (G16, q17, hq17, hh17, ss17) al G17 (HO.tup [V.int 3, V.int 3])
    refine ⟨by decide, fun q18 hq18 => ?_⟩
    refine pick (ts := [.non, .int 0, .tup [.int 21], .tup [.int (-1)], .tup [.bl true], .tup [.non], .tup [.int 3, .int 3]]) (fun t => endsT t = false) (D.same (((((ss13).trans ss14).trans ss15).trans ss16).trans ss17)) hq18 (.cons (rfl) (.cons (rfl) (.cons (⟨q13, _, rfl, (ss17 _ _ (ss16 _ _ (ss15 _ _ (ss14 _ _ hh13)))), (.cons (rfl) rfl)⟩) (.cons (⟨q14, _, rfl, (ss17 _ _ (ss16 _ _ (ss15 _ _ hh14))), (.cons (rfl) rfl)⟩) (.cons (⟨q15, _, rfl, (ss17 _ _ (ss16 _ _ hh15)), (.cons (rfl) rfl)⟩) (.cons (⟨q16, _, rfl, (ss17 _ _ hh16), (.cons (rfl) rfl)⟩) (.cons (⟨q17, _, rfl, hh17, (.cons (rfl) (.cons (rfl) rfl))⟩) rfl))))))) (fun t ht => ?_) (by decide) (by decide) rfl fun r3 v t H3 ha tv hb D4 B4 h4 => ⟨_, rfl, _, h4, _, ha, k v t H3 tv hb D4 (((But.refl H).same (((((ss13).trans ss14).trans ss15).trans ss16).trans ss17)).trans B4)⟩
    simp only [List.mem_cons, List.not_mem_nil, or_false] at ht
    rcases ht with rfl | rfl | rfl | rfl | rfl | rfl | rfl
    all_goals first | rfl | exact ends33
  refine draw_rd D (by decide) (by decide) fun r H1 r0 r1 D1 B1 => ?_
  have h1 := B1.keepT D _ _ ha
  have hl1 := TVs.keep (B1.keepT D) _ hl
  (try ctx_has vcx true_and h1 hlen)
  refine ite2 (fun e => ?_) (fun e => ?_)
  · kpf_say (H1, q19, hq19, hh19, ss19) al G19 (HO.tup [V.int 21])
    kpf_say (G19, q20, hq20, hh20, ss20) al G20 (HO.tup [V.int (-1)])
    kpf_say (G20, q21, hq21, hh21, ss21) al G21 (HO.tup [V.bl true])
    kpf_say (G21, q22, hq22, hh22, ss22) al G22 (HO.tup [V.non])
    kpf_say (G22, q23, hq23, hh23, ss23) al G23 (HO.tup [V.int 3, V.int 3])
    refine ⟨by decide, fun q24 hq24 => ?_⟩
    refine pick (ts := [.non, .int 0, .tup [.int 21], .tup [.int (-1)], .tup [.bl true], .tup [.non], .tup [.int 3, .int 3]]) (fun t => endsT t = false) (D1.same (((((ss19).trans ss20).trans ss21).trans ss22).trans ss23)) hq24 (.cons (rfl) (.cons (rfl) (.cons (⟨q19, _, rfl, (ss23 _ _ (ss22 _ _ (ss21 _ _ (ss20 _ _ hh19)))), (.cons (rfl) rfl)⟩) (.cons (⟨q20, _, rfl, (ss23 _ _ (ss22 _ _ (ss21 _ _ hh20))), (.cons (rfl) rfl)⟩) (.cons (⟨q21, _, rfl, (ss23 _ _ (ss22 _ _ hh21)), (.cons (rfl) rfl)⟩) (.cons (⟨q22, _, rfl, (ss23 _ _ hh22), (.cons (rfl) rfl)⟩) (.cons (⟨q23, _, rfl, hh23, (.cons (rfl) (.cons (rfl) rfl))⟩) rfl))))))) (fun t ht => ?_) (by decide) (by decide) rfl fun r3 v t H3 ha tv hb D4 B4 h4 => ⟨_, rfl, _, h4, _, ha, k v t H3 tv hb D4 ((B1.same (((((ss19).trans ss20).trans ss21).trans ss22).trans ss23)).trans B4)⟩
    simp only [List.mem_cons, List.not_mem_nil, or_false] at ht
    rcases ht with rfl | rfl | rfl | rfl | rfl | rfl | rfl
    all_goals first | rfl | exact ends33
  refine draw_rd D1 (by omega) (by omega) fun r2 H2 r20 r21 D2 B2 => ?_
  have h2 := B2.keepT D1 _ _ h1
  have hl2 := TVs.keep (B2.keepT D1) _ hl1
  have B02 := B1.trans B2
  refine draw_rd D2 (by decide) (by decide) fun r4 H4 r40 r41 D4 B4 => ?_
  have h4 := B4.keepT D2 _ _ h2
  have hl4 := TVs.keep (B4.keepT D2) _ hl2
  have B04 := B02.trans B4
  (try ctx_has vcx true_and h4 hlen)
  obtain ⟨j, rfl⟩ := Int.eq_ofNat_of_zero_le r20
  have hj : j < l0.length := by omega
  refine ite2 (fun e => ?_) (fun e => ?_)
  · obtain ⟨x, ex, tx⟩ := tv_at hl4 j hj
    refine ⟨x, ex, by decide, fun q hq => ⟨_, by rw [upd_ne (ne_of_none h4 hq)]; exact h4, _, upd_same, ?_, fun q2 H5 h5 s5 => ?_⟩⟩
    · exact Nat.le_of_lt (small1000 (by simp; omega))
    have s45 : Same H4 H5 := (Same.upd0 hq).trans s5
    refine k _ (.tup (l0 ++ [l0.getD j .non])) H5 ⟨q2, _, rfl, h5, (TVs.keep (Same.keepT s45) _ hl4).app (TVs.one (TV.keep (Same.keepT s45) _ tx))⟩ ?_ (D4.same s45) (B04.same s45)
    have e1 : l0[j]? = some (l0.getD j .non) := by simp [List.getD_eq_getElem?_getD, hj]
    have := un_dup e1 hj
    rw [List.take_length] at this
    unfold endsT
    rw [this, Bool.and_false]
  refine ⟨d, l, _, rfl, D4, by decide, by decide, fun v t H5 tv5 hb D5 B5 => ?_⟩
  refine put_rd (B5.keepT D4 _ _ h4) (TVs.keep (B5.keepT D4) _ hl4) tv5 r20 (by omega) (by omega) fun q H6 tq s6 => k _ _ H6 tq ?_ (D5.same s6) ((B04.trans B5).same s6)
  unfold endsT
  rw [tupOf_bad (mem_set_at (by omega)) (show stT t = false from hb 0 20 (by decide) (by decide)), Bool.false_and]
theorem ok__law_bad_steps   (T : Txt w K mg) (L : FnL K mg "_law_bad_steps" s__law_bad_steps ["_law_deal_here", "_law_steps"]) (F_law_draw : Fn P w K mg base "_law_draw" 1 ["_law_deal_here", "_law_many_here"] (spDraw)) (F_law_bad_number : Fn P w K mg base "_law_bad_number" 2 ["_law_deal_here", "_law_most"] (spBadNum)) (F_law_put : Fn P w K mg base "_law_put" 1 ["_law_things", "_law_place", "_law_thing"] (spPut)) : Fn P w K mg base "_law_bad_steps" 3 ["_law_deal_here", "_law_steps"] (spBadX stepsT) := by
  have nd := sc__law_bad_steps.nd
  refine L.ok sc__law_bad_steps (fun vs H Q E h => ?_) (fun f cdv A outer s H vs Q E hr h => ?_) <;> obtain ⟨d, l, v, n, rfl, D, tv, hn, k⟩ := h
  · rfl
  have hu := hu_of hr
  refine ⟨_, (pss_cons (ps_set (i := 2) nd rfl (by first | exact Or.inl rfl | exact Or.inr rfl) (pe_callF F_law_draw (hr.mono (by first | decide | omega)) rfl (pa_cons (pvM 0) (pa_cons pe_int pa_nil))))
    (pss_cons (ps_if (PW.pt (pw_or (pt_cmpR op_eq (pvM 2) pe_int (nomark _)) (pw_or1 (pt_cmpR op_eq (pe_callB call_lenT rfl T.b_len PySem.boot_len (pa_cons (pvM 1) pa_nil)) pe_int (nomark _))))) (pss_one (ps_ret (pe_ix ix_L (pe_lst (pa_cons pe_non (pa_cons pe_int (pa_cons (pe_tup (pa_cons (pe_tup (pa_cons pe_int (pa_cons pe_int pa_nil))) pa_nil)) (pa_cons (pe_tup (pa_cons (pe_tup (pa_cons pe_int (pa_cons pe_int (pa_cons pe_int (pa_cons pe_int pa_nil))))) pa_nil)) (pa_cons (pe_tup (pa_cons pe_int pa_nil)) (pa_cons (pe_tup (pa_cons (pe_tup (pa_cons pe_int (pa_cons pe_int (pa_cons pe_int pa_nil)))) pa_nil)) (pa_cons (pe_tup (pa_cons (pe_tup (pa_cons pe_int (pa_cons pe_int (pa_cons (pe_un un_neg pe_int) pa_nil)))) pa_nil)) pa_nil)))))))) (pe_callF F_law_draw (hr.mono (by first | decide | omega)) rfl (pa_cons (pvM 0) (pa_cons pe_int pa_nil))) (fun _ _ => rfl)))) pss_nil)
    (pss_cons (ps_set (i := 3) nd rfl (by first | exact Or.inl rfl | exact Or.inr rfl) (pe_callF F_law_draw (hr.mono (by first | decide | omega)) rfl (pa_cons (pvM 0) (pa_cons (pe_callB call_lenT rfl T.b_len PySem.boot_len (pa_cons (pvM 1) pa_nil)) pa_nil))))
    (pss_cons (ps_asg (pe_ix ix_T (pvM 1) (pvM 3) (fun _ _ => rfl)) (pg_tupT (n := 3) rfl (pgs_cons (pg_name (i := 4) nd rfl (by first | exact Or.inl rfl | exact Or.inr rfl)) (pgs_cons (pg_name (i := 5) nd rfl (by first | exact Or.inl rfl | exact Or.inr rfl)) (pgs_cons (pg_name (i := 6) nd rfl (by first | exact Or.inl rfl | exact Or.inr rfl)) pgs_nil)))))
    (pss_cons (ps_if (pt_cmpR op_eq (pvM 2) pe_int (nomark _)) (pss_cons (ps_asg (pe_ix ix_T (pvM 1) (pe_op op_mod (pvM 3) (pe_callB (call_min2 rfl) rfl T.b_min (show bootBuiltins "min" = some (.builtin "min") by decide +kernel) (pa_cons pe_int (pa_cons (pe_callB call_lenT rfl T.b_len PySem.boot_len (pa_cons (pvM 1) pa_nil)) pa_nil)))) (fun _ _ => rfl)) (pg_tupT (n := 3) rfl (pgs_cons (pg_name (i := 4) nd rfl (by first | exact Or.inl rfl | exact Or.inr rfl)) (pgs_cons (pg_name (i := 5) nd rfl (by first | exact Or.inl rfl | exact Or.inr rfl)) (pgs_cons (pg_name (i := 6) nd rfl (by first | exact Or.inl rfl | exact Or.inr rfl)) pgs_nil)))))
    (pss_one (ps_ret (pe_op op_catTs (pe_slice sl_Ts (pvM 1) po_none (po_some pe_int)) (pe_tup (pa_cons (pe_tup (pa_cons (pvM 4) (pa_cons (pvM 5) (pa_cons (pe_op op_mod (pe_op op_add (pvM 6) pe_int) pe_int) pa_nil)))) pa_nil)))))) pss_nil)
    (pss_cons (ps_if (pt_cmpR op_eq (pvM 2) pe_int (nomark _)) (pss_one (ps_ret (pe_callTy call_tupL rfl T.b_tuple (show bootBuiltins "tuple" = some (.type "tuple") by decide +kernel) (pa_cons (pe_comp (N := ["_law_k"]) (nt := 1) (js := []) rfl (compOk_of ["_law_deal_here", "_law_steps", "_law_way", "_law_place", "_law_state", "_law_value", "_law_after"] (defScope s__law_bad_steps).names rfl rfl rfl (by decide +kernel)) (pi_range1 rfl T.b_range (pa_cons pe_int pa_nil)) (fun _ _ _ _ _ _ => (pg_name (i := 0) (show List.Nodup [("_law_k" : Str)] by decide +kernel) rfl (Or.inl rfl))) (tgOk_name (by decide)) (fun _ _ _ _ _ _ => pts_nil) (fun _ _ _ _ _ _ => (pe_tup (pa_cons pe_int (pa_cons (pvM 0) (pa_cons pe_int pa_nil)))))) pa_nil)))) pss_nil)
    (pss_cons (ps_if (pt_cmpR op_eq (pvM 2) pe_int (nomark _)) (pss_one (ps_ret (pe_callF F_law_put (hr.mono (by first | decide | omega)) rfl (pa_cons (pvM 1) (pa_cons (pvM 3) (pa_cons (pe_tup (pa_cons (pe_callF F_law_bad_number (hr.mono (by first | decide | omega)) rfl (pa_cons (pvM 0) (pa_cons pe_int pa_nil))) (pa_cons (pvM 5) (pa_cons (pvM 6) pa_nil)))) pa_nil)))))) pss_nil)
    (pss_cons (ps_if (pt_cmpR op_eq (pvM 2) pe_int (nomark _)) (pss_one (ps_ret (pe_callF F_law_put (hr.mono (by first | decide | omega)) rfl (pa_cons (pvM 1) (pa_cons (pvM 3) (pa_cons (pe_tup (pa_cons (pvM 4) (pa_cons (pvM 5) (pa_cons (pe_callF F_law_bad_number (hr.mono (by first | decide | omega)) rfl (pa_cons (pvM 0) (pa_cons pe_int pa_nil))) pa_nil)))) pa_nil)))))) pss_nil)
    (pss_one (ps_ret (pe_callF F_law_put (hr.mono (by first | decide | omega)) rfl (pa_cons (pvM 1) (pa_cons (pvM 3) (pa_cons (pe_tup (pa_cons (pvM 4) (pa_cons (pe_callF F_law_bad_number (hr.mono (by first | decide | omega)) rfl (pa_cons (pvM 0) (pa_cons (pe_op op_pow pe_int pe_int) pa_nil))) (pa_cons (pvM 6) pa_nil)))) pa_nil)))))))))))))), ?_⟩
  obtain ⟨l0, rfl, n1, n2, n3⟩ := and_tup hn
  obtain ⟨a, xs, rfl, ha, hl⟩ := tv
  have hlen := hl.len
  (try ctx_has vcx true_and ha hlen)
  refine draw_rd D (by decide) (by decide) fun r H1 r0 r1 D1 B1 => ?_
  have h1 := B1.keepT D _ _ ha
  have hl1 := TVs.keep (B1.keepT D) _ hl
  (try ctx_has vcx true_and h1 hlen)
  refine ite2 (fun e => ?_) (fun e => ?_)
  · kpf_say (H1, q25, hq25, hh25, ss25) al G25 (HO.tup [V.int 0, V.int 1])
    kpf_say (G25, q26, hq26, hh26, ss26) al G26 (HO.tup [V.ref q25])
    kpf_say (G26, q27, hq27, hh27, ss27) al G27 (HO.tup [V.int 0, V.int 1, V.int 0, V.int 1])
    kpf_say (G27, q28, hq28, hh28, ss28) al G28 (HO.tup [V.ref q27])
    kpf_say (G28, q29, hq29, hh29, ss29) al G29 (HO.tup [V.int 5])
    kpf_say (G29, q30, hq30, hh30, ss30) al G30 (HO.tup [V.int 21, V.int 0, V.int 0])
    kpf_say (G30, q31, hq31, hh31, ss31) al G31 (HO.tup [V.ref q30])
    kpf_say (G31, q32, hq32, hh32, ss32) al G32 (HO.tup [V.int 0, V.int 0, V.int (-1)])
    kpf_say (G32, q33, hq33, hh33, ss33) al G33 (HO.tup [V.ref q32])
    refine ⟨by decide, fun q34 hq34 => ?_⟩
    refine pick (ts := [.non, .int 4, .tup [.tup [.int 0, .int 1]], .tup [.tup [.int 0, .int 1, .int 0, .int 1]], .tup [.int 5], .tup [.tup [.int 21, .int 0, .int 0]], .tup [.tup [.int 0, .int 0, .int (-1)]]]) (fun t => stepsT t = false) (D1.same (((((((((ss25).trans ss26).trans ss27).trans ss28).trans ss29).trans ss30).trans ss31).trans ss32).trans ss33)) hq34 (.cons (rfl) (.cons (rfl) (.cons (⟨q26, _, rfl, (ss33 _ _ (ss32 _ _ (ss31 _ _ (ss30 _ _ (ss29 _ _ (ss28 _ _ (ss27 _ _ hh26))))))), (.cons (⟨q25, _, rfl, (ss33 _ _ (ss32 _ _ (ss31 _ _ (ss30 _ _ (ss29 _ _ (ss28 _ _ (ss27 _ _ (ss26 _ _ hh25)))))))), (.cons (rfl) (.cons (rfl) rfl))⟩) rfl)⟩) (.cons (⟨q28, _, rfl, (ss33 _ _ (ss32 _ _ (ss31 _ _ (ss30 _ _ (ss29 _ _ hh28))))), (.cons (⟨q27, _, rfl, (ss33 _ _ (ss32 _ _ (ss31 _ _ (ss30 _ _ (ss29 _ _ (ss28 _ _ hh27)))))), (.cons (rfl) (.cons (rfl) (.cons (rfl) (.cons (rfl) rfl))))⟩) rfl)⟩) (.cons (⟨q29, _, rfl, (ss33 _ _ (ss32 _ _ (ss31 _ _ (ss30 _ _ hh29)))), (.cons (rfl) rfl)⟩) (.cons (⟨q31, _, rfl, (ss33 _ _ (ss32 _ _ hh31)), (.cons (⟨q30, _, rfl, (ss33 _ _ (ss32 _ _ (ss31 _ _ hh30))), (.cons (rfl) (.cons (rfl) (.cons (rfl) rfl)))⟩) rfl)⟩) (.cons (⟨q33, _, rfl, hh33, (.cons (⟨q32, _, rfl, (ss33 _ _ hh32), (.cons (rfl) (.cons (rfl) (.cons (rfl) rfl)))⟩) rfl)⟩) rfl))))))) (fun t ht => ?_) (by decide) (by decide) rfl fun r3 v t H3 ha tv hb D4 B4 h4 => ⟨_, rfl, _, h4, _, ha, k v t H3 tv hb D4 ((B1.same (((((((((ss25).trans ss26).trans ss27).trans ss28).trans ss29).trans ss30).trans ss31).trans ss32).trans ss33)).trans B4)⟩
    simp only [List.mem_cons, List.not_mem_nil, or_false] at ht
    rcases ht with rfl | rfl | rfl | rfl | rfl | rfl | rfl
    all_goals rfl
  refine ite2 (fun e0 => ?_) (fun e0 => ?_)
  · kpf_say (H1, q35, hq35, hh35, ss35) al G35 (HO.tup [V.int 0, V.int 1])
    kpf_say (G35, q36, hq36, hh36, ss36) al G36 (HO.tup [V.ref q35])
    kpf_say (G36, q37, hq37, hh37, ss37) al G37 (HO.tup [V.int 0, V.int 1, V.int 0, V.int 1])
    kpf_say (G37, q38, hq38, hh38, ss38) al G38 (HO.tup [V.ref q37])
    kpf_say (G38, q39, hq39, hh39, ss39) al G39 (HO.tup [V.int 5])
    kpf_say (G39, q40, hq40, hh40, ss40) al G40 (HO.tup [V.int 21, V.int 0, V.int 0])
    kpf_say (G40, q41, hq41, hh41, ss41) al G41 (HO.tup [V.ref q40])
    kpf_say (G41, q42, hq42, hh42, ss42) al G42 (HO.tup [V.int 0, V.int 0, V.int (-1)])
    kpf_say (G42, q43, hq43, hh43, ss43) al G43 (HO.tup [V.ref q42])
    refine ⟨by decide, fun q44 hq44 => ?_⟩
    refine pick (ts := [.non, .int 4, .tup [.tup [.int 0, .int 1]], .tup [.tup [.int 0, .int 1, .int 0, .int 1]], .tup [.int 5], .tup [.tup [.int 21, .int 0, .int 0]], .tup [.tup [.int 0, .int 0, .int (-1)]]]) (fun t => stepsT t = false) (D1.same (((((((((ss35).trans ss36).trans ss37).trans ss38).trans ss39).trans ss40).trans ss41).trans ss42).trans ss43)) hq44 (.cons (rfl) (.cons (rfl) (.cons (⟨q36, _, rfl, (ss43 _ _ (ss42 _ _ (ss41 _ _ (ss40 _ _ (ss39 _ _ (ss38 _ _ (ss37 _ _ hh36))))))), (.cons (⟨q35, _, rfl, (ss43 _ _ (ss42 _ _ (ss41 _ _ (ss40 _ _ (ss39 _ _ (ss38 _ _ (ss37 _ _ (ss36 _ _ hh35)))))))), (.cons (rfl) (.cons (rfl) rfl))⟩) rfl)⟩) (.cons (⟨q38, _, rfl, (ss43 _ _ (ss42 _ _ (ss41 _ _ (ss40 _ _ (ss39 _ _ hh38))))), (.cons (⟨q37, _, rfl, (ss43 _ _ (ss42 _ _ (ss41 _ _ (ss40 _ _ (ss39 _ _ (ss38 _ _ hh37)))))), (.cons (rfl) (.cons (rfl) (.cons (rfl) (.cons (rfl) rfl))))⟩) rfl)⟩) (.cons (⟨q39, _, rfl, (ss43 _ _ (ss42 _ _ (ss41 _ _ (ss40 _ _ hh39)))), (.cons (rfl) rfl)⟩) (.cons (⟨q41, _, rfl, (ss43 _ _ (ss42 _ _ hh41)), (.cons (⟨q40, _, rfl, (ss43 _ _ (ss42 _ _ (ss41 _ _ hh40))), (.cons (rfl) (.cons (rfl) (.cons (rfl) rfl)))⟩) rfl)⟩) (.cons (⟨q43, _, rfl, hh43, (.cons (⟨q42, _, rfl, (ss43 _ _ hh42), (.cons (rfl) (.cons (rfl) (.cons (rfl) rfl)))⟩) rfl)⟩) rfl))))))) (fun t ht => ?_) (by decide) (by decide) rfl fun r3 v t H3 ha tv hb D4 B4 h4 => ⟨_, rfl, _, h4, _, ha, k v t H3 tv hb D4 ((B1.same (((((((((ss35).trans ss36).trans ss37).trans ss38).trans ss39).trans ss40).trans ss41).trans ss42).trans ss43)).trans B4)⟩
    simp only [List.mem_cons, List.not_mem_nil, or_false] at ht
    rcases ht with rfl | rfl | rfl | rfl | rfl | rfl | rfl
    all_goals rfl
  refine draw_rd D1 (by omega) (by omega) fun r2 H2 r20 r21 D2 B2 => ?_
  have h2 := B2.keepT D1 _ _ h1
  have hl2 := TVs.keep (B2.keepT D1) _ hl1
  have B02 := B1.trans B2
  obtain ⟨j, rfl⟩ := Int.eq_ofNat_of_zero_le r20
  have hj : j < l0.length := by omega
  have stp : ∀ i, i < l0.length → ∃ i1 i2 i3, l0.getD i .non = .tup [.int i1, .int i2, .int i3] ∧ stepT (.tup [.int i1, .int i2, .int i3]) = true := fun i hi => by
    have hm : l0.getD i .non ∈ l0 := by rw [List.getD_eq_getElem?_getD, List.getElem?_eq_getElem hi]; exact List.getElem_mem hi
    have hs := List.all_eq_true.mp n3 _ hm
    obtain ⟨i1, i2, i3, e⟩ := step_at hs
    rw [e] at hs
    exact ⟨i1, i2, i3, e, hs⟩
  obtain ⟨i1, i2, i3, e1, hs1⟩ := stp j hj
  obtain ⟨x, ex, tx⟩ := tv_at hl2 j hj
  rw [e1] at tx
  obtain ⟨b, us, rfl, hb, hu2⟩ := tx
  have eu : us = [V.int i1, V.int i2, V.int i3] := tvsK (ks := [.inl i1, .inl i2, .inl i3]) hu2
  subst eu
  (try ctx_has vcx true_and h2 hlen)
  refine ⟨_, ex, ?_⟩
  (try ctx_has vcx true_and hb)
  refine ite2 (fun e => ?_) (fun e => ?_)
  · have hm : 0 < if (l0.length : Int) < 59 then (l0.length : Int) else 59 := by split <;> omega
    have m0 := Int.emod_nonneg (j : Int) (show (if (l0.length : Int) < 59 then (l0.length : Int) else 59) ≠ 0 by omega)
    have m1 := Int.emod_lt_of_pos (j : Int) hm
    obtain ⟨jj, hjj⟩ := Int.eq_ofNat_of_zero_le m0
    have hjl : jj < l0.length ∧ jj < 59 := by rw [hjj] at m1; split at m1 <;> omega
    obtain ⟨k1, k2, k3, e3, hs3⟩ := stp jj hjl.1
    obtain ⟨y, ey, ty⟩ := tv_at hl2 jj hjl.1
    rw [e3] at ty
    obtain ⟨b2, us2, rfl, hb2, hu3⟩ := ty
    have eu2 : us2 = [V.int k1, V.int k2, V.int k3] := tvsK (ks := [.inl k1, .inl k2, .inl k3]) hu3
    subst eu2
    refine ⟨hm, _, by rw [hjj]; exact ey, b2, rfl, _, hb2, rfl, _, _, rfl, _, _, rfl, _, _, rfl, rfl, fun q H3 hq s3 => ⟨_, rfl, by decide, by decide, fun q1 hq1 => ⟨by decide, fun q2 hq2 => ?_⟩⟩⟩
    have q12 : q1 ≠ q2 := by rintro rfl; rw [upd_same] at hq2; cases hq2
    have sA : Same H3 (upd (upd H3 q1 (HO.tup [V.int k1, V.int k2, V.int ((k3 + 1) % 21)])) q2 (HO.tup [V.ref q1])) := (Same.upd0 hq1).upd_new hq2
    have ec : cutV xs none (some 59) = xs.take 59 := by have := cut_map id xs 59; simpa using this
    rw [ec] at hq
    refine ⟨_, sA _ _ hq, _, upd_same, ?_, fun q3 H4 h4 s4 => ?_⟩
    · exact Nat.le_of_lt (small1000 (by simp; omega))
    have s24 : Same H2 H4 := s3.trans (sA.trans s4)
    refine k _ (.tup (l0.take 59 ++ [.tup [.int k1, .int k2, .int ((k3 + 1) % 21)]])) H4 ⟨q3, _, rfl, h4, (TVs.take 59 (TVs.keep (Same.keepT s24) _ hl2)).app (TVs.one (t := .tup [.int k1, .int k2, .int ((k3 + 1) % 21)]) ⟨q1, _, rfl, s4 _ _ (by rw [upd_ne q12]; exact upd_same), .cons rfl (.cons rfl (.cons rfl rfl))⟩)⟩ ?_ (D2.same s24) (B02.same s24)
    exact steps_dup (by rw [← e3]; simp [List.getD_eq_getElem?_getD, hjl.1]) hjl.2
  refine ite2 (fun e => ?_) (fun e => ?_)
  · refine ⟨by decide, by decide, fun D' hD' => comp_new (fun i => .tup [.int 0, .int (0 + (i : Int)), .int 0]) hD' (by decide) (fun i H3 Q2 hi s3 q2 => ?_) (fun ys H3 hys hD3 s3 => ?_)⟩
    · (try ctx_has vcx true_and)
      exact ⟨by show 3 ≤ sizeLine; decide, fun q hq => q2 _ _ ⟨q, _, rfl, upd_same, .cons rfl (.cons rfl (.cons rfl rfl))⟩ (Same.upd0 hq)⟩
    · refine ⟨D', rfl, ys, hD3, fun q hq => k _ (.tup _) _ ⟨q, ys, rfl, upd_same, TVs.keep (Same.keepT (Same.upd0 hq)) _ hys⟩ ?_ ((D2.same s3).new hq) ((B02.same s3).new hq)⟩
      unfold stepsT
      rw [tupOf_long (by rw [List.length_map, List.length_range]; decide), Bool.false_and]
  have put : ∀ (x1 x2 x3 : V) (t1 t2 t3 : Tr) (H3 : Hp), TV H3 x1 t1 → TV H3 x2 t2 → TV H3 x3 t3 → (stT t1 = false ∨ valT t2 = false ∨ stT t3 = false) → DealAt H3 d l → But d l H2 H3 → 3 ≤ sizeLine ∧ ∀ p, H3 p = none → spPut [V.ref a, V.int (j : Int), V.ref p] (upd H3 p (HO.tup [x1, x2, x3])) Q E0 := by
    intro x1 x2 x3 t1 t2 t3 H3 tv1 tv2 tv3 hbad D3 B3
    refine ⟨by decide, fun q hq => ?_⟩
    have s3 : Same H3 (upd H3 q (HO.tup [x1, x2, x3])) := Same.upd0 hq
    have kk := Same.keepT s3
    refine put_rd (kk _ _ (B3.keepT D2 _ _ h2)) (TVs.keep kk _ (TVs.keep (B3.keepT D2) _ hl2)) (t := .tup [t1, t2, t3]) ⟨q, _, rfl, upd_same, .cons (TV.keep kk _ tv1) (.cons (TV.keep kk _ tv2) (.cons (TV.keep kk _ tv3) rfl))⟩ (by omega) (by omega) (by omega) fun q2 H4 tq s4 => k _ _ H4 tq ?_ ((D3.same s3).same s4) (((B02.trans B3).same s3).same s4)
    unfold stepsT
    rw [tupOf_bad (mem_set_at (by omega)) (stp_bad hbad), Bool.false_and]
  refine ite2 (fun e => ?_) (fun e => ?_)
  · exact ⟨d, l, _, rfl, D2, by decide, by decide, fun v t H3 tv3 hb D3 B3 => put v (.int i2) (.int i3) t (.int i2) (.int i3) H3 tv3 rfl rfl (.inl (hb 0 20 (by decide) (by decide))) D3 B3⟩
  refine ite2 (fun e => ?_) (fun e => ?_)
  · exact ⟨d, l, _, rfl, D2, by decide, by decide, fun v t H3 tv3 hb D3 B3 => put (.int i1) (.int i2) v (.int i1) (.int i2) t H3 rfl rfl tv3 (.inr (.inr (hb 0 20 (by decide) (by decide)))) D3 B3⟩
  exact ⟨⟨by decide, by decide, by decide⟩, d, l, _, rfl, D2, by decide, by decide, fun v t H3 tv3 hb D3 B3 => put (.int i1) v (.int i3) (.int i1) t (.int i3) H3 rfl tv3 rfl (.inr (.inl (hb (-1000000) 1000000 (by decide) (by decide)))) D3 B3⟩
noncomputable def spBadR : Sp := fun vs H Q _ => ∃ (d l : Addr) (v : V) (n : Tr) (w : Int), vs = [.ref d, v, .int w] ∧ DealAt H d l ∧ TV H v n ∧ 1 ≤ w ∧ w ≤ 12 ∧ rowsT w n = true ∧ ∀ (v : V) (t : Tr) (H' : Hp), TV H' v t → rowsT w t = false → DealAt H' d l → But d l H H' → Q v H'
theorem tvs_rep {H : Hp} {x : V} {t : Tr} (h : TV H x t) : ∀ n : Nat, TVs H (List.replicate n x) (List.replicate n t)
  | 0 => rfl
  | n + 1 => ⟨_, _, rfl, h, tvs_rep h n⟩
theorem row_len {w : Int} {l : List Tr} (h : (l.length : Int) ≠ w) : rowT w (.tup l) = false := by
  unfold rowT
  by_cases h1 : (l.length : Int) < w
  · exact tupOf_short h1
  · exact tupOf_long (by omega)
theorem rows_bad {w : Int} {l : List Tr} {t : Tr} (h : t ∈ l) (hg : rowT w t = false) : rowsT w (.tup l) = false := by
  unfold rowsT
  rw [tupOf_bad h hg, Bool.false_and]
theorem ok__law_bad_rows   (T : Txt w K mg) (L : FnL K mg "_law_bad_rows" s__law_bad_rows ["_law_deal_here", "_law_rows", "_law_wide"]) (F_law_draw : Fn P w K mg base "_law_draw" 1 ["_law_deal_here", "_law_many_here"] (spDraw)) (F_law_bad_number : Fn P w K mg base "_law_bad_number" 2 ["_law_deal_here", "_law_most"] (spBadNum)) (F_law_put : Fn P w K mg base "_law_put" 1 ["_law_things", "_law_place", "_law_thing"] (spPut)) : Fn P w K mg base "_law_bad_rows" 3 ["_law_deal_here", "_law_rows", "_law_wide"] (spBadR) := by
  have nd := sc__law_bad_rows.nd
  refine L.ok sc__law_bad_rows (fun vs H Q E h => ?_) (fun f cdv A outer s H vs Q E hr h => ?_) <;> obtain ⟨d, l, v, n, w0, rfl, D, tv, w1, w2, hn, k⟩ := h
  · rfl
  have hu := hu_of hr
  refine ⟨_, (pss_cons (ps_set (i := 3) nd rfl (by first | exact Or.inl rfl | exact Or.inr rfl) (pe_callF F_law_draw (hr.mono (by first | decide | omega)) rfl (pa_cons (pvM 0) (pa_cons pe_int pa_nil))))
    (pss_cons (ps_if (PW.pt (pw_or (pt_cmpR op_eq (pvM 3) pe_int (nomark _)) (pw_or1 (pt_cmpR op_eq (pe_callB call_lenT rfl T.b_len PySem.boot_len (pa_cons (pvM 1) pa_nil)) pe_int (nomark _))))) (pss_one (ps_ret (pe_ix ix_L (pe_lst (pa_cons pe_non (pa_cons pe_int (pa_cons (pe_tup (pa_cons (pe_tup pa_nil) pa_nil)) (pa_cons (pe_tup (pa_cons (pe_op op_mulN (pe_tup (pa_cons pe_int pa_nil)) (pe_op op_add (pvM 2) pe_int)) pa_nil)) (pa_cons (pe_tup (pa_cons pe_int pa_nil)) (pa_cons (pe_tup (pa_cons (pe_op op_mulN (pe_tup (pa_cons pe_non pa_nil)) (pvM 2)) pa_nil)) pa_nil))))))) (pe_callF F_law_draw (hr.mono (by first | decide | omega)) rfl (pa_cons (pvM 0) (pa_cons pe_int pa_nil))) (fun _ _ => rfl)))) pss_nil)
    (pss_cons (ps_set (i := 4) nd rfl (by first | exact Or.inl rfl | exact Or.inr rfl) (pe_callF F_law_draw (hr.mono (by first | decide | omega)) rfl (pa_cons (pvM 0) (pa_cons (pe_callB call_lenT rfl T.b_len PySem.boot_len (pa_cons (pvM 1) pa_nil)) pa_nil))))
    (pss_cons (ps_set (i := 5) nd rfl (by first | exact Or.inl rfl | exact Or.inr rfl) (pe_ix ix_T (pvM 1) (pvM 4) (fun _ _ => rfl)))
    (pss_cons (ps_if (pt_cmpR op_eq (pvM 3) pe_int (nomark _)) (pss_one (ps_ret (pe_op op_catTs (pe_slice sl_Ts (pvM 1) po_none (po_some pe_int)) (pe_tup (pa_cons (pe_ix ix_T (pvM 1) (pe_op op_mod (pvM 4) (pe_callB (call_min2 rfl) rfl T.b_min (show bootBuiltins "min" = some (.builtin "min") by decide +kernel) (pa_cons pe_int (pa_cons (pe_callB call_lenT rfl T.b_len PySem.boot_len (pa_cons (pvM 1) pa_nil)) pa_nil)))) (fun _ _ => rfl)) pa_nil))))) pss_nil)
    (pss_cons (ps_if (pt_cmpR op_eq (pvM 3) pe_int (nomark _)) (pss_one (ps_ret (pe_callTy call_tupL rfl T.b_tuple (show bootBuiltins "tuple" = some (.type "tuple") by decide +kernel) (pa_cons (pe_comp (N := ["_law_k", "_law_wide"]) (nt := 1) (js := [2]) rfl (compOk_of ["_law_deal_here", "_law_rows", "_law_wide", "_law_way", "_law_place", "_law_row"] (defScope s__law_bad_rows).names rfl rfl rfl (by decide +kernel)) (pi_range1 rfl T.b_range (pa_cons pe_int pa_nil)) (fun _ _ _ _ _ _ => (pg_name (i := 0) (show List.Nodup [("_law_k" : Str), ("_law_wide" : Str)] by decide +kernel) rfl (Or.inl rfl))) (tgOk_name (by decide)) (fun _ _ _ _ _ _ => pts_nil) (fun _ _ _ _ _ _ => (pe_op op_mulN (pe_tup (pa_cons (pvM 0) pa_nil)) (pvM 1)))) pa_nil)))) pss_nil)
    (pss_cons (ps_if (pt_cmpR op_eq (pvM 3) pe_int (nomark _)) (pss_one (ps_ret (pe_callF F_law_put (hr.mono (by first | decide | omega)) rfl (pa_cons (pvM 1) (pa_cons (pvM 4) (pa_cons (pe_ix ix_L (pe_lst (pa_cons (pe_slice sl_Ts (pvM 5) po_none (po_some (pe_un un_neg pe_int))) (pa_cons (pe_op op_catTs (pvM 5) (pe_tup (pa_cons pe_int pa_nil))) pa_nil))) (pe_callF F_law_draw (hr.mono (by first | decide | omega)) rfl (pa_cons (pvM 0) (pa_cons pe_int pa_nil))) (fun _ _ => rfl)) pa_nil)))))) pss_nil)
    (pss_cons (ps_if (pt_cmpR op_eq (pvM 3) pe_int (nomark _)) (pss_one (ps_ret (pe_callF F_law_put (hr.mono (by first | decide | omega)) rfl (pa_cons (pvM 1) (pa_cons (pvM 4) (pa_cons (pe_ix ix_L (pe_lst (pa_cons pe_non (pa_cons pe_int (pa_cons pe_str pa_nil)))) (pe_callF F_law_draw (hr.mono (by first | decide | omega)) rfl (pa_cons (pvM 0) (pa_cons pe_int pa_nil))) (fun _ _ => rfl)) pa_nil)))))) pss_nil)
    (pss_one (ps_ret (pe_callF F_law_put (hr.mono (by first | decide | omega)) rfl (pa_cons (pvM 1) (pa_cons (pvM 4) (pa_cons (pe_callF F_law_put (hr.mono (by first | decide | omega)) rfl (pa_cons (pvM 5) (pa_cons (pe_callF F_law_draw (hr.mono (by first | decide | omega)) rfl (pa_cons (pvM 0) (pa_cons (pvM 2) pa_nil))) (pa_cons (pe_callF F_law_bad_number (hr.mono (by first | decide | omega)) rfl (pa_cons (pvM 0) (pa_cons (pe_op op_pow pe_int pe_int) pa_nil))) pa_nil)))) pa_nil)))))))))))))), ?_⟩
  obtain ⟨l0, rfl, n1, n2, n3⟩ := and_tup hn
  obtain ⟨a, xs, rfl, ha, hl⟩ := tv
  have hlen := hl.len
  (try ctx_has vcx true_and ha hlen)
  refine draw_rd D (by decide) (by decide) fun r H1 r0 r1 D1 B1 => ?_
  have h1 := B1.keepT D _ _ ha
  have hl1 := TVs.keep (B1.keepT D) _ hl
  (try ctx_has vcx true_and h1 hlen)
  refine ite2 (fun e => ?_) (fun e => ?_)
  · kpf_say (H1, q45, hq45, hh45, ss45) al G45 (HO.tup [])
    kpf_say (G45, q46, hq46, hh46, ss46) al G46 (HO.tup [V.ref q45])
    kpf_say (G46, q47, hq47, hh47, ss47) al G47 (HO.tup [V.int 1])
    refine ⟨_, rfl, _, rfl, by omega, by omega, _, hh47, fun q48 G48 hh48 ss48 => ?_⟩
    kpf_say (G48, q49, hq49, hh49, ss49) al G49 (HO.tup [V.ref q48])
    kpf_say (G49, q50, hq50, hh50, ss50) al G50 (HO.tup [V.int 5])
    kpf_say (G50, q51, hq51, hh51, ss51) al G51 (HO.tup [V.non])
    refine ⟨_, rfl, _, rfl, by omega, by omega, _, hh51, fun q52 G52 hh52 ss52 => ?_⟩
    kpf_say (G52, q53, hq53, hh53, ss53) al G53 (HO.tup [V.ref q52])
    refine ⟨by decide, fun q54 hq54 => ?_⟩
    refine pick (ts := [.non, .int 4, .tup [.tup []], .tup [.tup (List.replicate (w0 + 1).toNat (.int 1))], .tup [.int 5], .tup [.tup (List.replicate (w0).toNat (.non))]]) (fun t => rowsT w0 t = false) (D1.same (((((((((ss45).trans ss46).trans ss47).trans ss48).trans ss49).trans ss50).trans ss51).trans ss52).trans ss53)) hq54 (.cons (rfl) (.cons (rfl) (.cons (⟨q46, _, rfl, (ss53 _ _ (ss52 _ _ (ss51 _ _ (ss50 _ _ (ss49 _ _ (ss48 _ _ (ss47 _ _ hh46))))))), (.cons (⟨q45, _, rfl, (ss53 _ _ (ss52 _ _ (ss51 _ _ (ss50 _ _ (ss49 _ _ (ss48 _ _ (ss47 _ _ (ss46 _ _ hh45)))))))), rfl⟩) rfl)⟩) (.cons (⟨q49, _, rfl, (ss53 _ _ (ss52 _ _ (ss51 _ _ (ss50 _ _ hh49)))), (.cons (⟨q48, _, rfl, (ss53 _ _ (ss52 _ _ (ss51 _ _ (ss50 _ _ (ss49 _ _ hh48))))), tvs_rep (x := V.int 1) (t := .int 1) (rfl) _⟩) rfl)⟩) (.cons (⟨q50, _, rfl, (ss53 _ _ (ss52 _ _ (ss51 _ _ hh50))), (.cons (rfl) rfl)⟩) (.cons (⟨q53, _, rfl, hh53, (.cons (⟨q52, _, rfl, (ss53 _ _ hh52), tvs_rep (x := V.non) (t := .non) (rfl) _⟩) rfl)⟩) rfl)))))) (fun t ht => ?_) (by decide) (by decide) rfl fun r3 v t H3 ha tv hb D4 B4 h4 => ⟨_, rfl, _, h4, _, ha, k v t H3 tv hb D4 ((B1.same (((((((((ss45).trans ss46).trans ss47).trans ss48).trans ss49).trans ss50).trans ss51).trans ss52).trans ss53)).trans B4)⟩
    simp only [List.mem_cons, List.not_mem_nil, or_false] at ht
    rcases ht with rfl | rfl | rfl | rfl | rfl | rfl
    all_goals first | rfl | exact rows_bad (List.mem_singleton.mpr rfl) (row_len (by simp; omega)) | exact rows_bad (List.mem_singleton.mpr rfl) rfl | exact rows_bad (List.mem_singleton.mpr rfl) (tupOf_bad (t := .non) (List.mem_replicate.mpr ⟨by omega, rfl⟩) rfl)
  refine ite2 (fun e0 => ?_) (fun e0 => ?_)
  · kpf_say (H1, q55, hq55, hh55, ss55) al G55 (HO.tup [])
    kpf_say (G55, q56, hq56, hh56, ss56) al G56 (HO.tup [V.ref q55])
    kpf_say (G56, q57, hq57, hh57, ss57) al G57 (HO.tup [V.int 1])
    refine ⟨_, rfl, _, rfl, by omega, by omega, _, hh57, fun q58 G58 hh58 ss58 => ?_⟩
    kpf_say (G58, q59, hq59, hh59, ss59) al G59 (HO.tup [V.ref q58])
    kpf_say (G59, q60, hq60, hh60, ss60) al G60 (HO.tup [V.int 5])
    kpf_say (G60, q61, hq61, hh61, ss61) al G61 (HO.tup [V.non])
    refine ⟨_, rfl, _, rfl, by omega, by omega, _, hh61, fun q62 G62 hh62 ss62 => ?_⟩
    kpf_say (G62, q63, hq63, hh63, ss63) al G63 (HO.tup [V.ref q62])
    refine ⟨by decide, fun q64 hq64 => ?_⟩
    refine pick (ts := [.non, .int 4, .tup [.tup []], .tup [.tup (List.replicate (w0 + 1).toNat (.int 1))], .tup [.int 5], .tup [.tup (List.replicate (w0).toNat (.non))]]) (fun t => rowsT w0 t = false) (D1.same (((((((((ss55).trans ss56).trans ss57).trans ss58).trans ss59).trans ss60).trans ss61).trans ss62).trans ss63)) hq64 (.cons (rfl) (.cons (rfl) (.cons (⟨q56, _, rfl, (ss63 _ _ (ss62 _ _ (ss61 _ _ (ss60 _ _ (ss59 _ _ (ss58 _ _ (ss57 _ _ hh56))))))), (.cons (⟨q55, _, rfl, (ss63 _ _ (ss62 _ _ (ss61 _ _ (ss60 _ _ (ss59 _ _ (ss58 _ _ (ss57 _ _ (ss56 _ _ hh55)))))))), rfl⟩) rfl)⟩) (.cons (⟨q59, _, rfl, (ss63 _ _ (ss62 _ _ (ss61 _ _ (ss60 _ _ hh59)))), (.cons (⟨q58, _, rfl, (ss63 _ _ (ss62 _ _ (ss61 _ _ (ss60 _ _ (ss59 _ _ hh58))))), tvs_rep (x := V.int 1) (t := .int 1) (rfl) _⟩) rfl)⟩) (.cons (⟨q60, _, rfl, (ss63 _ _ (ss62 _ _ (ss61 _ _ hh60))), (.cons (rfl) rfl)⟩) (.cons (⟨q63, _, rfl, hh63, (.cons (⟨q62, _, rfl, (ss63 _ _ hh62), tvs_rep (x := V.non) (t := .non) (rfl) _⟩) rfl)⟩) rfl)))))) (fun t ht => ?_) (by decide) (by decide) rfl fun r3 v t H3 ha tv hb D4 B4 h4 => ⟨_, rfl, _, h4, _, ha, k v t H3 tv hb D4 ((B1.same (((((((((ss55).trans ss56).trans ss57).trans ss58).trans ss59).trans ss60).trans ss61).trans ss62).trans ss63)).trans B4)⟩
    simp only [List.mem_cons, List.not_mem_nil, or_false] at ht
    rcases ht with rfl | rfl | rfl | rfl | rfl | rfl
    all_goals first | rfl | exact rows_bad (List.mem_singleton.mpr rfl) (row_len (by simp; omega)) | exact rows_bad (List.mem_singleton.mpr rfl) rfl | exact rows_bad (List.mem_singleton.mpr rfl) (tupOf_bad (t := .non) (List.mem_replicate.mpr ⟨by omega, rfl⟩) rfl)
  refine draw_rd D1 (by omega) (by omega) fun r2 H2 r20 r21 D2 B2 => ?_
  have h2 := B2.keepT D1 _ _ h1
  have hl2 := TVs.keep (B2.keepT D1) _ hl1
  have B02 := B1.trans B2
  obtain ⟨j, rfl⟩ := Int.eq_ofNat_of_zero_le r20
  have hj : j < l0.length := by omega
  have hm : l0.getD j .non ∈ l0 := by rw [List.getD_eq_getElem?_getD, List.getElem?_eq_getElem hj]; exact List.getElem_mem hj
  obtain ⟨rw0, er, rl1, rl2, rl3⟩ := tupOf_tup (show tupOf valT w0 w0 (l0.getD j .non) = true from List.all_eq_true.mp n3 _ hm)
  obtain ⟨x, ex, tx⟩ := tv_at hl2 j hj
  rw [er] at tx
  obtain ⟨b, us, rfl, hb, hu2⟩ := tx
  have hul := hu2.len
  refine ⟨_, rfl, _, h2, _, ex, ?_⟩
  (try ctx_has vcx true_and h2 hb hlen)
  have putR : ∀ (v : V) (t : Tr) (H3 : Hp), TV H3 v t → rowT w0 t = false → DealAt H3 d l → But d l H2 H3 → spPut [V.ref a, V.int (j : Int), v] H3 Q E0 := fun v t H3 tv3 hbad D3 B3 =>
    put_rd (B3.keepT D2 _ _ h2) (TVs.keep (B3.keepT D2) _ hl2) tv3 (by omega) (by omega) (by omega) fun q2 H4 tq s4 => k _ _ H4 tq (rows_bad (mem_set_at (by omega)) hbad) (D3.same s4) ((B02.trans B3).same s4)
  refine ite2 (fun e => ?_) (fun e => ?_)
  · have dd := dup_rd (n := 59) (Q := Q) h2 hl2 (by omega) (by omega) (by decide) r20 fun q H3 jj x hx hjj tq s3 => k _ _ H3 tq (by unfold rowsT; rw [un_dup hx hjj, Bool.and_false]) (D2.same s3) (B02.same s3)
    intro p H3 hp s3
    obtain ⟨ys, e1, e2, e3⟩ := dd p H3 hp s3
    exact ⟨ys, e1, by simpa using e2, e3⟩
  refine ite2 (fun e => ?_) (fun e => ?_)
  · refine ⟨by decide, by decide, fun D' hD' => comp_new (fun i => .tup (List.replicate w0.toNat (.int (0 + (i : Int))))) hD' (by decide) (fun i H3 Q2 hi s3 q2 => ?_) (fun ys H3 hys hD3 s3 => ?_)⟩
    · (try ctx_has vcx true_and rMulN)
      refine ⟨by show 1 ≤ sizeLine; decide, fun q hq => ⟨w1, by omega, _, upd_same, fun q1 H4 h4 s4 => q2 _ _ ⟨q1, _, rfl, h4, tvs_rep (x := V.int (0 + (i : Int))) (t := .int (0 + (i : Int))) rfl _⟩ ((Same.upd0 hq).trans s4)⟩⟩
    · refine ⟨D', rfl, ys, hD3, fun q hq => k _ (.tup _) _ ⟨q, ys, rfl, upd_same, TVs.keep (Same.keepT (Same.upd0 hq)) _ hys⟩ ?_ ((D2.same s3).new hq) ((B02.same s3).new hq)⟩
      unfold rowsT
      rw [tupOf_long (by rw [List.length_map, List.length_range]; decide), Bool.false_and]
  refine ite2 (fun e => ?_) (fun e => ?_)
  · intro p H3 hp s3
    refine ⟨by decide, fun p1 hp1 => ⟨_, by rw [upd_ne (ne_of_none (s3 _ _ hb) hp1)]; exact s3 _ _ hb, _, upd_same, ?_, fun p2 H4 h4 s4 => ⟨by decide, fun p3 hp3 => ?_⟩⟩⟩
    · exact Nat.le_of_lt (small1000 (by simp; omega))
    have s34 : Same H3 H4 := (Same.upd0 hp1).trans s4
    have s24 := s3.trans s34
    have ec : cutV us none (some (-1)) = us.take (us.length - 1) := by
      have := cut_map_but id us
      rw [List.dropLast_eq_take] at this
      simpa using this
    rw [ec] at hp
    have hu4 := TVs.keep (Same.keepT s24) _ hu2
    refine pick (ts := [.tup (rw0.take (us.length - 1)), .tup (rw0 ++ [.int 1])]) (fun t => rowT w0 t = false) (D2.same s24) hp3 (.cons ⟨p, _, rfl, s34 _ _ hp, TVs.take _ hu4⟩ (.cons ⟨p2, _, rfl, h4, hu4.app (TVs.one (t := .int 1) rfl)⟩ rfl)) (fun t ht => ?_) (by decide) (by decide) rfl fun r3 v t H5 ha tv hb D5 B5 h5 => ⟨_, rfl, _, h5, _, ha, putR v t H5 tv hb D5 (((But.refl H2).same s24).trans B5)⟩
    simp only [List.mem_cons, List.not_mem_nil, or_false] at ht
    rcases ht with rfl | rfl
    · exact row_len (by rw [List.length_take]; omega)
    · exact row_len (by rw [List.length_append, List.length_singleton]; omega)
  refine ite2 (fun e => ?_) (fun e => ?_)
  · refine ⟨by decide, fun q65 hq65 => ?_⟩
    refine pick (ts := [.non, .int 1, .str "row"]) (fun t => rowT w0 t = false) D2 hq65 (.cons (rfl) (.cons (rfl) (.cons (⟨rfl, by decide⟩) rfl))) (fun t ht => ?_) (by decide) (by decide) rfl fun r3 v t H3 ha tv hb D4 B4 h4 => ⟨_, rfl, _, h4, _, ha, putR v t H3 tv hb D4 B4⟩
    simp only [List.mem_cons, List.not_mem_nil, or_false] at ht
    rcases ht with rfl | rfl | rfl
    all_goals rfl
  refine draw_rd D2 (by omega) (by omega) fun r4 H4 r40 r41 D4 B4 => ⟨⟨by decide, by decide, by decide⟩, ?_⟩
  refine ⟨d, l, _, rfl, D4, by decide, by decide, fun v t H5 tv5 hbn D5 B5 => ?_⟩
  have B25 := B4.trans B5
  refine put_rd (B25.keepT D2 _ _ hb) (TVs.keep (B25.keepT D2) _ hu2) tv5 r40 (by omega) (by omega) fun q H6 tq s6 => ?_
  exact putR _ _ H6 tq (tupOf_bad (mem_set_at (by omega)) (hbn (-1000000) 1000000 (by decide) (by decide))) (D5.same s6) (B25.same s6)
noncomputable def spBadT : Sp := fun vs H Q _ => ∃ (d l p : Addr) (v : V) (n : Tr) (ws : List Str), vs = [.ref d, v, .ref p] ∧ DealAt H d l ∧ TV H v n ∧ termsT n = true ∧ SpareAt H p ws ∧ ∀ (v : V) (t : Tr) (H' : Hp), TV H' v t → termsT t = false → DealAt H' d l → But d l H H' → Q v H'
theorem term_tree {t : Tr} (h : termT t = true) : ∃ c nm, t = .tup [.int c, .str nm] := by
  obtain ⟨m, rfl, hm, hn⟩ := term_at h
  match m, hm, hn with
  | [p, q], _, hn =>
    have hp : valT p = true := by
      simp only [termT, Bool.and_eq_true] at h
      exact h.2.1
    cases q with
    | str nm =>
      cases p with
      | int c => exact ⟨c, nm, rfl⟩
      | _ => cases hp
    | _ => cases hn
theorem terms_bad {l : List Tr} {t : Tr} (h : t ∈ l) (hg : termT t = false) : termsT (.tup l) = false := by
  unfold termsT
  rw [tupOf_bad h hg, Bool.false_and]
theorem terms_dup {l0 : List Tr} {jj : Nat} {c c2 : Int} {nm : Str} (h : l0[jj]? = some (.tup [.int c, .str nm])) (hj : jj < 5) : termsT (.tup (l0.take 5 ++ [.tup [.int c2, .str nm]])) = false := by
  show (tupOf termT 1 6 (.tup (l0.take 5 ++ [.tup [.int c2, .str nm]])) && unT ((l0.take 5 ++ [Tr.tup [.int c2, .str nm]]).map fun t => (itT t).getD 1 Tr.non)) = false
  rw [List.map_append, List.map_take]
  have e : (l0.map fun t => (itT t).getD 1 Tr.non)[jj]? = some (.str nm) := by rw [List.getElem?_map, h]; rfl
  rw [show unT ((l0.map fun t => (itT t).getD 1 Tr.non).take 5 ++ [Tr.tup [.int c2, .str nm]].map fun t => (itT t).getD 1 Tr.non) = false from dec_false (dup_not e hj), Bool.and_false]
theorem ok__law_bad_terms   (T : Txt w K mg) (L : FnL K mg "_law_bad_terms" s__law_bad_terms ["_law_deal_here", "_law_terms", "_law_spare"]) (F_law_draw : Fn P w K mg base "_law_draw" 1 ["_law_deal_here", "_law_many_here"] (spDraw)) (F_law_bad_number : Fn P w K mg base "_law_bad_number" 2 ["_law_deal_here", "_law_most"] (spBadNum)) (F_law_bad_name : Fn P w K mg base "_law_bad_name" 2 ["_law_deal_here"] (spBadNm)) (F_law_put : Fn P w K mg base "_law_put" 1 ["_law_things", "_law_place", "_law_thing"] (spPut)) : Fn P w K mg base "_law_bad_terms" 3 ["_law_deal_here", "_law_terms", "_law_spare"] (spBadT) := by
  have nd := sc__law_bad_terms.nd
  refine L.ok sc__law_bad_terms (fun vs H Q E h => ?_) (fun f cdv A outer s H vs Q E hr h => ?_) <;> obtain ⟨d, l, p, v, n, ws, rfl, D, tv, hn, hS, k⟩ := h
  · rfl
  have hu := hu_of hr
  refine ⟨_, (pss_cons (ps_set (i := 3) nd rfl (by first | exact Or.inl rfl | exact Or.inr rfl) (pe_callF F_law_draw (hr.mono (by first | decide | omega)) rfl (pa_cons (pvM 0) (pa_cons pe_int pa_nil))))
    (pss_cons (ps_set (i := 4) nd rfl (by first | exact Or.inl rfl | exact Or.inr rfl) (pe_callF F_law_draw (hr.mono (by first | decide | omega)) rfl (pa_cons (pvM 0) (pa_cons (pe_callB call_lenT rfl T.b_len PySem.boot_len (pa_cons (pvM 1) pa_nil)) pa_nil))))
    (pss_cons (ps_asg (pe_ix ix_T (pvM 1) (pvM 4) (fun _ _ => rfl)) (pg_tupT (n := 2) rfl (pgs_cons (pg_name (i := 5) nd rfl (by first | exact Or.inl rfl | exact Or.inr rfl)) (pgs_cons (pg_name (i := 6) nd rfl (by first | exact Or.inl rfl | exact Or.inr rfl)) pgs_nil))))
    (pss_cons (ps_if (pt_cmpR op_eq (pvM 3) pe_int (nomark _)) (pss_one (ps_ret (pe_ix ix_L (pe_lst (pa_cons (pe_tup pa_nil) (pa_cons pe_non (pa_cons (pe_ix ix_T (pvM 1) pe_int (fun _ _ => rfl)) (pa_cons pe_int pa_nil))))) (pe_callF F_law_draw (hr.mono (by first | decide | omega)) rfl (pa_cons (pvM 0) (pa_cons pe_int pa_nil))) (fun _ _ => rfl)))) pss_nil)
    (pss_cons (ps_if (pt_cmpR op_eq (pvM 3) pe_int (nomark _)) (pss_one (ps_ret (pe_callTy call_tupL rfl T.b_tuple (show bootBuiltins "tuple" = some (.type "tuple") by decide +kernel) (pa_cons (pe_comp (N := ["_law_k", "_law_spare"]) (nt := 1) (js := [2]) rfl (compOk_of ["_law_deal_here", "_law_terms", "_law_spare", "_law_way", "_law_place", "_law_a", "_law_name", "_law_bad"] (defScope s__law_bad_terms).names rfl rfl rfl (by decide +kernel)) (pi_range1 rfl T.b_range (pa_cons pe_int pa_nil)) (fun _ _ _ _ _ _ => (pg_name (i := 0) (show List.Nodup [("_law_k" : Str), ("_law_spare" : Str)] by decide +kernel) rfl (Or.inl rfl))) (tgOk_name (by decide)) (fun _ _ _ _ _ _ => pts_nil) (fun _ _ _ _ _ _ => (pe_tup (pa_cons (pe_op op_add (pvM 0) pe_int) (pa_cons (pe_ix ix_L (pvM 1) (pvM 0) (fun _ _ => rfl)) pa_nil))))) pa_nil)))) pss_nil)
    (pss_cons (ps_if (pt_cmpR op_eq (pvM 3) pe_int (nomark _)) (pss_one (ps_ret (pe_op op_catTs (pe_slice sl_Ts (pvM 1) po_none (po_some pe_int)) (pe_tup (pa_cons (pe_tup (pa_cons pe_int (pa_cons (pe_ix ix_T (pe_ix ix_T (pvM 1) (pe_op op_mod (pvM 4) (pe_callB (call_min2 rfl) rfl T.b_min (show bootBuiltins "min" = some (.builtin "min") by decide +kernel) (pa_cons pe_int (pa_cons (pe_callB call_lenT rfl T.b_len PySem.boot_len (pa_cons (pvM 1) pa_nil)) pa_nil)))) (fun _ _ => rfl)) pe_int (fun _ _ => rfl)) pa_nil))) pa_nil))))) pss_nil)
    (pss_cons (ps_set (i := 7) nd rfl (by first | exact Or.inl rfl | exact Or.inr rfl) (pe_ix ix_L (pe_lst (pa_cons (pe_tup (pa_cons pe_int (pa_cons (pvM 6) pa_nil))) (pa_cons (pe_tup (pa_cons (pe_callF F_law_bad_number (hr.mono (by first | decide | omega)) rfl (pa_cons (pvM 0) (pa_cons (pe_op op_pow pe_int pe_int) pa_nil))) (pa_cons (pvM 6) pa_nil))) (pa_cons (pe_tup (pa_cons (pvM 5) (pa_cons (pe_callF F_law_bad_name (hr.mono (by first | decide | omega)) rfl (pa_cons (pvM 0) pa_nil)) pa_nil))) (pa_cons (pe_tup (pa_cons (pvM 5) (pa_cons (pvM 6) (pa_cons pe_int pa_nil)))) pa_nil))))) (pe_op op_sub (pvM 3) pe_int) (fun _ _ => rfl)))
    (pss_cons (ps_if (pt_cmpR op_eq (pe_callF F_law_draw (hr.mono (by first | decide | omega)) rfl (pa_cons (pvM 0) (pa_cons pe_int pa_nil))) pe_int (nomark _)) (pss_one (ps_set (i := 7) nd rfl (by first | exact Or.inl rfl | exact Or.inr rfl) (pe_ix ix_L (pe_lst (pa_cons (pe_tup (pa_cons (pvM 5) pa_nil)) (pa_cons (pvM 5) (pa_cons pe_non (pa_cons (pvM 6) pa_nil))))) (pe_callF F_law_draw (hr.mono (by first | decide | omega)) rfl (pa_cons (pvM 0) (pa_cons pe_int pa_nil))) (fun _ _ => rfl)))) pss_nil)
    (pss_one (ps_ret (pe_callF F_law_put (hr.mono (by first | decide | omega)) rfl (pa_cons (pvM 1) (pa_cons (pvM 4) (pa_cons (pvM 7) pa_nil)))))))))))))), ?_⟩
  obtain ⟨l0, rfl, n1, n2, n3⟩ := and_tup hn
  obtain ⟨a, xs, rfl, ha, hl⟩ := tv
  have hlen := hl.len
  (try ctx_has vcx true_and ha hlen)
  refine draw_rd D (by decide) (by decide) fun r H1 r0 r1 D1 B1 => ?_
  have h1 := B1.keepT D _ _ ha
  have hl1 := TVs.keep (B1.keepT D) _ hl
  (try ctx_has vcx true_and h1 hlen)
  refine draw_rd D1 (by omega) (by omega) fun r2 H2 r20 r21 D2 B2 => ?_
  have h2 := B2.keepT D1 _ _ h1
  have hl2 := TVs.keep (B2.keepT D1) _ hl1
  have S2 := (hS.but D B1).but D1 B2
  have B02 := B1.trans B2
  obtain ⟨j, rfl⟩ := Int.eq_ofNat_of_zero_le r20
  have hj : j < l0.length := by omega
  have trm : ∀ i, i < l0.length → ∃ c nm, l0.getD i .non = .tup [.int c, .str nm] ∧ termT (.tup [.int c, .str nm]) = true := fun i hi => by
    have hm : l0.getD i .non ∈ l0 := by rw [List.getD_eq_getElem?_getD, List.getElem?_eq_getElem hi]; exact List.getElem_mem hi
    have hs := List.all_eq_true.mp n3 _ hm
    obtain ⟨c, nm, e⟩ := term_tree hs
    rw [e] at hs
    exact ⟨c, nm, e, hs⟩
  have tat : ∀ i, i < l0.length → ∃ (c : Int) (nm : Str) (b : Addr), l0.getD i .non = .tup [.int c, .str nm] ∧ termT (.tup [.int c, .str nm]) = true ∧ atI xs (i : Int) = some (.ref b) ∧ H2 b = some (.tup [.int c, .str nm]) ∧ nm.length ≤ 20 := fun i hi => by
    obtain ⟨c, nm, e, ht⟩ := trm i hi
    obtain ⟨x, ex, tx⟩ := tv_at hl2 i hi
    rw [e] at tx
    obtain ⟨b, us, rfl, hb, u1, u2, rfl, rfl, u3, u4, rfl, ⟨rfl, hln⟩, rfl⟩ := tx
    exact ⟨c, nm, b, e, ht, ex, hb, hln⟩
  obtain ⟨c, nm, b, e1, ht1, ex, hb, hln⟩ := tat j hj
  (try ctx_has vcx true_and h2 hlen)
  refine ⟨_, ex, ?_⟩
  (try ctx_has vcx true_and hb)
  have putT : ∀ (v : V) (t : Tr) (H3 : Hp), TV H3 v t → termT t = false → DealAt H3 d l → But d l H2 H3 → spPut [V.ref a, V.int (j : Int), v] H3 Q E0 := fun v t H3 tv3 hbad D3 B3 =>
    put_rd (B3.keepT D2 _ _ h2) (TVs.keep (B3.keepT D2) _ hl2) tv3 (by omega) (by omega) (by omega) fun q2 H4 tq s4 => k _ _ H4 tq (terms_bad (mem_set_at (by omega)) hbad) (D3.same s4) ((B02.trans B3).same s4)
  refine ite2 (fun e => ?_) (fun e => ?_)
  · refine ⟨by decide, fun q hq => ?_⟩
    have s3 : Same H2 (upd H2 q (HO.tup [])) := Same.upd0 hq
    obtain ⟨c0, nm0, b0, e0, ht0, ex0, hb0, hl0⟩ := tat 0 (by omega)
    refine ⟨xs, s3 _ _ h2, _, ex0, by decide, fun q1 hq1 => ?_⟩
    refine pick (ts := [.tup [], .non, .tup [.int c0, .str nm0], .int 3]) (fun t => termsT t = false) (D2.same s3) hq1 (.cons ⟨q, [], rfl, upd_same, rfl⟩ (.cons rfl (.cons ⟨b0, _, rfl, s3 _ _ hb0, .cons rfl (.cons ⟨rfl, hl0⟩ rfl)⟩ (.cons rfl rfl)))) (fun t ht => ?_) (by decide) (by decide) rfl fun r3 v t H3 ha tv hb D4 B4 h4 => ⟨_, rfl, _, h4, _, ha, k v t H3 tv hb D4 ((B02.same s3).trans B4)⟩
    simp only [List.mem_cons, List.not_mem_nil, or_false] at ht
    rcases ht with rfl | rfl | rfl | rfl
    · rfl
    · rfl
    · exact terms_bad (t := .int c0) (by simp) rfl
    · rfl
  refine ite2 (fun e => ?_) (fun e => ?_)
  · refine ⟨by decide, by decide, fun D' hD' => comp_new (fun i => .tup [.int (0 + (i : Int) + 1), .str (ws.getD i "")]) hD' (by decide) (fun i H3 Q2 hi s3 q2 => ?_) (fun ys H3 hys hD3 s3 => ?_)⟩
    · have hS3 := S2.same s3
      have hiw : i < ws.length := by rw [hS3.2.1]; have : i < 7 := hi; omega
      have hgi : ws[i]? = some (ws.getD i "") := by simp [List.getD_eq_getElem?_getD, hiw]
      have h3p := hS3.1
      (try ctx_has vcx true_and h3p)
      refine ⟨V.str (ws.getD i ""), by rw [Int.zero_add]; exact atI_nat (by rw [List.getElem?_map, hgi]; rfl), by show 2 ≤ sizeLine; decide, fun q hq => q2 _ _ ⟨q, _, rfl, upd_same, .cons rfl (.cons ⟨rfl, nm_len (hS3.2.2.2 _ (List.mem_of_getElem? hgi))⟩ rfl)⟩ (Same.upd0 hq)⟩
    · refine ⟨D', rfl, ys, hD3, fun q hq => k _ (.tup _) _ ⟨q, ys, rfl, upd_same, TVs.keep (Same.keepT (Same.upd0 hq)) _ hys⟩ ?_ ((D2.same s3).new hq) ((B02.same s3).new hq)⟩
      unfold termsT
      rw [tupOf_long (by rw [List.length_map, List.length_range]; decide), Bool.false_and]
  refine ite2 (fun e => ?_) (fun e => ?_)
  · intro p' H3 hp s3
    have ha3 := s3 _ _ h2
    have hm : 0 < if (xs.length : Int) < 5 then (xs.length : Int) else 5 := by split <;> omega
    have m0 := Int.emod_nonneg (j : Int) (show (if (xs.length : Int) < 5 then (xs.length : Int) else 5) ≠ 0 by omega)
    have m1 := Int.emod_lt_of_pos (j : Int) hm
    obtain ⟨jj, hjj⟩ := Int.eq_ofNat_of_zero_le m0
    have hjl : jj < l0.length ∧ jj < 5 := by rw [hjj] at m1; split at m1 <;> omega
    obtain ⟨c3, nm3, b3, e3, ht3, ex3, hb3, hl3⟩ := tat jj hjl.1
    refine ⟨xs, ha3, hm, xs, ha3, _, by rw [hjj]; exact ex3, b3, rfl, _, s3 _ _ hb3, _, rfl, by decide, fun q1 hq1 => ⟨by decide, fun q2 hq2 => ?_⟩⟩
    have q12 : q1 ≠ q2 := by rintro rfl; rw [upd_same] at hq2; cases hq2
    have sA : Same H3 (upd (upd H3 q1 (HO.tup [V.int 2, V.str nm3])) q2 (HO.tup [V.ref q1])) := (Same.upd0 hq1).upd_new hq2
    have ec : cutV xs none (some 5) = xs.take 5 := by have := cut_map id xs 5; simpa using this
    rw [ec] at hp
    refine ⟨_, sA _ _ hp, _, upd_same, ?_, fun q3 H4 h4 s4 => ?_⟩
    · exact Nat.le_of_lt (small1000 (by simp; omega))
    have s24 : Same H2 H4 := s3.trans (sA.trans s4)
    refine k _ (.tup (l0.take 5 ++ [.tup [.int 2, .str nm3]])) H4 ⟨q3, _, rfl, h4, (TVs.take 5 (TVs.keep (Same.keepT s24) _ hl2)).app (TVs.one (t := .tup [.int 2, .str nm3]) ⟨q1, _, rfl, s4 _ _ (by rw [upd_ne q12]; exact upd_same), .cons rfl (.cons ⟨rfl, hl3⟩ rfl)⟩)⟩ ?_ (D2.same s24) (B02.same s24)
    exact terms_dup (by rw [← e3]; simp [List.getD_eq_getElem?_getD, hjl.1]) hjl.2
  refine ⟨by decide, fun q1 hq1 => ⟨⟨by decide, by decide, by decide⟩, ?_⟩⟩
  have s1 : Same H2 (upd H2 q1 (HO.tup [V.int 0, V.str nm])) := Same.upd0 hq1
  have g1 : upd H2 q1 (HO.tup [V.int 0, V.str nm]) q1 = some (HO.tup [V.int 0, V.str nm]) := upd_same
  generalize upd H2 q1 (HO.tup [V.int 0, V.str nm]) = G1 at s1 g1 ⊢
  have E1 := D2.same s1
  refine ⟨d, l, _, rfl, E1, by decide, by decide, fun x tx H3 tvx hbx D3 B3 => ⟨by decide, fun q2 hq2 => ?_⟩⟩
  have s3 : Same H3 (upd H3 q2 (HO.tup [x, V.str nm])) := Same.upd0 hq2
  have g2 : upd H3 q2 (HO.tup [x, V.str nm]) q2 = some (HO.tup [x, V.str nm]) := upd_same
  generalize upd H3 q2 (HO.tup [x, V.str nm]) = G2 at s3 g2 ⊢
  have E2 := D3.same s3
  refine ⟨d, l, rfl, E2, fun y ty H4 tvy hby D4 B4 => ⟨by decide, fun q3 hq3 => ?_⟩⟩
  have s4 : Same H4 (upd H4 q3 (HO.tup [V.int c, y])) := Same.upd0 hq3
  have g3 : upd H4 q3 (HO.tup [V.int c, y]) q3 = some (HO.tup [V.int c, y]) := upd_same
  generalize upd H4 q3 (HO.tup [V.int c, y]) = G3 at s4 g3 ⊢
  refine ⟨by decide, fun q4 hq4 => ?_⟩
  have s5 : Same G3 (upd G3 q4 (HO.tup [V.int c, V.str nm, V.int 1])) := Same.upd0 hq4
  have g4 : upd G3 q4 (HO.tup [V.int c, V.str nm, V.int 1]) q4 = some (HO.tup [V.int c, V.str nm, V.int 1]) := upd_same
  generalize upd G3 q4 (HO.tup [V.int c, V.str nm, V.int 1]) = G4 at s5 g4 ⊢
  refine ⟨by decide, fun q5 hq5 => ?_⟩
  have kA : KeepT H4 G4 := (Same.keepT s4).trans (Same.keepT s5)
  have kB : KeepT G2 G4 := (B4.keepT E2).trans kA
  have kC : KeepT H3 G4 := (Same.keepT s3).trans kB
  have kD : KeepT G1 G4 := (B3.keepT E1).trans kC
  have E4 := (D4.same s4).same s5
  have BB : But d l H2 G4 := (((((But.refl H2).same s1).trans B3).same s3).trans B4).same (s4.trans s5)
  obtain ⟨v0, t0, ha0, tv0, hb0⟩ : ∃ v0 t0, atI [V.ref q1, V.ref q2, V.ref q3, V.ref q4] (r - 3) = some v0 ∧ TV G4 v0 t0 ∧ termT t0 = false := by
    have hc : r = 3 ∨ r = 4 ∨ r = 5 ∨ r = 6 := by omega
    rcases hc with rfl | rfl | rfl | rfl
    · exact ⟨_, .tup [.int 0, .str nm], rfl, ⟨q1, _, rfl, kD _ _ g1, .cons rfl (.cons ⟨rfl, hln⟩ rfl)⟩, by simp [termT, nzT]⟩
    · exact ⟨_, .tup [tx, .str nm], rfl, ⟨q2, _, rfl, kB _ _ g2, .cons (TV.keep kC _ tvx) (.cons ⟨rfl, hln⟩ rfl)⟩, by simp [termT, show valT tx = false from hbx (-1000000) 1000000 (by decide) (by decide)]⟩
    · exact ⟨_, .tup [.int c, ty], rfl, ⟨q3, _, rfl, Same.keepT s5 _ _ g3, .cons rfl (.cons (TV.keep kA _ tvy) rfl)⟩, by simp [termT, hby]⟩
    · exact ⟨_, .tup [.int c, .str nm, .int 1], rfl, ⟨q4, _, rfl, g4, .cons rfl (.cons ⟨rfl, hln⟩ (.cons rfl rfl))⟩, by simp [termT]⟩
  refine ⟨_, upd_same, v0, ha0, ?_⟩
  have E5 := E4.new (o := .lst [V.ref q1, V.ref q2, V.ref q3, V.ref q4]) hq5
  refine draw_rd E5 (by decide) (by decide) fun r6 H6 r60 r61 D6 B6 => ⟨rfl, ?_⟩
  have B26 := (BB.new (o := .lst [V.ref q1, V.ref q2, V.ref q3, V.ref q4]) hq5).trans B6
  have k6 : KeepT G4 H6 := (Same.keepT (Same.upd0 hq5)).trans (B6.keepT E5)
  refine ite2 (fun e => ?_) (fun e => ?_)
  · kpf_say (H6, q68, hq68, hh68, ss68) al G68 (HO.tup [V.int c])
    refine ⟨by decide, fun q69 hq69 => ?_⟩
    refine pick (ts := [.tup [.int c], .int c, .non, .str nm]) (fun t => termT t = false) (D6.same (ss68)) hq69 (.cons (⟨q68, _, rfl, hh68, (.cons (rfl) rfl)⟩) (.cons (rfl) (.cons (rfl) (.cons (⟨rfl, hln⟩) rfl)))) (fun t ht => ?_) (by decide) (by decide) rfl fun r3 v t H3 ha tv hb D4 B4 h4 => ⟨_, rfl, _, h4, _, ha, putT v t H3 tv hb D4 ((B26.same (ss68)).trans B4)⟩
    simp only [List.mem_cons, List.not_mem_nil, or_false] at ht
    rcases ht with rfl | rfl | rfl | rfl
    all_goals first | rfl | simp [termT]
  exact putT v0 t0 H6 (TV.keep k6 _ tv0) hb0 D6 B26
noncomputable def spPart : Sp := fun vs H Q _ => ∃ (d l p : Addr) (v : V) (s : Str) (cs : List Tr) (i : Nat) (ws : List Str), vs = [.ref d, v, .int i, .ref p] ∧ DealAt H d l ∧ TV H v (.tup (.str s :: cs)) ∧ wishT (.tup (.str s :: cs)) = true ∧ 1 ≤ i ∧ i ≤ cs.length ∧ ¬ (s = "table" ∧ i = 2) ∧ ¬ (s = "way" ∧ 1 < i) ∧ ¬ (s = "same" ∧ (i = 1 ∨ i = 3)) ∧ SpareAt H p ws ∧
  ∀ (v : V) (t : Tr) (H' : Hp), TV H' v t → wishT (.tup ((Tr.str s :: cs).set i t)) = false → DealAt H' d l → But d l H H' → Q v H'
noncomputable def seven : List Str := ["unlike", "many", "sum", "table", "way", "behind", "same"]
theorem wish_in {s : Str} {cs : List Tr} (h : wishT (.tup (.str s :: cs)) = true) : s ∈ seven := by
  have h : (if s = "same" then sameF (.str s :: cs) else formF s (.str s :: cs)) = true := h
  by_cases e : s = "same"
  · rw [e]; decide +kernel
  · rw [if_neg e] at h
    rcases form_cases h with ⟨rfl, _⟩ | ⟨rfl, _⟩ | ⟨rfl, _⟩ | ⟨rfl, _⟩ | ⟨rfl, _⟩ | ⟨rfl, _⟩ <;> decide +kernel
noncomputable def PARTS : List (Key × V) := mergeK (mergeK [] [(.inr "unlike", .str "xN"), (.inr "many", .str "xVNCC"), (.inr "sum", .str "xTBB"), (.inr "table", .str "xNR")]) (mergeK [] [(.inr "way", .str "xNSE"), (.inr "behind", .str "xNG"), (.inr "same", .str "xnVW")])
theorem wish_fm {s : Str} {l : List Tr} (h : s ≠ "same") : wishT (.tup (.str s :: l)) = formF s (.str s :: l) := by
  show (if s = "same" then sameF (.str s :: l) else formF s (.str s :: l)) = _
  rw [if_neg h]
theorem wish_sm {l : List Tr} : wishT (.tup (.str "same" :: l)) = sameF (.str "same" :: l) := by
  show (if (Str.ofString "same") = "same" then sameF (.str "same" :: l) else formF "same" (.str "same" :: l)) = _
  rw [if_pos rfl]
theorem part_kind {s : Str} {cs : List Tr} {i : Nat} (hw : wishT (.tup (.str s :: cs)) = true) (i1 : 1 ≤ i) (i2 : i ≤ cs.length) (x1 : ¬ (s = "table" ∧ i = 2)) (x2 : ¬ (s = "way" ∧ 1 < i)) (x3 : ¬ (s = "same" ∧ (i = 1 ∨ i = 3))) :
    ∃ z c, valV PARTS (.inr s) = some (.str z) ∧ z.length ≤ 20 ∧ atI z.cps.toList (i : Int) = some c ∧
      ((c = 78 ∧ namesT ((Tr.str s :: cs).getD i .non) = true ∧ ∀ t, namesT t = false → wishT (.tup ((Tr.str s :: cs).set i t)) = false) ∨ (c = 86 ∧ valuesT ((Tr.str s :: cs).getD i .non) = true ∧ ∀ t, valuesT t = false → wishT (.tup ((Tr.str s :: cs).set i t)) = false) ∨
       (c = 67 ∧ ∀ t, mbT t = false → wishT (.tup ((Tr.str s :: cs).set i t)) = false) ∨ (c = 84 ∧ i = 1 ∧ termsT ((Tr.str s :: cs).getD 1 .non) = true ∧ ∀ t, termsT t = false → wishT (.tup ((Tr.str s :: cs).set i t)) = false) ∨
       (c = 66 ∧ ∀ t, sbT t = false → wishT (.tup ((Tr.str s :: cs).set i t)) = false) ∨ (c = 71 ∧ ∀ t, gpT t = false → wishT (.tup ((Tr.str s :: cs).set i t)) = false)) := by
  have hs := wish_in hw
  simp only [seven, List.mem_cons, List.not_mem_nil, or_false] at hs
  rcases hs with rfl | rfl | rfl | rfl | rfl | rfl | rfl
  · have hf := hw
    rw [wish_fm (by decide +kernel), fm_unlike] at hf
    have hlen : cs.length = 1 := by simp only [unlikeF, Bool.and_eq_true, decide_eq_true_eq, List.length_cons] at hf; omega
    match cs, hlen with
    | [n1], _ =>
      simp only [unlikeF, Bool.and_eq_true, decide_eq_true_eq, List.length_cons, List.length_nil, List.getD_cons_succ, List.getD_cons_zero] at hf
      have hc : i = 1 := by simp at i2; omega
      rcases hc with rfl
      · refine ⟨"xN", 78, by kernel_rfl, by decide, by decide +kernel, .inl ⟨rfl, hf.2, fun t ht => ?_⟩⟩
        show wishT (.tup [.str "unlike", t]) = false
        rw [wish_fm (by decide +kernel), fm_unlike]
        simp [unlikeF, ht]
  · have hf := hw
    rw [wish_fm (by decide +kernel), fm_many] at hf
    have hlen : cs.length = 4 := by simp only [manyF, Bool.and_eq_true, decide_eq_true_eq, List.length_cons] at hf; omega
    match cs, hlen with
    | [n1, n2, n3, n4], _ =>
      simp only [manyF, Bool.and_eq_true, decide_eq_true_eq, List.length_cons, List.length_nil, List.getD_cons_succ, List.getD_cons_zero] at hf
      have hc : i = 1 ∨ i = 2 ∨ i = 3 ∨ i = 4 := by simp at i2; omega
      rcases hc with rfl | rfl | rfl | rfl
      · refine ⟨"xVNCC", 86, by kernel_rfl, by decide, by decide +kernel, .inr (.inl ⟨rfl, hf.2.1, fun t ht => ?_⟩)⟩
        show wishT (.tup [.str "many", t, n2, n3, n4]) = false
        rw [wish_fm (by decide +kernel), fm_many]
        simp [manyF, ht]
      · refine ⟨"xVNCC", 78, by kernel_rfl, by decide, by decide +kernel, .inl ⟨rfl, hf.2.2.1, fun t ht => ?_⟩⟩
        show wishT (.tup [.str "many", n1, t, n3, n4]) = false
        rw [wish_fm (by decide +kernel), fm_many]
        simp [manyF, ht]
      · refine ⟨"xVNCC", 67, by kernel_rfl, by decide, by decide +kernel, .inr (.inr (.inl ⟨rfl, fun t ht => ?_⟩))⟩
        show wishT (.tup [.str "many", n1, n2, t, n4]) = false
        rw [wish_fm (by decide +kernel), fm_many]
        simp [manyF, ht]
      · refine ⟨"xVNCC", 67, by kernel_rfl, by decide, by decide +kernel, .inr (.inr (.inl ⟨rfl, fun t ht => ?_⟩))⟩
        show wishT (.tup [.str "many", n1, n2, n3, t]) = false
        rw [wish_fm (by decide +kernel), fm_many]
        simp [manyF, ht]
  · have hf := hw
    rw [wish_fm (by decide +kernel), fm_sum] at hf
    have hlen : cs.length = 3 := by simp only [sumF, Bool.and_eq_true, decide_eq_true_eq, List.length_cons] at hf; omega
    match cs, hlen with
    | [n1, n2, n3], _ =>
      simp only [sumF, Bool.and_eq_true, decide_eq_true_eq, List.length_cons, List.length_nil, List.getD_cons_succ, List.getD_cons_zero] at hf
      have hc : i = 1 ∨ i = 2 ∨ i = 3 := by simp at i2; omega
      rcases hc with rfl | rfl | rfl
      · refine ⟨"xTBB", 84, by kernel_rfl, by decide, by decide +kernel, .inr (.inr (.inr (.inl ⟨rfl, rfl, hf.2.1, fun t ht => ?_⟩)))⟩
        show wishT (.tup [.str "sum", t, n2, n3]) = false
        rw [wish_fm (by decide +kernel), fm_sum]
        simp [sumF, ht]
      · refine ⟨"xTBB", 66, by kernel_rfl, by decide, by decide +kernel, .inr (.inr (.inr (.inr (.inl ⟨rfl, fun t ht => ?_⟩))))⟩
        show wishT (.tup [.str "sum", n1, t, n3]) = false
        rw [wish_fm (by decide +kernel), fm_sum]
        simp [sumF, ht]
      · refine ⟨"xTBB", 66, by kernel_rfl, by decide, by decide +kernel, .inr (.inr (.inr (.inr (.inl ⟨rfl, fun t ht => ?_⟩))))⟩
        show wishT (.tup [.str "sum", n1, n2, t]) = false
        rw [wish_fm (by decide +kernel), fm_sum]
        simp [sumF, ht]
  · have hf := hw
    rw [wish_fm (by decide +kernel), fm_table] at hf
    have hlen : cs.length = 2 := by simp only [tableF, Bool.and_eq_true, decide_eq_true_eq, List.length_cons] at hf; omega
    match cs, hlen with
    | [n1, n2], _ =>
      simp only [tableF, Bool.and_eq_true, decide_eq_true_eq, List.length_cons, List.length_nil, List.getD_cons_succ, List.getD_cons_zero] at hf
      have hc : i = 1 ∨ i = 2 := by simp at i2; omega
      rcases hc with rfl | rfl
      · refine ⟨"xNR", 78, by kernel_rfl, by decide, by decide +kernel, .inl ⟨rfl, hf.2.1, fun t ht => ?_⟩⟩
        show wishT (.tup [.str "table", t, n2]) = false
        rw [wish_fm (by decide +kernel), fm_table]
        simp [tableF, ht]
      · exact (x1 ⟨rfl, rfl⟩).elim
  · have hf := hw
    rw [wish_fm (by decide +kernel), fm_way] at hf
    have hlen : cs.length = 3 := by simp only [wayF, Bool.and_eq_true, decide_eq_true_eq, List.length_cons] at hf; omega
    match cs, hlen with
    | [n1, n2, n3], _ =>
      simp only [wayF, Bool.and_eq_true, decide_eq_true_eq, List.length_cons, List.length_nil, List.getD_cons_succ, List.getD_cons_zero] at hf
      have hc : i = 1 ∨ i = 2 ∨ i = 3 := by simp at i2; omega
      rcases hc with rfl | rfl | rfl
      · refine ⟨"xNSE", 78, by kernel_rfl, by decide, by decide +kernel, .inl ⟨rfl, hf.2.1, fun t ht => ?_⟩⟩
        show wishT (.tup [.str "way", t, n2, n3]) = false
        rw [wish_fm (by decide +kernel), fm_way]
        simp [wayF, ht]
      · exact (x2 ⟨rfl, by decide⟩).elim
      · exact (x2 ⟨rfl, by decide⟩).elim
  · have hf := hw
    rw [wish_fm (by decide +kernel), fm_behind] at hf
    have hlen : cs.length = 2 := by simp only [behindF, Bool.and_eq_true, decide_eq_true_eq, List.length_cons] at hf; omega
    match cs, hlen with
    | [n1, n2], _ =>
      simp only [behindF, Bool.and_eq_true, decide_eq_true_eq, List.length_cons, List.length_nil, List.getD_cons_succ, List.getD_cons_zero] at hf
      have hc : i = 1 ∨ i = 2 := by simp at i2; omega
      rcases hc with rfl | rfl
      · refine ⟨"xNG", 78, by kernel_rfl, by decide, by decide +kernel, .inl ⟨rfl, hf.2.1, fun t ht => ?_⟩⟩
        show wishT (.tup [.str "behind", t, n2]) = false
        rw [wish_fm (by decide +kernel), fm_behind]
        simp [behindF, ht]
      · refine ⟨"xNG", 71, by kernel_rfl, by decide, by decide +kernel, .inr (.inr (.inr (.inr (.inr (⟨rfl, fun t ht => ?_⟩)))))⟩
        show wishT (.tup [.str "behind", n1, t]) = false
        rw [wish_fm (by decide +kernel), fm_behind]
        simp [behindF, ht]
  · have hf := hw
    rw [wish_sm] at hf
    have hlen : cs.length = 3 := by simp only [sameF, Bool.and_eq_true, decide_eq_true_eq, List.length_cons] at hf; omega
    match cs, hlen with
    | [n1, n2, n3], _ =>
      simp only [sameF, Bool.and_eq_true, decide_eq_true_eq, List.length_cons, List.length_nil, List.getD_cons_succ, List.getD_cons_zero] at hf
      have hc : i = 1 ∨ i = 2 ∨ i = 3 := by simp at i2; omega
      rcases hc with rfl | rfl | rfl
      · exact (x3 ⟨rfl, by decide⟩).elim
      · refine ⟨"xnVW", 86, by kernel_rfl, by decide, by decide +kernel, .inr (.inl ⟨rfl, hf.2.2.1, fun t ht => ?_⟩)⟩
        show wishT (.tup [.str "same", n1, t, n3]) = false
        rw [wish_sm]
        simp [sameF, ht]
      · exact (x3 ⟨rfl, by decide⟩).elim
theorem ok__law_bad_part   (T : Txt w K mg) (L : FnL K mg "_law_bad_part" s__law_bad_part ["_law_deal_here", "_law_wish", "_law_place", "_law_spare"]) (F_law_draw : Fn P w K mg base "_law_draw" 1 ["_law_deal_here", "_law_many_here"] (spDraw)) (F_law_bad_number : Fn P w K mg base "_law_bad_number" 2 ["_law_deal_here", "_law_most"] (spBadNum)) (F_law_bad_names : Fn P w K mg base "_law_bad_names" 3 ["_law_deal_here", "_law_names_here", "_law_spare"] (spBadNs)) (F_law_bad_values : Fn P w K mg base "_law_bad_values" 3 ["_law_deal_here", "_law_values"] (spBadX valuesT)) (F_law_bad_terms : Fn P w K mg base "_law_bad_terms" 3 ["_law_deal_here", "_law_terms", "_law_spare"] (spBadT)) : Fn P w K mg base "_law_bad_part" 4 ["_law_deal_here", "_law_wish", "_law_place", "_law_spare"] (spPart) := by
  have nd := sc__law_bad_part.nd
  refine L.ok sc__law_bad_part (fun vs H Q E h => ?_) (fun f cdv A outer s H vs Q E hr h => ?_) <;> obtain ⟨d, l, p, v, s0, cs, i, ws, rfl, D, tv, hw, i1, i2, x1, x2, x3, hS, k⟩ := h
  · rfl
  have hu := hu_of hr
  refine ⟨_, (pss_cons (ps_set (i := 4) nd rfl (by first | exact Or.inl rfl | exact Or.inr rfl) (pe_disp (pps_cons pe_str pe_str (pps_cons pe_str pe_str (pps_cons pe_str pe_str (pps_cons pe_str pe_str pps_nil)))) rfl rfl (by nofun) (by decide)))
    (pss_cons (ps_expr (pe_dupd (pvM 4) (pe_disp (pps_cons pe_str pe_str (pps_cons pe_str pe_str (pps_cons pe_str pe_str pps_nil))) rfl rfl (by nofun) (by decide)) ⟨rfl, rfl, rfl, rfl⟩))
    (pss_cons (ps_set (i := 5) nd rfl (by first | exact Or.inl rfl | exact Or.inr rfl) (pe_ix ix_S (pe_dg hu (pvM 4) (pe_ix ix_T (pvM 1) pe_int (fun _ _ => rfl)) (fun _ _ => rfl)) (pvM 2) (fun _ _ => rfl)))
    (pss_cons (ps_if (pt_cmpR op_eq (pvM 5) pe_str (nomark _)) (pss_one (ps_ret (pe_callF F_law_bad_names (hr.mono (by first | decide | omega)) rfl (pa_cons (pvM 0) (pa_cons (pe_ix ix_T (pvM 1) (pvM 2) (fun _ _ => rfl)) (pa_cons (pvM 3) pa_nil)))))) pss_nil)
    (pss_cons (ps_if (pt_cmpR op_eq (pvM 5) pe_str (nomark _)) (pss_one (ps_ret (pe_callF F_law_bad_values (hr.mono (by first | decide | omega)) rfl (pa_cons (pvM 0) (pa_cons (pe_ix ix_T (pvM 1) (pvM 2) (fun _ _ => rfl)) pa_nil))))) pss_nil)
    (pss_cons (ps_if (pt_cmpR op_eq (pvM 5) pe_str (nomark _)) (pss_one (ps_ret (pe_ix ix_L (pe_lst (pa_cons pe_bl (pa_cons pe_non (pa_cons pe_str (pa_cons (pe_tup (pa_cons pe_int pa_nil)) (pa_cons (pe_op op_add (pe_op op_pow pe_int pe_int) pe_int) (pa_cons (pe_un un_neg pe_int) (pa_cons (pe_un un_neg pe_int) pa_nil)))))))) (pe_callF F_law_draw (hr.mono (by first | decide | omega)) rfl (pa_cons (pvM 0) (pa_cons pe_int pa_nil))) (fun _ _ => rfl)))) pss_nil)
    (pss_cons (ps_if (pt_cmpR op_eq (pvM 5) pe_str (nomark _)) (pss_one (ps_ret (pe_callF F_law_bad_terms (hr.mono (by first | decide | omega)) rfl (pa_cons (pvM 0) (pa_cons (pe_ix ix_T (pvM 1) pe_int (fun _ _ => rfl)) (pa_cons (pvM 3) pa_nil)))))) pss_nil)
    (pss_cons (ps_if (pt_cmpR op_eq (pvM 5) pe_str (nomark _)) (pss_one (ps_ret (pe_ix ix_L (pe_lst (pa_cons pe_bl (pa_cons pe_bl (pa_cons pe_str (pa_cons (pe_tup (pa_cons pe_int pa_nil)) (pa_cons (pe_op op_add (pe_op op_pow pe_int pe_int) pe_int) (pa_cons (pe_op op_sub (pe_un un_neg (pe_op op_pow pe_int pe_int)) pe_int) pa_nil))))))) (pe_callF F_law_draw (hr.mono (by first | decide | omega)) rfl (pa_cons (pvM 0) (pa_cons pe_int pa_nil))) (fun _ _ => rfl)))) pss_nil)
    (pss_cons (ps_if (pt_cmpR op_eq (pvM 5) pe_str (nomark _)) (pss_one (ps_ret (pe_callF F_law_bad_number (hr.mono (by first | decide | omega)) rfl (pa_cons (pvM 0) (pa_cons (pe_op op_pow pe_int pe_int) pa_nil))))) pss_nil)
    (pss_one (ps_ret pe_non))))))))))), ?_⟩
  obtain ⟨z, c, e1, e2, e3, hk⟩ := part_kind hw i1 i2 x1 x2 x3
  obtain ⟨a, xs, rfl, ha, hx⟩ := tv
  obtain ⟨y, ys, rfl, ⟨rfl, _⟩, hy⟩ := id hx
  (try ctx_has vcx true_and ha)
  intro q hq
  refine ⟨upd_same, [(.inr "unlike", .str "xN"), (.inr "many", .str "xVNCC"), (.inr "sum", .str "xTBB"), (.inr "table", .str "xNR")], rfl, by decide, ?_⟩
  rw [upd_upd]
  have s1 : Same H (upd H q (.dK (mergeK [] [(.inr "unlike", .str "xN"), (.inr "many", .str "xVNCC"), (.inr "sum", .str "xTBB"), (.inr "table", .str "xNR")]))) := Same.upd0 hq
  (try ctx_has vcx true_and tDUpd upd_same)
  intro q2 hq2
  refine ⟨[(.inr "way", .str "xNSE"), (.inr "behind", .str "xNG"), (.inr "same", .str "xnVW")], rfl, by decide, ?_⟩
  rw [upd_upd]
  have qq2 : q ≠ q2 := by rintro rfl; rw [upd_same] at hq2; cases hq2
  refine ⟨_, by rw [upd_ne qq2]; exact upd_same, qq2, by decide, ?_⟩
  have s2 : Same H (upd (upd (upd H q (.dK (mergeK [] [(.inr "unlike", .str "xN"), (.inr "many", .str "xVNCC"), (.inr "sum", .str "xTBB"), (.inr "table", .str "xNR")]))) q2 (.dK (mergeK [] [(.inr "way", .str "xNSE"), (.inr "behind", .str "xNG"), (.inr "same", .str "xnVW")]))) q (.dK PARTS)) := fun b o e => by
    rw [upd_ne (ne_of_none e hq)]
    exact s1.upd_new hq2 _ _ e
  have hq1 : upd (upd (upd H q (.dK (mergeK [] [(.inr "unlike", .str "xN"), (.inr "many", .str "xVNCC"), (.inr "sum", .str "xTBB"), (.inr "table", .str "xNR")]))) q2 (.dK (mergeK [] [(.inr "way", .str "xNSE"), (.inr "behind", .str "xNG"), (.inr "same", .str "xnVW")]))) q (.dK PARTS) q = some (.dK PARTS) := upd_same
  rw [show (mergeK (mergeK [] [((.inr "unlike", .str "xN") : Key × V), (.inr "many", .str "xVNCC"), (.inr "sum", .str "xTBB"), (.inr "table", .str "xNR")]) (mergeK [] [(.inr "way", .str "xNSE"), (.inr "behind", .str "xNG"), (.inr "same", .str "xnVW")])) = PARTS from rfl]
  generalize upd (upd (upd H q (.dK (mergeK [] [(.inr "unlike", .str "xN"), (.inr "many", .str "xVNCC"), (.inr "sum", .str "xTBB"), (.inr "table", .str "xNR")]))) q2 (.dK (mergeK [] [(.inr "way", .str "xNSE"), (.inr "behind", .str "xNG"), (.inr "same", .str "xnVW")]))) q (.dK PARTS) = H1 at s2 hq1 ⊢
  have D1 := D.same s2
  have B1 : But d l H H1 := (But.refl H).same s2
  have S1 := hS.same s2
  have hx1 := TVs.keep (Same.keepT s2) _ hx
  refine ⟨_, s2 _ _ ha, V.str s0, atI0 .., .inr s0, rfl, V.str z, e1, z, rfl, Nat.le_of_lt (small1000 (by omega)), c, e3, ?_⟩
  obtain ⟨v, ev, tv⟩ := tv_at hx1 i (by simp; omega)
  rcases hk with ⟨rfl, hn, hb⟩ | ⟨rfl, hn, hb⟩ | ⟨rfl, hb⟩ | ⟨rfl, rfl, hn, hb⟩ | ⟨rfl, hb⟩ | ⟨rfl, hb⟩
  · rw [if_pos (by decide +kernel)]
    exact ⟨_, s2 _ _ ha, v, ev, d, l, p, v, _, ws, rfl, D1, tv, hn, S1, fun v t H3 tv3 hb3 D3 B3 => k v t H3 tv3 (hb t hb3) D3 (B1.trans B3)⟩
  · rw [if_neg (by decide +kernel), if_pos (by decide +kernel)]
    exact ⟨_, s2 _ _ ha, v, ev, d, l, v, _, rfl, D1, tv, hn, fun v t H3 tv3 hb3 D3 B3 => k v t H3 tv3 (hb t hb3) D3 (B1.trans B3)⟩
  · rw [if_neg (by decide +kernel), if_neg (by decide +kernel), if_pos (by decide +kernel)]
    have kC : ∀ (v : V) (t : Tr) (H' : Hp), TV H' v t → mbT t = false → DealAt H' d l → But d l H H' → Q v H' := fun v t H' a1 a2 a3 a4 => k v t H' a1 (hb t a2) a3 a4
    kpf_say (H1, q70, hq70, hh70, ss70) al G70 (HO.tup [V.int 1])
    refine ⟨⟨by decide, by decide, by decide⟩, by decide, fun q71 hq71 => ?_⟩
    refine pick (ts := [.bl true, .non, .str "3", .tup [.int 1], .int (10 ^ Int.toNat 9 + 1), .int (-1), .int (-5)]) (fun t => mbT t = false) (D1.same (ss70)) hq71 (.cons (rfl) (.cons (rfl) (.cons (⟨rfl, by decide⟩) (.cons (⟨q70, _, rfl, hh70, (.cons (rfl) rfl)⟩) (.cons (rfl) (.cons (rfl) (.cons (rfl) rfl))))))) (fun t ht => ?_) (by decide) (by decide) rfl fun r3 v t H3 ha tv hb D4 B4 h4 => ⟨_, rfl, _, h4, _, ha, kC v t H3 tv hb D4 ((B1.same (ss70)).trans B4)⟩
    simp only [List.mem_cons, List.not_mem_nil, or_false] at ht
    rcases ht with rfl | rfl | rfl | rfl | rfl | rfl | rfl
    all_goals first | rfl | decide +kernel | simp [mbT, wholeT]
  · rw [if_neg (by decide +kernel), if_neg (by decide +kernel), if_neg (by decide +kernel), if_pos (by decide +kernel)]
    exact ⟨_, s2 _ _ ha, v, ev, d, l, p, v, _, ws, rfl, D1, tv, hn, S1, fun v t H3 tv3 hb3 D3 B3 => k v t H3 tv3 (hb t hb3) D3 (B1.trans B3)⟩
  · rw [if_neg (by decide +kernel), if_neg (by decide +kernel), if_neg (by decide +kernel), if_neg (by decide +kernel), if_pos (by decide +kernel)]
    have kB : ∀ (v : V) (t : Tr) (H' : Hp), TV H' v t → sbT t = false → DealAt H' d l → But d l H H' → Q v H' := fun v t H' a1 a2 a3 a4 => k v t H' a1 (hb t a2) a3 a4
    kpf_say (H1, q72, hq72, hh72, ss72) al G72 (HO.tup [V.int 1])
    refine ⟨⟨by decide, by decide, by decide⟩, ⟨by decide, by decide, by decide⟩, by decide, fun q73 hq73 => ?_⟩
    refine pick (ts := [.bl true, .bl false, .str "_", .tup [.int 1], .int (10 ^ Int.toNat 13 + 1), .int (-10 ^ Int.toNat 13 - 1)]) (fun t => sbT t = false) (D1.same (ss72)) hq73 (.cons (rfl) (.cons (rfl) (.cons (⟨rfl, by decide⟩) (.cons (⟨q72, _, rfl, hh72, (.cons (rfl) rfl)⟩) (.cons (rfl) (.cons (rfl) rfl)))))) (fun t ht => ?_) (by decide) (by decide) rfl fun r3 v t H3 ha tv hb D4 B4 h4 => ⟨_, rfl, _, h4, _, ha, kB v t H3 tv hb D4 ((B1.same (ss72)).trans B4)⟩
    simp only [List.mem_cons, List.not_mem_nil, or_false] at ht
    rcases ht with rfl | rfl | rfl | rfl | rfl | rfl
    all_goals first | rfl | decide +kernel | simp [sbT, wholeT]
  · rw [if_neg (by decide +kernel), if_neg (by decide +kernel), if_neg (by decide +kernel), if_neg (by decide +kernel), if_neg (by decide +kernel), if_pos (by decide +kernel)]
    exact ⟨⟨by decide, by decide, by decide⟩, d, l, _, rfl, D1, by decide, by decide, fun v t H3 tv3 hb3 D3 B3 => k v t H3 tv3 (hb t (hb3 (-1000000000) 1000000000 (by decide) (by decide))) D3 (B1.trans B3)⟩
noncomputable def spSp (b : Bool) : Sp := fun vs H Q _ => ∃ (d l p : Addr) (v : V) (t : Tr) (ws : List Str), vs = [.ref d, v, .ref p] ∧ DealAt H d l ∧ TV H v t ∧ wishT t = true ∧ (b = false → plainT t = true) ∧ SpareAt H p ws ∧ ∀ (v : V) (t : Tr) (H' : Hp), TV H' v t → wishT t = false → DealAt H' d l → But d l H H' → Q v H'
noncomputable def needL (s : Str) : Nat := if s = "unlike" then 2 else if s = "many" then 5 else if s = "table" then 3 else if s = "behind" then 3 else 4
theorem wish_len {s : Str} {l : List Tr} (h : wishT (.tup (.str s :: l)) = true) : l.length + 1 = needL s := by
  have hs := wish_in h
  simp only [seven, List.mem_cons, List.not_mem_nil, or_false] at hs
  rcases hs with rfl | rfl | rfl | rfl | rfl | rfl | rfl
  · rw [wish_fm (by decide +kernel), fm_unlike] at h
    simp only [unlikeF, Bool.and_eq_true, decide_eq_true_eq, List.length_cons] at h
    rw [h.1]; decide +kernel
  · rw [wish_fm (by decide +kernel), fm_many] at h
    simp only [manyF, Bool.and_eq_true, decide_eq_true_eq, List.length_cons] at h
    rw [h.1]; decide +kernel
  · rw [wish_fm (by decide +kernel), fm_sum] at h
    simp only [sumF, Bool.and_eq_true, decide_eq_true_eq, List.length_cons] at h
    rw [h.1]; decide +kernel
  · rw [wish_fm (by decide +kernel), fm_table] at h
    simp only [tableF, Bool.and_eq_true, decide_eq_true_eq, List.length_cons] at h
    rw [h.1]; decide +kernel
  · rw [wish_fm (by decide +kernel), fm_way] at h
    simp only [wayF, Bool.and_eq_true, decide_eq_true_eq, List.length_cons] at h
    rw [h.1]; decide +kernel
  · rw [wish_fm (by decide +kernel), fm_behind] at h
    simp only [behindF, Bool.and_eq_true, decide_eq_true_eq, List.length_cons] at h
    rw [h.1]; decide +kernel
  · rw [wish_sm] at h
    simp only [sameF, Bool.and_eq_true, decide_eq_true_eq, List.length_cons] at h
    rw [h.1]; decide +kernel
theorem wish_cut {s : Str} {l m : List Tr} (h : wishT (.tup (.str s :: l)) = true) (hm : m.length ≠ l.length) : wishT (.tup (.str s :: m)) = false := by
  rw [Bool.eq_false_iff]
  intro z
  have h1 := wish_len h
  have h2 := wish_len z
  omega
theorem wish_tail {s : Str} {l : List Tr} (h : wishT (.tup (.str s :: l)) = true) : wishT (.tup l) = false := by
  have hl := wish_len h
  have hs := wish_in h
  have tu : ∀ {m : List Tr} {r : List Tr}, wishT (.tup (.tup m :: r)) = false := rfl
  have nm : ∀ {n : Tr} {r : List Tr}, namesT n = true → wishT (.tup (n :: r)) = false := fun hn => by
    obtain ⟨ws, rfl, _⟩ := names_tree hn
    exact tu
  simp only [seven, List.mem_cons, List.not_mem_nil, or_false] at hs
  rcases hs with rfl | rfl | rfl | rfl | rfl | rfl | rfl
  · rw [wish_fm (by decide +kernel), fm_unlike] at h
    match l, hl with
    | n :: r, _ =>
      simp only [unlikeF, Bool.and_eq_true, List.getD_cons_succ, List.getD_cons_zero] at h
      exact nm h.2
    | [], hl => exact absurd hl (by decide +kernel)
  · rw [wish_fm (by decide +kernel), fm_many] at h
    match l, hl with
    | n :: r, _ =>
      simp only [manyF, Bool.and_eq_true, List.getD_cons_succ, List.getD_cons_zero] at h
      obtain ⟨m, rfl, _⟩ := and_tup h.2.1
      exact tu
    | [], hl => exact absurd hl (by decide +kernel)
  · rw [wish_fm (by decide +kernel), fm_sum] at h
    match l, hl with
    | n :: r, _ =>
      simp only [sumF, Bool.and_eq_true, List.getD_cons_succ, List.getD_cons_zero] at h
      obtain ⟨m, rfl, _⟩ := and_tup h.2.1
      exact tu
    | [], hl => exact absurd hl (by decide +kernel)
  · rw [wish_fm (by decide +kernel), fm_table] at h
    match l, hl with
    | n :: r, _ =>
      simp only [tableF, Bool.and_eq_true, List.getD_cons_succ, List.getD_cons_zero] at h
      exact nm h.2.1
    | [], hl => exact absurd hl (by decide +kernel)
  · rw [wish_fm (by decide +kernel), fm_way] at h
    match l, hl with
    | n :: r, _ =>
      simp only [wayF, Bool.and_eq_true, List.getD_cons_succ, List.getD_cons_zero] at h
      exact nm h.2.1
    | [], hl => exact absurd hl (by decide +kernel)
  · rw [wish_fm (by decide +kernel), fm_behind] at h
    match l, hl with
    | n :: r, _ =>
      simp only [behindF, Bool.and_eq_true, List.getD_cons_succ, List.getD_cons_zero] at h
      exact nm h.2.1
    | [], hl => exact absurd hl (by decide +kernel)
  · rw [wish_sm] at h
    have hl3 : l.length = 3 := by have : needL "same" = 4 := by decide +kernel
                                  omega
    match l, hl3 with
    | [n, vs, w], _ =>
      simp only [sameF, Bool.and_eq_true, List.getD_cons_succ, List.getD_cons_zero] at h
      obtain ⟨m, rfl, _, _, hm⟩ := and_tup h.2.2.1
      have nn : namesT (.tup m) = false := by
        cases e : namesT (.tup m) with
        | false => rfl
        | true =>
          obtain ⟨us, e1, e2, _⟩ := names_tree e
          injection e1 with e1
          subst e1
          match us, e2 with
          | u :: us, _ => cases hm
      cases n with
      | str z =>
        rw [Bool.eq_false_iff]
        intro hz
        have hzs := wish_in hz
        have hzl : 3 = needL z := wish_len hz
        simp only [seven, List.mem_cons, List.not_mem_nil, or_false] at hzs
        rcases hzs with rfl | rfl | rfl | rfl | rfl | rfl | rfl
        · exact absurd hzl (by decide +kernel)
        · exact absurd hzl (by decide +kernel)
        · exact absurd hzl (by decide +kernel)
        · rw [wish_fm (by decide +kernel), fm_table] at hz
          simp [tableF, nn] at hz
        · exact absurd hzl (by decide +kernel)
        · rw [wish_fm (by decide +kernel), fm_behind] at hz
          simp [behindF, nn] at hz
        · exact absurd hzl (by decide +kernel)
      | _ => rfl
theorem need_le (s : Str) : 2 ≤ needL s ∧ needL s ≤ 5 := by
  unfold needL
  repeat' split
  all_goals omega
theorem wish_word {t : Tr} {cs : List Tr} (h : t ∈ [Tr.str "Unlike", .str "unlikes", .str "", .str "many ", .str "row", .non, .int 3, .bl true, .tup [.str "sum"]]) : wishT (.tup (t :: cs)) = false := by
  have st : ∀ {s : Str}, s ∉ seven → wishT (.tup (.str s :: cs)) = false := fun hs => by
    rw [Bool.eq_false_iff]
    exact fun z => hs (wish_in z)
  simp only [List.mem_cons, List.not_mem_nil, or_false] at h
  rcases h with rfl | rfl | rfl | rfl | rfl | rfl | rfl | rfl | rfl
  · exact st (by decide +kernel)
  · exact st (by decide +kernel)
  · exact st (by decide +kernel)
  · exact st (by decide +kernel)
  · exact st (by decide +kernel)
  · rfl
  · rfl
  · rfl
  · rfl
theorem wish_no {t : Tr} (h : wishT t = false) : plainT t = false := by
  cases e : plainT t with
  | false => rfl
  | true => rw [wish_plain e] at h; cases h
theorem wish_none {t : Tr} (h : t ∈ [Tr.non, .int 5, .tup [], .str "unlike", .tup [.str "unlike"]]) : wishT t = false := by
  simp only [List.mem_cons, List.not_mem_nil, or_false] at h
  rcases h with rfl | rfl | rfl | rfl | rfl
  · rfl
  · rfl
  · rfl
  · rfl
  · rw [Bool.eq_false_iff]
    intro z
    exact absurd (wish_len z) (by show ¬ 1 = needL "unlike"; decide +kernel)
theorem plain_same {l : List Tr} : plainT (.tup (.str "same" :: l)) = false := by
  rw [show plainT (.tup (.str "same" :: l)) = formF "same" (.str "same" :: l) from rfl, form_not (by decide +kernel)]
noncomputable def spInner : Sp := fun vs H Q _ => ∃ (d l p : Addr) (v : V) (n m w : Tr) (ws : List Str), vs = [.ref d, v, .ref p] ∧ DealAt H d l ∧ TV H v (.tup [.str "same", n, m, w]) ∧ wishT (.tup [.str "same", n, m, w]) = true ∧ SpareAt H p ws ∧
  ∀ (v : V) (t : Tr) (H' : Hp), TV H' v t → (plainT t = false ∨ n ∈ (cellsS t).map Tr.str) → DealAt H' d l → But d l H H' → Q v H'
theorem SpareAt.at {H : Hp} {p : Addr} {ws : List Str} (h : SpareAt H p ws) (i : Nat) (hi : i < 14) : ∃ w, atI (ws.map V.str) (i : Int) = some (V.str w) ∧ w.length ≤ 20 := by
  have hiw : i < ws.length := by rw [h.2.1]; exact hi
  have hgi : ws[i]? = some (ws.getD i "") := by simp [List.getD_eq_getElem?_getD, hiw]
  exact ⟨ws.getD i "", atI_nat (by rw [List.getElem?_map, hgi]; rfl), nm_len (h.2.2.2 _ (List.mem_of_getElem? hgi))⟩
noncomputable def spInn (b : Bool) : Sp := fun vs H Q E => b = true ∧ spInner vs H Q E
theorem fn_false {P : Program} {w : World} {K : PySem.W.Frag} {mg : Str → Option Value} {base : Heap} {x : Str} {k : Nat} {ps : List Str} {st : Stmt} (L : FnL K mg x st ps) : Fn P w K mg base x k ps (spInn false) := by
  obtain ⟨f, fd, F, m, b⟩ := L
  exact ⟨f, fd, ⟨fun _ _ _ _ q => (by cases q.1), fun _ _ _ _ _ _ _ _ _ _ _ _ _ q => (by cases q.1)⟩, m, F.kp, b⟩
theorem fn_inn {P : Program} {w : World} {K : PySem.W.Frag} {mg : Str → Option Value} {base : Heap} {x : Str} {k : Nat} {ps : List Str} (F : Fn P w K mg base x k ps spInner) : Fn P w K mg base x k ps (spInn true) := by
  obtain ⟨f, fd, F, m⟩ := F
  exact ⟨f, fd, F.imp fun _ _ _ _ q => q.2, m⟩
theorem ok__law_spoilt  {n : Nat} {b : Bool} (AT1 : mg "_law_bad_steps" = some (.ref (clsAt mg "_law_bad_steps"))) (AT2 : mg "_law_bad_ends" = some (.ref (clsAt mg "_law_bad_ends"))) (T : Txt w K mg) (L : FnL K mg "_law_spoilt" s__law_spoilt ["_law_deal_here", "_law_wish", "_law_spare"]) (F_law_draw : Fn P w K mg base "_law_draw" 1 ["_law_deal_here", "_law_many_here"] (spDraw)) (F_law_bad_name : Fn P w K mg base "_law_bad_name" 2 ["_law_deal_here"] (spBadNm)) (F_law_put : Fn P w K mg base "_law_put" 1 ["_law_things", "_law_place", "_law_thing"] (spPut)) (F_law_bad_rows : Fn P w K mg base "_law_bad_rows" 3 ["_law_deal_here", "_law_rows", "_law_wide"] (spBadR)) (F_law_bad_steps : Fn P w K mg base "_law_bad_steps" 3 ["_law_deal_here", "_law_steps"] (spBadX stepsT)) (F_law_bad_ends : Fn P w K mg base "_law_bad_ends" 3 ["_law_deal_here", "_law_ends"] (spBadX endsT)) (F_law_bad_part : Fn P w K mg base "_law_bad_part" 4 ["_law_deal_here", "_law_wish", "_law_place", "_law_spare"] (spPart)) (F_law_bad_inner : Fn P w K mg base "_law_bad_inner" (n + 4) ["_law_deal_here", "_law_wish", "_law_spare"] (spInn b)) : Fn P w K mg base "_law_spoilt" (n + 5) ["_law_deal_here", "_law_wish", "_law_spare"] (spSp b) := by
  have nd := sc__law_spoilt.nd
  refine L.ok sc__law_spoilt (fun vs H Q E h => ?_) (fun f cdv A outer s H vs Q E hr h => ?_) <;> obtain ⟨d, l, p, v, t, ws, rfl, D, tv, hw, hP, hS, k⟩ := h
  · rfl
  have hu := hu_of hr
  refine ⟨_, (pss_cons (ps_set (i := 3) nd rfl (by first | exact Or.inl rfl | exact Or.inr rfl) (pe_callF F_law_draw (hr.mono (by first | decide | omega)) rfl (pa_cons (pvM 0) (pa_cons pe_int pa_nil))))
    (pss_cons (ps_if (pt_cmpR op_eq (pvM 3) pe_int (nomark _)) (pss_one (ps_ret (pe_ix ix_L (pe_lst (pa_cons (pe_op op_catTs (pvM 1) (pe_tup (pa_cons (pe_ix ix_T (pvM 1) (pe_un un_neg pe_int) (fun _ _ => rfl)) pa_nil))) (pa_cons (pe_slice sl_Ts (pvM 1) po_none (po_some (pe_un un_neg pe_int))) (pa_cons (pe_slice sl_Ts (pvM 1) (po_some pe_int) po_none) (pa_cons (pe_tup (pa_cons (pvM 1) pa_nil)) pa_nil))))) (pe_callF F_law_draw (hr.mono (by first | decide | omega)) rfl (pa_cons (pvM 0) (pa_cons pe_int pa_nil))) (fun _ _ => rfl)))) pss_nil)
    (pss_cons (ps_if (pt_cmpR op_eq (pvM 3) pe_int (nomark _)) (pss_cons (ps_set (i := 4) nd rfl (by first | exact Or.inl rfl | exact Or.inr rfl) (pe_lst (pa_cons pe_str (pa_cons pe_str (pa_cons pe_str (pa_cons pe_str (pa_cons pe_str (pa_cons pe_non (pa_cons pe_int (pa_cons pe_bl (pa_cons (pe_tup (pa_cons pe_str pa_nil)) pa_nil)))))))))))
    (pss_one (ps_ret (pe_callF F_law_put (hr.mono (by first | decide | omega)) rfl (pa_cons (pvM 1) (pa_cons pe_int (pa_cons (pe_ix ix_L (pvM 4) (pe_callF F_law_draw (hr.mono (by first | decide | omega)) rfl (pa_cons (pvM 0) (pa_cons pe_int pa_nil))) (fun _ _ => rfl)) pa_nil))))))) pss_nil)
    (pss_cons (ps_set (i := 5) nd rfl (by first | exact Or.inl rfl | exact Or.inr rfl) (pe_op op_add pe_int (pe_callF F_law_draw (hr.mono (by first | decide | omega)) rfl (pa_cons (pvM 0) (pa_cons (pe_op op_sub (pe_callB call_lenT rfl T.b_len PySem.boot_len (pa_cons (pvM 1) pa_nil)) pe_int) pa_nil)))))
    (pss_cons (ps_if (PW.pt (pw_and (pt_cmpR op_eq (pe_ix ix_T (pvM 1) pe_int (fun _ _ => rfl)) pe_str (nomark _)) (pw_and1 (pt_cmpR op_eq (pvM 5) pe_int (nomark _))))) (pss_one (ps_set (i := 6) nd rfl (by first | exact Or.inl rfl | exact Or.inr rfl) (pe_callF F_law_bad_rows (hr.mono (by first | decide | omega)) rfl (pa_cons (pvM 0) (pa_cons (pe_ix ix_T (pvM 1) pe_int (fun _ _ => rfl)) (pa_cons (pe_callB call_lenT rfl T.b_len PySem.boot_len (pa_cons (pe_ix ix_T (pvM 1) pe_int (fun _ _ => rfl)) pa_nil)) pa_nil)))))) (pss_one (ps_if (PW.pt (pw_and (pt_cmpR op_eq (pe_ix ix_T (pvM 1) pe_int (fun _ _ => rfl)) pe_str (nomark _)) (pw_and1 (pt_cmpR op_gt (pvM 5) pe_int (nomark _))))) (pss_one (ps_set (i := 6) nd rfl (by first | exact Or.inl rfl | exact Or.inr rfl) (pe_callIx (mg := mg) rfl F_law_bad_steps F_law_bad_ends (hr.mono (by first | decide | omega)) (hr.mono (by first | decide | omega)) (pe_ix ix_L (pe_lst (pa_cons (pe_glob (v := .ref (clsAt mg "_law_bad_steps")) rfl AT1 rfl) (pa_cons (pe_glob (v := .ref (clsAt mg "_law_bad_ends")) rfl AT2 rfl) pa_nil))) (pe_op op_sub (pvM 5) pe_int) (fun _ _ => rfl)) (pa_cons (pvM 0) (pa_cons (pe_ix ix_T (pvM 1) (pvM 5) (fun _ _ => rfl)) pa_nil))))) (pss_one (ps_if (PW.pt (pw_and (pt_cmpR op_eq (pe_ix ix_T (pvM 1) pe_int (fun _ _ => rfl)) pe_str (nomark _)) (pw_and1 (pt_cmpR op_eq (pvM 5) pe_int (nomark _))))) (pss_one (ps_set (i := 6) nd rfl (by first | exact Or.inl rfl | exact Or.inr rfl) (pe_callF F_law_bad_name (hr.mono (by first | decide | omega)) rfl (pa_cons (pvM 0) pa_nil)))) (pss_one (ps_if (PW.pt (pw_and (pt_cmpR op_eq (pe_ix ix_T (pvM 1) pe_int (fun _ _ => rfl)) pe_str (nomark _)) (pw_and1 (pt_cmpR op_eq (pvM 5) pe_int (nomark _))))) (pss_one (ps_set (i := 6) nd rfl (by first | exact Or.inl rfl | exact Or.inr rfl) (pe_callF F_law_bad_inner (hr.mono (by first | decide | omega)) rfl (pa_cons (pvM 0) (pa_cons (pvM 1) (pa_cons (pvM 2) pa_nil)))))) (pss_one (ps_set (i := 6) nd rfl (by first | exact Or.inl rfl | exact Or.inr rfl) (pe_callF F_law_bad_part (hr.mono (by first | decide | omega)) rfl (pa_cons (pvM 0) (pa_cons (pvM 1) (pa_cons (pvM 5) (pa_cons (pvM 2) pa_nil))))))))))))))
    (pss_one (ps_ret (pe_callF F_law_put (hr.mono (by first | decide | omega)) rfl (pa_cons (pvM 1) (pa_cons (pvM 5) (pa_cons (pvM 6) pa_nil))))))))))), ?_⟩
  obtain ⟨s0, cs, rfl⟩ : ∃ s cs, t = .tup (.str s :: cs) := (sort_cases t).resolve_right fun z => by rw [z.2.1] at hw; cases hw
  obtain ⟨a, xs, rfl, ha, hx⟩ := tv
  obtain ⟨y, ys, rfl, ⟨rfl, hls⟩, hy⟩ := id hx
  have hylen := hy.len
  have hneed := wish_len hw
  have hnl := need_le s0
  (try ctx_has vcx true_and ha)
  refine draw_rd D (by decide) (by decide) fun r H1 r0 r1 D1 B1 => ?_
  have h1 := B1.keepT D _ _ ha
  have hx1 := TVs.keep (B1.keepT D) _ hx
  have S1 := hS.but D B1
  (try ctx_has vcx true_and h1)
  refine ite2 (fun e => ?_) (fun e => ?_)
  · obtain ⟨cl0, z, ez⟩ : ∃ cl0 z, ys = cl0 ++ [z] := by
      rcases List.eq_nil_or_concat ys with h | ⟨b, c, h⟩
      · rw [h] at hylen; simp at hylen; omega
      · exact ⟨b, c, by rw [h, List.concat_eq_append]⟩
    have hla : atI (V.str s0 :: ys) (-1) = some z := by rw [ez]; exact atI_last (V.str s0 :: cl0) z
    have hcl : cl0.length + 1 = cs.length := by rw [← hylen, ez]; simp
    obtain ⟨tz, etz, tvz⟩ := hx1.at (i := cl0.length + 1) (x := z) (by rw [ez]; simp)
    refine ⟨z, hla, by decide, fun q hq => ⟨_, by rw [upd_ne (ne_of_none h1 hq)]; exact h1, _, upd_same, ?_, fun q1 H2 g1 s2 => ?_⟩⟩
    · exact Nat.le_of_lt (small1000 (by simp; omega))
    have s12 : Same H1 H2 := (Same.upd0 hq).trans s2
    refine ⟨_, s12 _ _ h1, fun q2 H3 g2 s3 => ⟨_, s3 _ _ (s12 _ _ h1), fun q3 H4 g3 s4 => ⟨by decide, fun q4 hq4 => ?_⟩⟩⟩
    have g4 : upd H4 q4 (HO.tup [V.ref a]) q4 = some (HO.tup [V.ref a]) := upd_same
    have s5 : Same H4 (upd H4 q4 (HO.tup [V.ref a])) := Same.upd0 hq4
    generalize upd H4 q4 (HO.tup [V.ref a]) = H5 at g4 s5 ⊢
    refine ⟨by decide, fun q5 hq5 => ?_⟩
    have s15 : Same H1 H5 := s12.trans (s3.trans (s4.trans s5))
    have hx5 := TVs.keep (Same.keepT s15) _ hx1
    have ec2 : cutV (V.str s0 :: ys) none (some (-1)) = (V.str s0 :: ys).take ys.length := by
      have := cut_map_but id (V.str s0 :: ys)
      rw [List.dropLast_eq_take] at this
      simpa using this
    have ec3 : cutV (V.str s0 :: ys) (some 1) none = (V.str s0 :: ys).drop 1 := by have := cut_map_from id (V.str s0 :: ys) 1; simpa using this
    rw [ec2] at g2
    rw [ec3] at g3
    refine pick (ts := [.tup ((.str s0 :: cs) ++ [tz]), .tup ((Tr.str s0 :: cs).take ys.length), .tup ((Tr.str s0 :: cs).drop 1), .tup [.tup (.str s0 :: cs)]]) (fun t => wishT t = false) (D1.same s15) hq5
      (.cons ⟨q1, _, rfl, s5 _ _ (s4 _ _ (s3 _ _ g1)), hx5.app (TVs.one (TV.keep (Same.keepT s15) _ tvz))⟩ (.cons ⟨q2, _, rfl, s5 _ _ (s4 _ _ g2), TVs.take _ hx5⟩ (.cons ⟨q3, _, rfl, s5 _ _ g3, TVs.drop 1 hx5⟩ (.cons ⟨q4, _, rfl, g4, TVs.one (t := .tup (.str s0 :: cs)) ⟨a, _, rfl, s15 _ _ h1, hx5⟩⟩ rfl)))) (fun t ht => ?_) (by decide) (by decide) rfl fun r3 v t H6 ha tv hb D6 B6 h6 => ⟨_, rfl, _, h6, _, ha, k v t H6 tv hb D6 ((B1.same s15).trans B6)⟩
    simp only [List.mem_cons, List.not_mem_nil, or_false] at ht
    rcases ht with rfl | rfl | rfl | rfl
    · exact wish_cut (m := cs ++ [tz]) hw (by simp)
    · have e5 : (Tr.str s0 :: cs).take ys.length = Tr.str s0 :: cs.take (ys.length - 1) := by
        obtain ⟨m, hm⟩ : ∃ m, ys.length = m + 1 := ⟨ys.length - 1, by omega⟩
        rw [hm]; rfl
      rw [e5]
      exact wish_cut hw (by simp; omega)
    · exact wish_tail hw
    · rfl
  refine ite2 (fun e => ?_) (fun e => ?_)
  · refine ⟨by decide, fun q hq => ?_⟩
    have g4 : upd H1 q (HO.tup [V.str (Str.ofString "sum")]) q = some (HO.tup [V.str (Str.ofString "sum")]) := upd_same
    have s5 : Same H1 (upd H1 q (HO.tup [V.str (Str.ofString "sum")])) := Same.upd0 hq
    generalize upd H1 q (HO.tup [V.str (Str.ofString "sum")]) = H5 at g4 s5 ⊢
    refine ⟨by decide, fun q5 hq5 => ?_⟩
    have st : ∀ {x : Str}, x.length ≤ 20 → TV H5 (.str x) (.str x) := fun h => ⟨rfl, h⟩
    refine pick (ts := [.str "Unlike", .str "unlikes", .str "", .str "many ", .str "row", .non, .int 3, .bl true, .tup [.str "sum"]]) (fun t => wishT (.tup (t :: cs)) = false) (D1.same s5) hq5 (.cons (st (by decide)) (.cons (st (by decide)) (.cons (st (by decide)) (.cons (st (by decide)) (.cons (st (by decide)) (.cons rfl (.cons rfl (.cons rfl (.cons ⟨q, _, rfl, g4, TVs.one ⟨rfl, by decide⟩⟩ rfl))))))))) (fun t ht => wish_word ht) (by decide) (by decide) rfl fun r3 v t H6 ha tv hb D6 B6 h6 => ⟨_, rfl, _, h6, _, ha, ?_⟩
    have k16 : KeepT H1 H6 := (Same.keepT s5).trans (B6.keepT (D1.same s5))
    exact put_rd (k16 _ _ h1) (TVs.keep k16 _ hx1) tv (by omega) (by simp) (by simp; omega) fun q2 H7 tq s7 => k _ _ H7 tq hb (D6.same s7) (((B1.same s5).trans B6).same s7)
  refine draw_rd D1 (by omega) (by omega) fun x H2 x0 x1 D2 B2 => ?_
  have h2 := B2.keepT D1 _ _ h1
  have hx2 := TVs.keep (B2.keepT D1) _ hx1
  have S2 := S1.but D1 B2
  have B02 := B1.trans B2
  refine ⟨_, rfl, ?_⟩
  obtain ⟨j, hj⟩ : ∃ j : Nat, 1 + x = (j : Int) := ⟨(1 + x).toNat, by omega⟩
  rw [hj]
  have j1 : 1 ≤ j := by omega
  have j2 : j ≤ cs.length := by omega
  have putW : ∀ (v : V) (t : Tr) (H3 : Hp), TV H3 v t → wishT (.tup ((Tr.str s0 :: cs).set j t)) = false → DealAt H3 d l → But d l H2 H3 → spPut [V.ref a, V.int (j : Int), v] H3 Q E0 := fun v t H3 tv3 hbad D3 B3 =>
    put_rd (B3.keepT D2 _ _ h2) (TVs.keep (B3.keepT D2) _ hx2) tv3 (by omega) (by simp; omega) (by simp; omega) fun q2 H4 tq s4 => k _ _ H4 tq hbad (D3.same s4) ((B02.trans B3).same s4)
  have part : ¬ (s0 = "table" ∧ j = 2) → ¬ (s0 = "way" ∧ 1 < j) → ¬ (s0 = "same" ∧ (j = 1 ∨ j = 3)) → spPart [V.ref d, V.ref a, V.int (j : Int), V.ref p] H2 (fun x_1 H1 => spPut [V.ref a, V.int (j : Int), x_1] H1 Q E0) E0 := fun y1 y2 y3 =>
    ⟨d, l, p, .ref a, s0, cs, j, ws, rfl, D2, ⟨a, _, rfl, h2, hx2⟩, hw, j1, j2, y1, y2, y3, S2, putW⟩
  have hs := wish_in hw
  simp only [seven, List.mem_cons, List.not_mem_nil, or_false] at hs
  rcases hs with rfl | rfl | rfl | rfl | rfl | rfl | rfl
  · (try ctx_has vcx true_and h2)
    exact part (fun z => by cases z.1) (fun z => by cases z.1) (fun z => by cases z.1)
  · (try ctx_has vcx true_and h2)
    exact part (fun z => by cases z.1) (fun z => by cases z.1) (fun z => by cases z.1)
  · (try ctx_has vcx true_and h2)
    exact part (fun z => by cases z.1) (fun z => by cases z.1) (fun z => by cases z.1)
  · (try ctx_has vcx true_and h2)
    refine ite2 (fun e2 => ?_) (fun e2 => part (fun z => e2 (by rw [z.2]; rfl)) (fun z => by cases z.1) (fun z => by cases z.1))
    obtain rfl : j = 2 := by omega
    have hf := hw
    rw [wish_fm (by decide +kernel), fm_table] at hf
    simp only [tableF, Bool.and_eq_true] at hf
    obtain ⟨y2, ey2, t2⟩ := tv_at hx2 2 (by simp; omega)
    obtain ⟨y1, ey1, t1⟩ := tv_at hx2 1 (by simp; omega)
    obtain ⟨us, b, rfl, hb, en, u1, u2⟩ := names_at t1 hf.2.1
    have hr := hf.2.2
    rw [en] at hr
    simp only [itT, List.length_map] at hr
    refine ⟨y2, ey2, _, ey1, b, rfl, _, hb, d, l, y2, _, _, rfl, D2, t2, by rw [List.length_map]; omega, by rw [List.length_map]; omega, by rw [List.length_map]; exact hr, fun v t H3 tv3 hb3 D3 B3 => putW v t H3 tv3 ?_ D3 B3⟩
    rw [List.length_map] at hb3
    match cs, en, hneed with
    | [c1, c2], en, _ =>
      have en : c1 = _ := en
      show wishT (.tup [.str "table", c1, t]) = false
      rw [wish_fm (by decide +kernel), fm_table]
      simp [tableF, en, itT, hb3]
    | [], _, hneed => exact absurd hneed (by decide +kernel)
    | [_], _, hneed => exact absurd hneed (by show ¬ 2 = needL "table"; decide +kernel)
    | _ :: _ :: _ :: r, _, hneed => exact absurd hneed (by have : needL "table" = 3 := by decide +kernel
                                                           rw [this]; simp)
  · (try ctx_has vcx true_and h2 tCallIx)
    refine ite2 (fun e2 => ?_) (fun e2 => part (fun z => by cases z.1) (fun z => e2 (by omega)) (fun z => by cases z.1))
    have hf := hw
    rw [wish_fm (by decide +kernel), fm_way] at hf
    simp only [wayF, Bool.and_eq_true] at hf
    have hn4 : needL "way" = 4 := by decide +kernel
    have hn4 : cs.length = 3 := by omega
    refine ⟨by decide, fun q hq => ⟨_, upd_same, ?_⟩⟩
    have h3 : upd H2 q (HO.lst [V.ref (clsAt mg "_law_bad_steps"), V.ref (clsAt mg "_law_bad_ends")]) a = some (.tup (V.str "way" :: ys)) := by rw [upd_ne (ne_of_none h2 hq)]; exact h2
    have s3 : Same H2 (upd H2 q (HO.lst [V.ref (clsAt mg "_law_bad_steps"), V.ref (clsAt mg "_law_bad_ends")])) := Same.upd0 hq
    generalize upd H2 q (HO.lst [V.ref (clsAt mg "_law_bad_steps"), V.ref (clsAt mg "_law_bad_ends")]) = H3 at h3 s3 ⊢
    have hx3 := TVs.keep (Same.keepT s3) _ hx2
    have D3 := D2.same s3
    have B3 : But d l H2 H3 := (But.refl H2).same s3
    match cs, hn4 with
    | [c1, c2, c3], _ =>
      have hj : j = 2 ∨ j = 3 := by simp at j2; omega
      rcases hj with rfl | rfl
      · obtain ⟨y2, ey2, t2⟩ := tv_at hx3 2 (by simp)
        refine ⟨_, rfl, _, rfl, .inl ⟨AT1, _, h3, y2, ey2, d, l, y2, _, rfl, D3, t2, hf.2.2.1, fun v t H4 tv4 hb4 D4 B4 => putW v t H4 tv4 ?_ D4 (B3.trans B4)⟩⟩
        show wishT (.tup [.str "way", c1, t, c3]) = false
        rw [wish_fm (by decide +kernel), fm_way]
        simp [wayF, hb4]
      · obtain ⟨y2, ey2, t2⟩ := tv_at hx3 3 (by simp)
        refine ⟨_, rfl, _, rfl, .inr ⟨AT2, _, h3, y2, ey2, d, l, y2, _, rfl, D3, t2, hf.2.2.2, fun v t H4 tv4 hb4 D4 B4 => putW v t H4 tv4 ?_ D4 (B3.trans B4)⟩⟩
        show wishT (.tup [.str "way", c1, c2, t]) = false
        rw [wish_fm (by decide +kernel), fm_way]
        simp [wayF, hb4]
  · (try ctx_has vcx true_and h2)
    exact part (fun z => by cases z.1) (fun z => by cases z.1) (fun z => by cases z.1)
  · (try ctx_has vcx true_and h2)
    have hbt : b = true := by
      cases b with
      | true => rfl
      | false => have := hP rfl; rw [plain_same] at this; cases this
    have hn4 : needL "same" = 4 := by decide +kernel
    have hn4 : cs.length = 3 := by omega
    match cs, hn4 with
    | [c1, c2, c3], _ =>
      refine ite2 (fun e2 => ?_) (fun e2 => ?_)
      · obtain rfl : j = 1 := by omega
        refine ⟨d, l, rfl, D2, fun v t H3 tv3 hb3 D3 B3 => putW v t H3 tv3 ?_ D3 B3⟩
        show wishT (.tup [.str "same", t, c2, c3]) = false
        rw [wish_sm]
        simp [sameF, hb3]
      refine ite2 (fun e3 => ?_) (fun e3 => ?_)
      · obtain rfl : j = 3 := by omega
        refine ⟨hbt, d, l, p, .ref a, c1, c2, c3, ws, rfl, D2, ⟨a, _, rfl, h2, hx2⟩, hw, S2, fun v t H3 tv3 hb3 D3 B3 => putW v t H3 tv3 ?_ D3 B3⟩
        show wishT (.tup [.str "same", c1, c2, t]) = false
        rw [wish_sm]
        rcases hb3 with hb3 | hb3
        · simp [sameF, hb3]
        · simp [sameF, show dec (c1 ∈ (cellsS t).map Tr.str) = true from dec_true hb3, -List.mem_map]
      exact part (fun z => by cases z.1) (fun z => by cases z.1) (fun z => by omega)
theorem ok__law_bad_inner   (T : Txt w K mg) (L : FnL K mg "_law_bad_inner" s__law_bad_inner ["_law_deal_here", "_law_wish", "_law_spare"]) (F_law_draw : Fn P w K mg base "_law_draw" 1 ["_law_deal_here", "_law_many_here"] (spDraw)) (F_law_spoilt : Fn P w K mg base "_law_spoilt" 5 ["_law_deal_here", "_law_wish", "_law_spare"] (spSp false)) : Fn P w K mg base "_law_bad_inner" 6 ["_law_deal_here", "_law_wish", "_law_spare"] (spInner) := by
  have nd := sc__law_bad_inner.nd
  refine L.ok sc__law_bad_inner (fun vs H Q E h => ?_) (fun f cdv A outer s H vs Q E hr h => ?_) <;> obtain ⟨d, l, p, v, n, m, w, ws, rfl, D, tv, hw, hS, k⟩ := h
  · rfl
  have hu := hu_of hr
  refine ⟨_, (pss_cons (ps_set (i := 3) nd rfl (by first | exact Or.inl rfl | exact Or.inr rfl) (pe_callF F_law_draw (hr.mono (by first | decide | omega)) rfl (pa_cons (pvM 0) (pa_cons pe_int pa_nil))))
    (pss_cons (ps_if (pt_cmpR op_eq (pvM 3) pe_int (nomark _)) (pss_one (ps_ret (pe_ix ix_L (pe_lst (pa_cons pe_non (pa_cons pe_int (pa_cons (pe_tup pa_nil) (pa_cons pe_str (pa_cons (pe_tup (pa_cons pe_str pa_nil)) pa_nil)))))) (pe_callF F_law_draw (hr.mono (by first | decide | omega)) rfl (pa_cons (pvM 0) (pa_cons pe_int pa_nil))) (fun _ _ => rfl)))) pss_nil)
    (pss_cons (ps_if (pt_cmpR op_eq (pvM 3) pe_int (nomark _)) (pss_one (ps_ret (pe_tup (pa_cons pe_str (pa_cons (pe_ix ix_L (pvM 2) pe_int (fun _ _ => rfl)) (pa_cons (pe_tup pa_nil) (pa_cons (pe_tup (pa_cons pe_str (pa_cons (pe_tup (pa_cons (pe_ix ix_L (pvM 2) pe_int (fun _ _ => rfl)) pa_nil)) pa_nil))) pa_nil))))))) pss_nil)
    (pss_cons (ps_if (pt_cmpR op_eq (pvM 3) pe_int (nomark _)) (pss_one (ps_ret (pe_tup (pa_cons pe_str (pa_cons (pe_tup (pa_cons (pe_ix ix_L (pvM 2) pe_int (fun _ _ => rfl)) (pa_cons (pe_ix ix_T (pvM 1) pe_int (fun _ _ => rfl)) pa_nil))) pa_nil))))) pss_nil)
    (pss_one (ps_ret (pe_callF F_law_spoilt (hr.mono (by first | decide | omega)) rfl (pa_cons (pvM 0) (pa_cons (pe_ix ix_T (pvM 1) pe_int (fun _ _ => rfl)) (pa_cons (pvM 2) pa_nil)))))))))), ?_⟩
  have hf := hw
  rw [wish_sm] at hf
  simp only [sameF, Bool.and_eq_true, List.getD_cons_succ, List.getD_cons_zero] at hf
  obtain ⟨nm, rfl⟩ : ∃ nm, n = .str nm := by
    cases hx : n with
    | str nm => exact ⟨nm, rfl⟩
    | _ => rw [hx] at hf; cases hf.2.1
  obtain ⟨a, xs, rfl, ha, hx⟩ := tv
  (try ctx_has vcx true_and ha)
  refine draw_rd D (by decide) (by decide) fun r H1 r0 r1 D1 B1 => ?_
  have h1 := B1.keepT D _ _ ha
  have hx1 := TVs.keep (B1.keepT D) _ hx
  have S1 := hS.but D B1
  have hk : ∀ (v : V) (t : Tr) (H' : Hp), TV H' v t → wishT t = false → DealAt H' d l → But d l H H' → Q v H' := fun v t H' a1 a2 a3 a4 => k v t H' a1 (.inl (wish_no a2)) a3 a4
  (try ctx_has vcx true_and h1)
  refine ite2 (fun e => ?_) (fun e => ?_)
  · kpf_say (H1, q74, hq74, hh74, ss74) al G74 (HO.tup [])
    kpf_say (G74, q75, hq75, hh75, ss75) al G75 (HO.tup [V.str "unlike"])
    refine ⟨by decide, fun q76 hq76 => ?_⟩
    refine pick (ts := [.non, .int 5, .tup [], .str "unlike", .tup [.str "unlike"]]) (fun t => wishT t = false) (D1.same ((ss74).trans ss75)) hq76 (.cons (rfl) (.cons (rfl) (.cons (⟨q74, _, rfl, (ss75 _ _ hh74), rfl⟩) (.cons (⟨rfl, by decide⟩) (.cons (⟨q75, _, rfl, hh75, (.cons (⟨rfl, by decide⟩) rfl)⟩) rfl))))) (fun t ht => ?_) (by decide) (by decide) rfl fun r3 v t H3 ha tv hb D4 B4 h4 => ⟨_, rfl, _, h4, _, ha, hk v t H3 tv hb D4 ((B1.same ((ss74).trans ss75)).trans B4)⟩
    simp only [List.mem_cons, List.not_mem_nil, or_false] at ht
    rcases ht with rfl | rfl | rfl | rfl | rfl
    all_goals exact wish_none (by simp)
  refine ite2 (fun e => ?_) (fun e => ?_)
  · obtain ⟨w12, e12, l12⟩ := S1.at 12 (by decide)
    obtain ⟨w11, e11, l11⟩ := S1.at 11 (by decide)
    refine ⟨_, S1.1, _, e12, ?_⟩
    kpf_say (H1, q1, hq1, g1, s1) al G1 (HO.tup [])
    refine ⟨_, (S1.same s1).1, _, e11, ?_⟩
    kpf_say (G1, q2, hq2, g2, s2) al G2 (HO.tup [V.str w11])
    kpf_say (G2, q3, hq3, g3, s3) al G3 (HO.tup [V.str (Str.ofString "unlike"), V.ref q2])
    kpf_say (G3, q4, hq4, g4, s4) al G4 (HO.tup [V.str (Str.ofString "same"), V.str w12, V.ref q1, V.ref q3])
    have s14 : Same H1 G4 := ((s1.trans s2).trans s3).trans s4
    exact k (.ref q4) (.tup [.str "same", .str w12, .tup [], .tup [.str "unlike", .tup [.str w11]]]) G4
      ⟨q4, _, rfl, g4, .cons ⟨rfl, by decide⟩ (.cons ⟨rfl, l12⟩ (.cons ⟨q1, [], rfl, s4 _ _ (s3 _ _ (s2 _ _ g1)), rfl⟩ (.cons ⟨q3, _, rfl, s4 _ _ g3, .cons ⟨rfl, by decide⟩ (.cons ⟨q2, _, rfl, s4 _ _ (s3 _ _ g2), .cons ⟨rfl, l11⟩ rfl⟩ rfl)⟩ rfl)))⟩
      (.inl plain_same) (D1.same s14) (B1.same s14)
  refine ite2 (fun e => ?_) (fun e => ?_)
  · obtain ⟨w0, e0, l0⟩ := S1.at 0 (by decide)
    obtain ⟨y, ey, ty⟩ := tv_at hx1 1 (by simp)
    obtain ⟨rfl, ly⟩ : y = .str nm ∧ nm.length ≤ 20 := ty
    refine ⟨_, S1.1, _, e0, _, ey, ?_⟩
    kpf_say (H1, q2, hq2, g2, s2) al G2 (HO.tup [V.str w0, V.str nm])
    kpf_say (G2, q3, hq3, g3, s3) al G3 (HO.tup [V.str (Str.ofString "unlike"), V.ref q2])
    have s13 := s2.trans s3
    refine k (.ref q3) (.tup [.str "unlike", .tup ([w0, nm].map Tr.str)]) G3 ⟨q3, _, rfl, g3, .cons ⟨rfl, by decide⟩ (.cons ⟨q2, _, rfl, s3 _ _ g2, .cons ⟨rfl, l0⟩ (.cons ⟨rfl, ly⟩ rfl)⟩ rfl)⟩ (.inr ?_) (D1.same s13) (B1.same s13)
    rw [tr_cells (by decide +kernel) (by decide +kernel)]
    simp
  obtain ⟨y, ey, ty⟩ := tv_at hx1 3 (by simp)
  exact ⟨y, ey, d, l, p, y, _, ws, rfl, D1, ty, wish_plain hf.2.2.2.1, fun _ => hf.2.2.2.1, S1, fun v t H' a1 a2 a3 a4 => hk v t H' a1 a2 a3 (B1.trans a4)⟩
noncomputable def tabs : List (Addr × Addr × Str) := [(127, 123, qRow)]
theorem good_names {ws : List Str} (h : NamesOk ws) : GoodN ws := ⟨h.nd, fun x hx => by
  have n := h.nm x hx
  have hm : inV (.str x) marksV = false := by
    have := inV_strs x marks4
    rw [decide_eq_false (h.nomark x hx)] at this
    exact this
  show (decide (1 ≤ x.length) && decide (x.length ≤ 8) && !inV (.str x) marksV && x.cps.toList.all smallB) = true
  rw [decide_eq_true n.pos, decide_eq_true n.le, hm, List.all_eq_true.mpr n.small]
  rfl⟩
theorem wish_eight {w t : Tr} (h : t ∈ [Tr.non, .int 5, .bl true, .tup [], .str "unlike", .tup [.str "unlike"], .tup [w], .tup [.tup []]]) (hw : wishT w = true) : wishT t = false := by
  simp only [List.mem_cons, List.not_mem_nil, or_false] at h
  rcases h with rfl | rfl | rfl | rfl | rfl | rfl | rfl | rfl
  · rfl
  · rfl
  · rfl
  · rfl
  · rfl
  · exact wish_none (by simp)
  · cases w with
    | tup l => rfl
    | _ => cases hw
  · rfl
theorem RT.but {pt d l : Addr} {H H' : Hp} (h : RT pt H) (D : DealAt H d l) (B : But d l H H') : RT pt H' := by
  obtain ⟨m, sd, n, xs, e1, e2, _⟩ := D.ex
  exact B _ _ (ne_of h e1 (by intro z; cases z)) (ne_of h e2 (by intro z; cases z)) h
noncomputable def spLaw (K : PySem.W.Frag) : Sp := fun vs H Q _ => ∃ (a : Addr) (ns : List Int), vs = [.ref a] ∧ SqL K H a (ns.map V.int) ∧ ns.length ≤ 63 ∧ tabsH tabs H ∧ ∀ H', tabsH tabs H' → Q (.bl true) H'
theorem tabs_rt {H : Hp} (h : tabsH tabs H) : RT 123 H := h (127, 123, qRow) (by simp [tabs])
theorem rt_tabs {H : Hp} (h : RT 123 H) : tabsH tabs H := fun t ht => by
  simp only [tabs, List.mem_cons, List.not_mem_nil, or_false] at ht
  subst ht
  exact h
theorem ok_law  {f : Addr} {fd : FuncData} (T : Txt w K mg) (L : Fun K "law" "law" s_law f fd) (F_law_deal : Fn P w K mg base "_law_deal" 1 ["_law_script", "_law_start"] (spDeal K)) (F_law_draw : Fn P w K mg base "_law_draw" 1 ["_law_deal_here", "_law_many_here"] (spDraw)) (F_law_names : Fn P w K mg base "_law_names" 2 ["_law_deal_here", "_law_many_here"] (spNames)) (F_law_big_wish : Fn P w K mg base "_law_big_wish" 6 ["_law_deal_here", "_law_names_here", "_law_sort"] (spBig)) (Fis_wish : Fn P w K mg base "is_wish" 16 ["thing"] (spB (RT 123) wishT)) (F_law_spoilt : Fn P w K mg base "_law_spoilt" 7 ["_law_deal_here", "_law_wish", "_law_spare"] (spSp true)) : FnOk P w K mg base CX0 20 f fd ["_law_script"] (spLaw K) := by
  have nd := sc_law.nd
  refine L.ok sc_law (fun vs H Q E h => ?_) (fun cdv A outer s H vs Q E hr h => ?_) <;> obtain ⟨a, ns0, rfl, hS, hlen, tb0, k⟩ := h
  · rfl
  have hu := hu_of hr
  refine ⟨_, (pss_cons (ps_set (i := 1) nd rfl (by first | exact Or.inl rfl | exact Or.inr rfl) (pe_callF F_law_deal (hr.mono (by first | decide | omega)) rfl (pa_cons (pvM 0) (pa_cons pe_int pa_nil))))
    (pss_cons (ps_set (i := 2) nd rfl (by first | exact Or.inl rfl | exact Or.inr rfl) (pe_callF F_law_names (hr.mono (by first | decide | omega)) rfl (pa_cons (pvM 1) (pa_cons pe_int pa_nil))))
    (pss_cons (ps_set (i := 3) nd rfl (by first | exact Or.inl rfl | exact Or.inr rfl) (pe_ix ix_L (pe_lst (pa_cons pe_str (pa_cons pe_str (pa_cons pe_str (pa_cons pe_str (pa_cons pe_str (pa_cons pe_str (pa_cons pe_str pa_nil)))))))) (pe_callF F_law_draw (hr.mono (by first | decide | omega)) rfl (pa_cons (pvM 1) (pa_cons pe_int pa_nil))) (fun _ _ => rfl)))
    (pss_cons (ps_set (i := 4) nd rfl (by first | exact Or.inl rfl | exact Or.inr rfl) (pe_callF F_law_big_wish (hr.mono (by first | decide | omega)) rfl (pa_cons (pvM 1) (pa_cons (pvM 2) (pa_cons (pvM 3) pa_nil)))))
    (pss_cons (ps_if (pt_cmpR op_notBl (pe_callF Fis_wish (hr.mono (by first | decide | omega)) rfl (pa_cons (pvM 4) pa_nil)) pe_bl (nomark _)) (pss_one (ps_ret pe_bl)) pss_nil)
    (pss_cons (ps_for PassesOwn.never rfl (pi_range1 rfl T.b_range (pa_cons pe_int pa_nil)) (pg_name (i := 5) nd rfl (by first | exact Or.inl rfl | exact Or.inr rfl)) (pss_cons (ps_set (i := 6) nd rfl (by first | exact Or.inl rfl | exact Or.inr rfl) (pe_callF F_law_spoilt (hr.mono (by first | decide | omega)) rfl (pa_cons (pvM 1) (pa_cons (pvM 4) (pa_cons (pvM 2) pa_nil)))))
    (pss_one (ps_if (pt_cmpR op_notBl (pe_callF Fis_wish (hr.mono (by first | decide | omega)) rfl (pa_cons (pvM 6) pa_nil)) pe_bl (nomark _)) (pss_one (ps_ret pe_bl)) pss_nil))))
    (pss_cons (ps_for PassesOwn.never rfl (pi_LK (K := K) rfl (pe_lst (pa_cons pe_non (pa_cons pe_int (pa_cons pe_bl (pa_cons (pe_tup pa_nil) (pa_cons pe_str (pa_cons (pe_tup (pa_cons pe_str pa_nil)) (pa_cons (pe_tup (pa_cons (pvM 4) pa_nil)) (pa_cons (pe_tup (pa_cons (pe_tup pa_nil) pa_nil)) pa_nil)))))))))) (pg_name (i := 7) nd rfl (by first | exact Or.inl rfl | exact Or.inr rfl)) (pss_one (ps_if (pt_cmpR op_notBl (pe_callF Fis_wish (hr.mono (by first | decide | omega)) rfl (pa_cons (pvM 7) pa_nil)) pe_bl (nomark _)) (pss_one (ps_ret pe_bl)) pss_nil)))
    (pss_one (ps_ret (pe_cmpR op_isBl (pe_callF Fis_wish (hr.mono (by first | decide | omega)) rfl (pa_cons (pvM 4) pa_nil)) pe_bl (nomark _))))))))))), ?_⟩
  have r0 := tabs_rt tb0
  (try ctx_has vcx true_and)
  refine ⟨a, ns0, 1, rfl, hS, hlen, by decide, by decide, fun d l H1 hd hl D1 sm1 => ?_⟩
  have r1 := r0.same sm1
  (try ctx_has vcx true_and)
  refine ⟨d, l, _, rfl, D1, by decide, by decide, fun ca ws H2 fca ok hws h2 D2 B2 => ?_⟩
  have nca := D1.ne fca
  have r2 := r1.but D1 B2
  (try ctx_has vcx true_and)
  have S2 : SpareAt H2 ca ws := ⟨h2, by rw [hws]; rfl, good_names ok⟩
  refine ⟨by decide, fun so hso => draw_of D2 hso (by decide) (by decide) rfl fun r v H3 hv hav D3 B3 h3 => ⟨_, rfl, _, h3, v, hav, ?_⟩⟩
  have S3 := S2.but D2 B3
  have r3 := r2.but D2 B3
  obtain ⟨sort, rfl, hs⟩ : ∃ s, v = .str s ∧ (s ∈ sorts6 ∨ s = "same") := by
    simp only [List.mem_cons, List.not_mem_nil, or_false] at hv
    rcases hv with rfl | rfl | rfl | rfl | rfl | rfl | rfl
    all_goals exact ⟨_, rfl, by decide +kernel⟩
  refine ⟨d, l, ca, ws, sort, rfl, D3, S3.1, by have := S3.2.1; omega, by have := S3.2.1; omega, S3.2.2, hs, fun v tr H4 tv hw D4 B4 => ?_⟩
  have S4 := S3.but D3 B4
  have r4 := r3.but D3 B4
  refine ⟨v, tr, rfl, tv, r4, fun H5 s5 => ⟨_, rfl, _, rfl, _, rfl, ?_⟩⟩
  rw [hw, if_neg (by decide)]
  have S5 := S4.same s5
  have r5 := r4.same s5
  have D5 := D4.same s5
  have tv5 := TV.keep (Same.keepT s5) _ tv
  clear hS sm1 B2 B3 B4 hd hl D1 D2 D3 D4 hav h3 tv s5 h2 r0 r1 r2 r3 r4 S2 S3 S4 fca hso tb0
  refine ⟨by decide, by decide, ?_⟩
  refine for_g wlk_range (fun i σ H' => ∃ (v5 v6 v7 : Option V), σ = [some (.ref a), some (.ref d), some (.ref ca), some (.str sort), some v, v5, v6, v7] ∧ TV H' v tr ∧ SpareAt H' ca ws ∧ RT 123 H' ∧ DealAt H' d l)
    ⟨_, _, _, rfl, tv5, S5, r5, D5⟩ (fun i σ H' _ => True.intro) ?_ ?_
  · rintro i x σ H6 hi hx ⟨v5, v6, v7, rfl, tv6, S6, r6, D6⟩
    (try ctx_has vcx true_and)
    refine ⟨d, l, ca, v, tr, ws, rfl, D6, tv6, hw, (fun z => by cases z), S6, fun v2 t2 H7 tv7 hb7 D7 B7 => ?_⟩
    have tv67 := TV.keep (B7.keepT D6) _ tv6
    have r7 := r6.but D6 B7
    have S7 := S6.but D6 B7
    (try ctx_has vcx true_and)
    refine ⟨v2, t2, rfl, tv7, r7, fun H8 s8 => ⟨_, rfl, _, rfl, _, rfl, ?_⟩⟩
    rw [hb7, if_neg (by decide)]
    exact ⟨TV.keep (Same.keepT s8) _ tv67, S7.same s8, r7.same s8, D7.same s8⟩
  rintro σ H6 ⟨v5, v6, v7, rfl, tv6, S6, r6, D6⟩
  simp only [tSeq]
  (try ctx_has vcx true_and)
  kpf_say (H6, q1, hq1, g1, s1) al G1 (HO.tup [])
  kpf_say (G1, q2, hq2, g2, s2) al G2 (HO.tup [V.str (Str.ofString "unlike")])
  kpf_say (G2, q3, hq3, g3, s3) al G3 (HO.tup [v])
  kpf_say (G3, q4, hq4, g4, s4) al G4 (HO.tup [])
  kpf_say (G4, q5, hq5, g5, s5) al G5 (HO.tup [V.ref q4])
  kpf_say (G5, q6, hq6, g6, s6) al G6 (HO.lst [V.non, V.int 5, V.bl true, V.ref q1, V.str (Str.ofString "unlike"), V.ref q2, V.ref q3, V.ref q5])
  have s06 : Same H6 G6 := ((((s1.trans s2).trans s3).trans s4).trans s5).trans s6
  have s36 : Same G3 G6 := (s4.trans s5).trans s6
  have r7 := r6.same s06
  have tv7 := TV.keep (Same.keepT s06) _ tv6
  have hvs : TVs G6 [V.non, V.int 5, V.bl true, V.ref q1, V.str (Str.ofString "unlike"), V.ref q2, V.ref q3, V.ref q5] [Tr.non, .int 5, .bl true, .tup [], .str "unlike", .tup [.str "unlike"], .tup [tr], .tup [.tup []]] :=
    .cons rfl (.cons rfl (.cons rfl (.cons ⟨q1, [], rfl, s36 _ _ (s3 _ _ (s2 _ _ g1)), rfl⟩ (.cons ⟨rfl, by decide⟩ (.cons ⟨q2, _, rfl, s36 _ _ (s3 _ _ g2), TVs.one ⟨rfl, by decide⟩⟩ (.cons ⟨q3, _, rfl, s36 _ _ g3, TVs.one tv7⟩ (.cons ⟨q5, _, rfl, s6 _ _ g5, TVs.one ⟨q4, [], rfl, s6 _ _ (s5 _ _ g4), rfl⟩⟩ rfl)))))))
  refine ⟨_, g6, ?_⟩
  refine for_g wlk_list (fun i σ H' => ∃ (v5 v6 v7 : Option V), σ = [some (.ref a), some (.ref d), some (.ref ca), some (.str sort), some v, v5, v6, v7] ∧ Same G6 H')
    ⟨_, _, _, rfl, Same.refl _⟩ (fun i σ H' zq41 => by obtain ⟨_, _, _, _, s⟩ := zq41; exact (.of (s _ _ g6))) ?_ ?_
  · rintro i x σ H7 hi hx ⟨v5, v6, v7, rfl, s7⟩
    obtain ⟨t, et, tx⟩ := hvs.at hx
    have hb := wish_eight (w := tr) (List.mem_of_getElem? et) hw
    (try ctx_has vcx true_and)
    refine ⟨x, t, rfl, TV.keep (Same.keepT s7) _ tx, r7.same s7, fun H8 s8 => ⟨_, rfl, _, rfl, _, rfl, ?_⟩⟩
    rw [hb, if_neg (by decide)]
    exact s7.trans s8
  rintro σ H7 ⟨v5, v6, v7, rfl, s7⟩
  (try ctx_has vcx true_and)
  have r8 := r7.same s7
  refine ⟨v, tr, rfl, TV.keep (Same.keepT s7) _ tv7, r8, fun H8 s8 => ⟨_, rfl, _, rfl, ?_⟩⟩
  rw [hw]
  exact k _ (rt_tabs (r8.same s8))
theorem hand_of {P : Program} {w : World} {K : PySem.W.Frag} {mg : Str → Option Value} {base : Heap} {x a : Str} {st : Stmt} {j : Nat} {g : Tr → Bool} (KB : K.In base) (L : FnL K mg x st [a]) (at' : mg x = some (.ref (clsAt mg x))) (F : Fn P w K mg base x j [a] (spB R0 g)) (T : Txt w K mg) (LT : FnL K mg "is_tuple_of" s_is_tuple_of ["thing", "is_one", "least", "most"]) :
    Fn P w K mg base "is_tuple_of" (j + 3) ["thing", "is_one", "least", "most"] (spTO (clsAt mg x) R0 g) := by
  obtain ⟨f, fd, F, m, kp, b⟩ := F
  have ef : f = clsAt mg x := by rw [at'] at m; injection m with m; injection m with m; exact m.symm
  subst ef
  obtain ⟨f', fd', U, m', b'⟩ := L
  have ef' : f' = clsAt mg x := by rw [at'] at m'; injection m' with m'; injection m' with m'; exact m'.symm
  subst ef'
  obtain ⟨oc, od, kV, doc, pm, an, cdv, ct, osl, e, lk, _⟩ := U.ex
  exact ok_is_tuple_of (fun _ _ _ _ => True.intro) ⟨_, _, _, _, KB _ _ lk⟩ b F T LT
theorem spFm_of {pt : Addr} {R : Hp → Prop} {g g' : List Tr → Bool} (hR : ∀ H, RT pt H → R H) (e : ∀ l, g' l = g l) (vs : List V) (H : Hp) (Q : VK) (E : XK) (h : spFm (RT pt) g' vs H Q E) : spFm R g vs H Q E := by
  obtain ⟨v, l, rfl, a, b, c⟩ := h
  exact ⟨v, l, rfl, a, hR _ b, fun H' s => by rw [← e]; exact c H' s⟩
theorem ft6 {P : Program} {w : World} {K : PySem.W.Frag} {mg : Str → Option Value} {base : Heap} {a pt : Addr} {f0 : Addr} {f1 : Addr} {f2 : Addr} {f3 : Addr} {f4 : Addr} {f5 : Addr}
    (F0 : Fn P w K mg base "is_unlike" 6 ["wish"] (spFm R0 unlikeF)) (m0 : mg "is_unlike" = some (.ref f0)) (n0 : PySem.W.nsIn K a "unlike" = some (some (.ref f0))) (F1 : Fn P w K mg base "is_many" 8 ["wish"] (spFm R0 manyF)) (m1 : mg "is_many" = some (.ref f1)) (n1 : PySem.W.nsIn K a "many" = some (some (.ref f1))) (F2 : Fn P w K mg base "is_sum" 9 ["wish"] (spFm R0 sumF)) (m2 : mg "is_sum" = some (.ref f2)) (n2 : PySem.W.nsIn K a "sum" = some (some (.ref f2))) (F3 : Fn P w K mg base "is_table" 13 ["wish"] (spFm (RT pt) tableF)) (m3 : mg "is_table" = some (.ref f3)) (n3 : PySem.W.nsIn K a "table" = some (some (.ref f3))) (F4 : Fn P w K mg base "is_way" 9 ["wish"] (spFm R0 wayF)) (m4 : mg "is_way" = some (.ref f4)) (n4 : PySem.W.nsIn K a "way" = some (some (.ref f4))) (F5 : Fn P w K mg base "is_behind" 6 ["wish"] (spFm R0 behindF)) (m5 : mg "is_behind" = some (.ref f5)) (n5 : PySem.W.nsIn K a "behind" = some (some (.ref f5))) :
    ∀ y ∈ six, FnT P w K mg base a y 13 ["wish"] (spFm (RT pt) (formF y)) := by
  intro y hy
  simp only [six, List.mem_cons, List.not_mem_nil, or_false] at hy
  rcases hy with rfl | rfl | rfl | rfl | rfl | rfl
  · exact fnT_of F0 m0 n0 (by decide) (spFm_of (fun _ _ => True.intro) fm_unlike)
  · exact fnT_of F1 m1 n1 (by decide) (spFm_of (fun _ _ => True.intro) fm_many)
  · exact fnT_of F2 m2 n2 (by decide) (spFm_of (fun _ _ => True.intro) fm_sum)
  · exact fnT_of F3 m3 n3 (by decide) (spFm_of (fun _ h => h) fm_table)
  · exact fnT_of F4 m4 n4 (by decide) (spFm_of (fun _ _ => True.intro) fm_way)
  · exact fnT_of F5 m5 n5 (by decide) (spFm_of (fun _ _ => True.intro) fm_behind)
noncomputable abbrev AT (K : PySem.W.Frag) (x : Str) (f : Addr) : Prop := PySem.W.nsIn K mainGlobals x = some (some (Value.ref f))
noncomputable abbrev LK (K : PySem.W.Frag) (f : Addr) (x : Str) (st : Stmt) (oc : Value) (od : Option Addr) (sl : Array (Option Value)) (kV dc pm : Value) (an : Option Addr) (cd ct : Value) : Prop := K.lookup f = some ⟨oc, od, .func (PySem.W.fnOf x x (defArgs st) (defBody st) (defScope st) .none kV dc pm an cd ct), sl⟩
noncomputable abbrev CK (K : PySem.W.Frag) (cd : Value) (x : Str) : Prop := PySem.W.codeIn K cd x = true
noncomputable abbrev KK (K : PySem.W.Frag) (f : Addr) : Prop := PySem.W.keepIn K (Value.ref f) = true
theorem lenq1 {α : Type} {us : List α} (h : us.length = 1) : ∃ u0, us = [u0] := by
  match us, h with
  | [u0], _ => exact ⟨u0, rfl⟩
theorem lenq2 {α : Type} {us : List α} (h : us.length = 2) : ∃ u0 u1, us = [u0, u1] := by
  match us, h with
  | [u0, u1], _ => exact ⟨u0, u1, rfl⟩
theorem lenq3 {α : Type} {us : List α} (h : us.length = 3) : ∃ u0 u1 u2, us = [u0, u1, u2] := by
  match us, h with
  | [u0, u1, u2], _ => exact ⟨u0, u1, u2, rfl⟩
theorem lenq4 {α : Type} {us : List α} (h : us.length = 4) : ∃ u0 u1 u2 u3, us = [u0, u1, u2, u3] := by
  match us, h with
  | [u0, u1, u2, u3], _ => exact ⟨u0, u1, u2, u3, rfl⟩
theorem lenq5 {α : Type} {us : List α} (h : us.length = 5) : ∃ u0 u1 u2 u3 u4, us = [u0, u1, u2, u3, u4] := by
  match us, h with
  | [u0, u1, u2, u3, u4], _ => exact ⟨u0, u1, u2, u3, u4, rfl⟩
theorem lenq6 {α : Type} {us : List α} (h : us.length = 6) : ∃ u0 u1 u2 u3 u4 u5, us = [u0, u1, u2, u3, u4, u5] := by
  match us, h with
  | [u0, u1, u2, u3, u4, u5], _ => exact ⟨u0, u1, u2, u3, u4, u5, rfl⟩
theorem lenq7 {α : Type} {us : List α} (h : us.length = 7) : ∃ u0 u1 u2 u3 u4 u5 u6, us = [u0, u1, u2, u3, u4, u5, u6] := by
  match us, h with
  | [u0, u1, u2, u3, u4, u5, u6], _ => exact ⟨u0, u1, u2, u3, u4, u5, u6, rfl⟩
theorem lenq8 {α : Type} {us : List α} (h : us.length = 8) : ∃ u0 u1 u2 u3 u4 u5 u6 u7, us = [u0, u1, u2, u3, u4, u5, u6, u7] := by
  match us, h with
  | [u0, u1, u2, u3, u4, u5, u6, u7], _ => exact ⟨u0, u1, u2, u3, u4, u5, u6, u7, rfl⟩
theorem lenq9 {α : Type} {us : List α} (h : us.length = 9) : ∃ u0 u1 u2 u3 u4 u5 u6 u7 u8, us = [u0, u1, u2, u3, u4, u5, u6, u7, u8] := by
  match us, h with
  | [u0, u1, u2, u3, u4, u5, u6, u7, u8], _ => exact ⟨u0, u1, u2, u3, u4, u5, u6, u7, u8, rfl⟩
theorem lenq10 {α : Type} {us : List α} (h : us.length = 10) : ∃ u0 u1 u2 u3 u4 u5 u6 u7 u8 u9, us = [u0, u1, u2, u3, u4, u5, u6, u7, u8, u9] := by
  match us, h with
  | [u0, u1, u2, u3, u4, u5, u6, u7, u8, u9], _ => exact ⟨u0, u1, u2, u3, u4, u5, u6, u7, u8, u9, rfl⟩
theorem lenq11 {α : Type} {us : List α} (h : us.length = 11) : ∃ u0 u1 u2 u3 u4 u5 u6 u7 u8 u9 u10, us = [u0, u1, u2, u3, u4, u5, u6, u7, u8, u9, u10] := by
  match us, h with
  | [u0, u1, u2, u3, u4, u5, u6, u7, u8, u9, u10], _ => exact ⟨u0, u1, u2, u3, u4, u5, u6, u7, u8, u9, u10, rfl⟩
local macro_rules | `(tactic| ctx_has b1) => `(tactic| exact fun _ _ _ _ _ _ us hl => by obtain ⟨u0, ee⟩ := lenq1 hl; subst ee; rfl)
local macro_rules | `(tactic| ctx_has b2) => `(tactic| exact fun _ _ _ _ _ _ us hl => by obtain ⟨u0, u1, ee⟩ := lenq2 hl; subst ee; rfl)
local macro_rules | `(tactic| ctx_has b3) => `(tactic| exact fun _ _ _ _ _ _ us hl => by obtain ⟨u0, u1, u2, ee⟩ := lenq3 hl; subst ee; rfl)
local macro_rules | `(tactic| ctx_has b4) => `(tactic| exact fun _ _ _ _ _ _ us hl => by obtain ⟨u0, u1, u2, u3, ee⟩ := lenq4 hl; subst ee; rfl)
theorem all_mk {l : PySem.W.OpenLaw} {w : World} {K : PySem.W.Frag} {h : Heap} {mg : Str → Option Value} {fa : Addr} (X : K.In h) (G : h.Ns mainGlobals mg) (hfa : mg "law" = some (.ref fa))
    {ca_0 : Addr} {co_0 : Option Addr} {cn_0 : Nat} {cs_0 : Array (Option Value)} {ck_0_0 : Tok} {ck_0_1 : Tok} {ck_0_2 : Tok} {ck_0_3 : Tok}
    {ct_1 : Tok}
    {ct_2 : Tok}
    {ct_3 : Tok}
    {ct_4 : Tok}
    {ct_5 : Tok}
    {ct_6 : Tok}
    {ct_7 : Tok}
    {ct_8 : Tok}
    {ct_9 : Tok}
    {ct_10 : Tok}
    {ct_11 : Tok}
    {C_PLAIN_FORMS : Addr} {te_PLAIN_FORMS : Array DictEntry} {tn_PLAIN_FORMS : Nat}
    {f0 f1 f2 f3 f4 f5 f6 f7 f8 f9 f10 f11 f12 f13 f14 f15 f16 f17 f18 f19 f20 f21 f22 f23 f24 f25 f26 f27 f28 f29 f30 f31 f32 f33 f34 f35 f36 f37 f38 f39 f40 f41 f42 f43 f44 f45 f46 f47 f48 f49 f50 f51 : Addr} {oc0 kV0 dc0 pm0 cd0 ct0 oc1 kV1 dc1 pm1 cd1 ct1 oc2 kV2 dc2 pm2 cd2 ct2 oc3 kV3 dc3 pm3 cd3 ct3 oc4 kV4 dc4 pm4 cd4 ct4 oc5 kV5 dc5 pm5 cd5 ct5 oc6 kV6 dc6 pm6 cd6 ct6 oc7 kV7 dc7 pm7 cd7 ct7 oc8 kV8 dc8 pm8 cd8 ct8 oc9 kV9 dc9 pm9 cd9 ct9 oc10 kV10 dc10 pm10 cd10 ct10 oc11 kV11 dc11 pm11 cd11 ct11 oc12 kV12 dc12 pm12 cd12 ct12 oc13 kV13 dc13 pm13 cd13 ct13 oc14 kV14 dc14 pm14 cd14 ct14 oc15 kV15 dc15 pm15 cd15 ct15 oc16 kV16 dc16 pm16 cd16 ct16 oc17 kV17 dc17 pm17 cd17 ct17 oc18 kV18 dc18 pm18 cd18 ct18 oc19 kV19 dc19 pm19 cd19 ct19 oc20 kV20 dc20 pm20 cd20 ct20 oc21 kV21 dc21 pm21 cd21 ct21 oc22 kV22 dc22 pm22 cd22 ct22 oc23 kV23 dc23 pm23 cd23 ct23 oc24 kV24 dc24 pm24 cd24 ct24 oc25 kV25 dc25 pm25 cd25 ct25 oc26 kV26 dc26 pm26 cd26 ct26 oc27 kV27 dc27 pm27 cd27 ct27 oc28 kV28 dc28 pm28 cd28 ct28 oc29 kV29 dc29 pm29 cd29 ct29 oc30 kV30 dc30 pm30 cd30 ct30 oc31 kV31 dc31 pm31 cd31 ct31 oc32 kV32 dc32 pm32 cd32 ct32 oc33 kV33 dc33 pm33 cd33 ct33 oc34 kV34 dc34 pm34 cd34 ct34 oc35 kV35 dc35 pm35 cd35 ct35 oc36 kV36 dc36 pm36 cd36 ct36 oc37 kV37 dc37 pm37 cd37 ct37 oc38 kV38 dc38 pm38 cd38 ct38 oc39 kV39 dc39 pm39 cd39 ct39 oc40 kV40 dc40 pm40 cd40 ct40 oc41 kV41 dc41 pm41 cd41 ct41 oc42 kV42 dc42 pm42 cd42 ct42 oc43 kV43 dc43 pm43 cd43 ct43 oc44 kV44 dc44 pm44 cd44 ct44 oc45 kV45 dc45 pm45 cd45 ct45 oc46 kV46 dc46 pm46 cd46 ct46 oc47 kV47 dc47 pm47 cd47 ct47 oc48 kV48 dc48 pm48 cd48 ct48 oc49 kV49 dc49 pm49 cd49 ct49 oc50 kV50 dc50 pm50 cd50 ct50 oc51 kV51 dc51 pm51 cd51 ct51 : Value} {od0 an0 od1 an1 od2 an2 od3 an3 od4 an4 od5 an5 od6 an6 od7 an7 od8 an8 od9 an9 od10 an10 od11 an11 od12 an12 od13 an13 od14 an14 od15 an15 od16 an16 od17 an17 od18 an18 od19 an19 od20 an20 od21 an21 od22 an22 od23 an23 od24 an24 od25 an25 od26 an26 od27 an27 od28 an28 od29 an29 od30 an30 od31 an31 od32 an32 od33 an33 od34 an34 od35 an35 od36 an36 od37 an37 od38 an38 od39 an39 od40 an40 od41 an41 od42 an42 od43 an43 od44 an44 od45 an45 od46 an46 od47 an47 od48 an48 od49 an49 od50 an50 od51 an51 : Option Addr} {sl0 sl1 sl2 sl3 sl4 sl5 sl6 sl7 sl8 sl9 sl10 sl11 sl12 sl13 sl14 sl15 sl16 sl17 sl18 sl19 sl20 sl21 sl22 sl23 sl24 sl25 sl26 sl27 sl28 sl29 sl30 sl31 sl32 sl33 sl34 sl35 sl36 sl37 sl38 sl39 sl40 sl41 sl42 sl43 sl44 sl45 sl46 sl47 sl48 sl49 sl50 sl51 : Array (Option Value)}
    (a0 : AT K "_law_draw" f0) (l0 : LK K f0 "_law_draw" s__law_draw oc0 od0 sl0 kV0 dc0 pm0 an0 cd0 ct0) (c0 : CK K cd0 "_law_draw") (k0 : KK K f0)
    (a1 : AT K "_law_deal" f1) (l1 : LK K f1 "_law_deal" s__law_deal oc1 od1 sl1 kV1 dc1 pm1 an1 cd1 ct1) (c1 : CK K cd1 "_law_deal") (k1 : KK K f1)
    (a2 : AT K "_law_names" f2) (l2 : LK K f2 "_law_names" s__law_names oc2 od2 sl2 kV2 dc2 pm2 an2 cd2 ct2) (c2 : CK K cd2 "_law_names") (k2 : KK K f2)
    (a3 : AT K "_law_number" f3) (l3 : LK K f3 "_law_number" s__law_number oc3 od3 sl3 kV3 dc3 pm3 an3 cd3 ct3) (c3 : CK K cd3 "_law_number") (k3 : KK K f3)
    (a4 : AT K "_law_numbers" f4) (l4 : LK K f4 "_law_numbers" s__law_numbers oc4 od4 sl4 kV4 dc4 pm4 an4 cd4 ct4) (c4 : CK K cd4 "_law_numbers") (k4 : KK K f4)
    (a5 : AT K "_law_many" f5) (l5 : LK K f5 "_law_many" s__law_many oc5 od5 sl5 kV5 dc5 pm5 an5 cd5 ct5) (c5 : CK K cd5 "_law_many") (k5 : KK K f5)
    (a6 : AT K "is_number" f6) (l6 : LK K f6 "is_number" s_is_number oc6 od6 sl6 kV6 dc6 pm6 an6 cd6 ct6) (c6 : CK K cd6 "is_number") (k6 : KK K f6)
    (a7 : AT K "is_whole" f7) (l7 : LK K f7 "is_whole" s_is_whole oc7 od7 sl7 kV7 dc7 pm7 an7 cd7 ct7) (c7 : CK K cd7 "is_whole") (k7 : KK K f7)
    (a8 : AT K "is_value" f8) (l8 : LK K f8 "is_value" s_is_value oc8 od8 sl8 kV8 dc8 pm8 an8 cd8 ct8) (c8 : CK K cd8 "is_value") (k8 : KK K f8)
    (a9 : AT K "is_state" f9) (l9 : LK K f9 "is_state" s_is_state oc9 od9 sl9 kV9 dc9 pm9 an9 cd9 ct9) (c9 : CK K cd9 "is_state") (k9 : KK K f9)
    (a10 : AT K "is_name" f10) (l10 : LK K f10 "is_name" s_is_name oc10 od10 sl10 kV10 dc10 pm10 an10 cd10 ct10) (c10 : CK K cd10 "is_name") (k10 : KK K f10)
    (a11 : AT K "are_unlike" f11) (l11 : LK K f11 "are_unlike" s_are_unlike oc11 od11 sl11 kV11 dc11 pm11 an11 cd11 ct11) (c11 : CK K cd11 "are_unlike") (k11 : KK K f11)
    (a12 : AT K "is_tuple_of" f12) (l12 : LK K f12 "is_tuple_of" s_is_tuple_of oc12 od12 sl12 kV12 dc12 pm12 an12 cd12 ct12) (c12 : CK K cd12 "is_tuple_of") (k12 : KK K f12)
    (a13 : AT K "are_names" f13) (l13 : LK K f13 "are_names" s_are_names oc13 od13 sl13 kV13 dc13 pm13 an13 cd13 ct13) (c13 : CK K cd13 "are_names") (k13 : KK K f13)
    (a14 : AT K "are_values" f14) (l14 : LK K f14 "are_values" s_are_values oc14 od14 sl14 kV14 dc14 pm14 an14 cd14 ct14) (c14 : CK K cd14 "are_values") (k14 : KK K f14)
    (a15 : AT K "are_ends" f15) (l15 : LK K f15 "are_ends" s_are_ends oc15 od15 sl15 kV15 dc15 pm15 an15 cd15 ct15) (c15 : CK K cd15 "are_ends") (k15 : KK K f15)
    (a16 : AT K "is_many_bound" f16) (l16 : LK K f16 "is_many_bound" s_is_many_bound oc16 od16 sl16 kV16 dc16 pm16 an16 cd16 ct16) (c16 : CK K cd16 "is_many_bound") (k16 : KK K f16)
    (a17 : AT K "is_sum_bound" f17) (l17 : LK K f17 "is_sum_bound" s_is_sum_bound oc17 od17 sl17 kV17 dc17 pm17 an17 cd17 ct17) (c17 : CK K cd17 "is_sum_bound") (k17 : KK K f17)
    (a18 : AT K "is_unlike" f18) (l18 : LK K f18 "is_unlike" s_is_unlike oc18 od18 sl18 kV18 dc18 pm18 an18 cd18 ct18) (c18 : CK K cd18 "is_unlike") (k18 : KK K f18)
    (a19 : AT K "is_many" f19) (l19 : LK K f19 "is_many" s_is_many oc19 od19 sl19 kV19 dc19 pm19 an19 cd19 ct19) (c19 : CK K cd19 "is_many") (k19 : KK K f19)
    (a20 : AT K "is_behind" f20) (l20 : LK K f20 "is_behind" s_is_behind oc20 od20 sl20 kV20 dc20 pm20 an20 cd20 ct20) (c20 : CK K cd20 "is_behind") (k20 : KK K f20)
    (a21 : AT K "is_term" f21) (l21 : LK K f21 "is_term" s_is_term oc21 od21 sl21 kV21 dc21 pm21 an21 cd21 ct21) (c21 : CK K cd21 "is_term") (k21 : KK K f21)
    (a22 : AT K "is_step" f22) (l22 : LK K f22 "is_step" s_is_step oc22 od22 sl22 kV22 dc22 pm22 an22 cd22 ct22) (c22 : CK K cd22 "is_step") (k22 : KK K f22)
    (a23 : AT K "are_terms" f23) (l23 : LK K f23 "are_terms" s_are_terms oc23 od23 sl23 kV23 dc23 pm23 an23 cd23 ct23) (c23 : CK K cd23 "are_terms") (k23 : KK K f23)
    (a24 : AT K "are_steps" f24) (l24 : LK K f24 "are_steps" s_are_steps oc24 od24 sl24 kV24 dc24 pm24 an24 cd24 ct24) (c24 : CK K cd24 "are_steps") (k24 : KK K f24)
    (a25 : AT K "is_sum" f25) (l25 : LK K f25 "is_sum" s_is_sum oc25 od25 sl25 kV25 dc25 pm25 an25 cd25 ct25) (c25 : CK K cd25 "is_sum") (k25 : KK K f25)
    (a26 : AT K "is_way" f26) (l26 : LK K f26 "is_way" s_is_way oc26 od26 sl26 kV26 dc26 pm26 an26 cd26 ct26) (c26 : CK K cd26 "is_way") (k26 : KK K f26)
    (a27 : AT K "sort_of" f27) (l27 : LK K f27 "sort_of" s_sort_of oc27 od27 sl27 kV27 dc27 pm27 an27 cd27 ct27) (c27 : CK K cd27 "sort_of") (k27 : KK K f27)
    (a28 : AT K "are_rows" f28) (l28 : LK K f28 "are_rows" s_are_rows oc28 od28 sl28 kV28 dc28 pm28 an28 cd28 ct28) (c28 : CK K cd28 "are_rows") (k28 : KK K f28)
    (hcd28 : cd28 = .ref 127) (htb28 : PySem.W.codeHdIn K 127 123 = true)
    (a29 : AT K "is_table" f29) (l29 : LK K f29 "is_table" s_is_table oc29 od29 sl29 kV29 dc29 pm29 an29 cd29 ct29) (c29 : CK K cd29 "is_table") (k29 : KK K f29)
    (a30 : AT K "plain_cells_of" f30) (l30 : LK K f30 "plain_cells_of" s_plain_cells_of oc30 od30 sl30 kV30 dc30 pm30 an30 cd30 ct30) (c30 : CK K cd30 "plain_cells_of") (k30 : KK K f30)
    (a31 : AT K "cells_of" f31) (l31 : LK K f31 "cells_of" s_cells_of oc31 od31 sl31 kV31 dc31 pm31 an31 cd31 ct31) (c31 : CK K cd31 "cells_of") (k31 : KK K f31)
    (a32 : AT K "is_plain_wish" f32) (l32 : LK K f32 "is_plain_wish" s_is_plain_wish oc32 od32 sl32 kV32 dc32 pm32 an32 cd32 ct32) (c32 : CK K cd32 "is_plain_wish") (k32 : KK K f32)
    (a33 : AT K "is_same" f33) (l33 : LK K f33 "is_same" s_is_same oc33 od33 sl33 kV33 dc33 pm33 an33 cd33 ct33) (c33 : CK K cd33 "is_same") (k33 : KK K f33)
    (a34 : AT K "is_wish" f34) (l34 : LK K f34 "is_wish" s_is_wish oc34 od34 sl34 kV34 dc34 pm34 an34 cd34 ct34) (c34 : CK K cd34 "is_wish") (k34 : KK K f34)
    (a35 : AT K "_law_big_sum" f35) (l35 : LK K f35 "_law_big_sum" s__law_big_sum oc35 od35 sl35 kV35 dc35 pm35 an35 cd35 ct35) (c35 : CK K cd35 "_law_big_sum") (k35 : KK K f35)
    (a36 : AT K "_law_big_rows" f36) (l36 : LK K f36 "_law_big_rows" s__law_big_rows oc36 od36 sl36 kV36 dc36 pm36 an36 cd36 ct36) (c36 : CK K cd36 "_law_big_rows") (k36 : KK K f36)
    (a37 : AT K "_law_big_way" f37) (l37 : LK K f37 "_law_big_way" s__law_big_way oc37 od37 sl37 kV37 dc37 pm37 an37 cd37 ct37) (c37 : CK K cd37 "_law_big_way") (k37 : KK K f37)
    (a38 : AT K "_law_big_wish" f38) (l38 : LK K f38 "_law_big_wish" s__law_big_wish oc38 od38 sl38 kV38 dc38 pm38 an38 cd38 ct38) (c38 : CK K cd38 "_law_big_wish") (k38 : KK K f38)
    (a39 : AT K "_law_bad_number" f39) (l39 : LK K f39 "_law_bad_number" s__law_bad_number oc39 od39 sl39 kV39 dc39 pm39 an39 cd39 ct39) (c39 : CK K cd39 "_law_bad_number") (k39 : KK K f39)
    (a40 : AT K "_law_bad_name" f40) (l40 : LK K f40 "_law_bad_name" s__law_bad_name oc40 od40 sl40 kV40 dc40 pm40 an40 cd40 ct40) (c40 : CK K cd40 "_law_bad_name") (k40 : KK K f40)
    (a41 : AT K "_law_put" f41) (l41 : LK K f41 "_law_put" s__law_put oc41 od41 sl41 kV41 dc41 pm41 an41 cd41 ct41) (c41 : CK K cd41 "_law_put") (k41 : KK K f41)
    (a42 : AT K "_law_bad_names" f42) (l42 : LK K f42 "_law_bad_names" s__law_bad_names oc42 od42 sl42 kV42 dc42 pm42 an42 cd42 ct42) (c42 : CK K cd42 "_law_bad_names") (k42 : KK K f42)
    (a43 : AT K "_law_bad_values" f43) (l43 : LK K f43 "_law_bad_values" s__law_bad_values oc43 od43 sl43 kV43 dc43 pm43 an43 cd43 ct43) (c43 : CK K cd43 "_law_bad_values") (k43 : KK K f43)
    (a44 : AT K "_law_bad_ends" f44) (l44 : LK K f44 "_law_bad_ends" s__law_bad_ends oc44 od44 sl44 kV44 dc44 pm44 an44 cd44 ct44) (c44 : CK K cd44 "_law_bad_ends") (k44 : KK K f44)
    (a45 : AT K "_law_bad_steps" f45) (l45 : LK K f45 "_law_bad_steps" s__law_bad_steps oc45 od45 sl45 kV45 dc45 pm45 an45 cd45 ct45) (c45 : CK K cd45 "_law_bad_steps") (k45 : KK K f45)
    (a46 : AT K "_law_bad_rows" f46) (l46 : LK K f46 "_law_bad_rows" s__law_bad_rows oc46 od46 sl46 kV46 dc46 pm46 an46 cd46 ct46) (c46 : CK K cd46 "_law_bad_rows") (k46 : KK K f46)
    (a47 : AT K "_law_bad_terms" f47) (l47 : LK K f47 "_law_bad_terms" s__law_bad_terms oc47 od47 sl47 kV47 dc47 pm47 an47 cd47 ct47) (c47 : CK K cd47 "_law_bad_terms") (k47 : KK K f47)
    (a48 : AT K "_law_bad_part" f48) (l48 : LK K f48 "_law_bad_part" s__law_bad_part oc48 od48 sl48 kV48 dc48 pm48 an48 cd48 ct48) (c48 : CK K cd48 "_law_bad_part") (k48 : KK K f48)
    (a49 : AT K "_law_spoilt" f49) (l49 : LK K f49 "_law_spoilt" s__law_spoilt oc49 od49 sl49 kV49 dc49 pm49 an49 cd49 ct49) (c49 : CK K cd49 "_law_spoilt") (k49 : KK K f49)
    (a50 : AT K "_law_bad_inner" f50) (l50 : LK K f50 "_law_bad_inner" s__law_bad_inner oc50 od50 sl50 kV50 dc50 pm50 an50 cd50 ct50) (c50 : CK K cd50 "_law_bad_inner") (k50 : KK K f50)
    (a51 : AT K "law" f51) (l51 : LK K f51 "law" s_law oc51 od51 sl51 kV51 dc51 pm51 an51 cd51 ct51) (c51 : CK K cd51 "law") (k51 : KK K f51)
    (z0 : PySem.W.nsIn K mainGlobals "len" = some none)
    (z1 : PySem.W.nsIn K mainGlobals "max" = some none)
    (z2 : PySem.W.nsIn K mainGlobals "min" = some none)
    (z3 : PySem.W.nsIn K mainGlobals "abs" = some none)
    (z4 : PySem.W.nsIn K mainGlobals "sum" = some none)
    (z5 : PySem.W.nsIn K mainGlobals "list" = some none)
    (z6 : PySem.W.nsIn K mainGlobals "reversed" = some none)
    (z7 : PySem.W.nsIn K mainGlobals "range" = some none)
    (z8 : PySem.W.nsIn K mainGlobals "isinstance" = some none)
    (z9 : PySem.W.nsIn K mainGlobals "all" = some none)
    (z10 : PySem.W.nsIn K mainGlobals "int" = some none)
    (z11 : PySem.W.nsIn K mainGlobals "str" = some none)
    (z12 : PySem.W.nsIn K mainGlobals "bool" = some none)
    (z13 : PySem.W.nsIn K mainGlobals "tuple" = some none)
    (z14 : PySem.W.nsIn K mainGlobals "set" = some none)
    (y0 : PySem.W.nsIn K mainGlobals "MARKS" = some (some (.ref ca_0)))
    (x0 : K.lookup ca_0 = some ⟨.type "tuple", co_0, .seq #[.str "in" ck_0_0, .str "from" ck_0_1, .str "to" ck_0_2, .str "end" ck_0_3] cn_0, cs_0⟩)
    (y1 : PySem.W.nsIn K mainGlobals "LONGEST_NAME" = some (some (.int 8 ct_1)))
    (y2 : PySem.W.nsIn K mainGlobals "MOST_CELLS" = some (some (.int 12 ct_2)))
    (y3 : PySem.W.nsIn K mainGlobals "MOST_TERMS" = some (some (.int 6 ct_3)))
    (y4 : PySem.W.nsIn K mainGlobals "MOST_VALUES" = some (some (.int 60 ct_4)))
    (y5 : PySem.W.nsIn K mainGlobals "MOST_ROWS" = some (some (.int 60 ct_5)))
    (y6 : PySem.W.nsIn K mainGlobals "MOST_STEPS" = some (some (.int 60 ct_6)))
    (y7 : PySem.W.nsIn K mainGlobals "GREATEST_VALUE" = some (some (.int 1000000 ct_7)))
    (y8 : PySem.W.nsIn K mainGlobals "GREATEST_STATE" = some (some (.int 20 ct_8)))
    (y9 : PySem.W.nsIn K mainGlobals "GREATEST_MANY" = some (some (.int 1000000000 ct_9)))
    (y10 : PySem.W.nsIn K mainGlobals "GREATEST_GAP" = some (some (.int 1000000000 ct_10)))
    (y11 : PySem.W.nsIn K mainGlobals "GREATEST_BOUND" = some (some (.int 10000000000000 ct_11)))
    (aC_PLAIN_FORMS : PySem.W.nsIn K mainGlobals "PLAIN_FORMS" = some (some (.ref C_PLAIN_FORMS)))
    (tl_PLAIN_FORMS : K.lookup C_PLAIN_FORMS = some ⟨.type "dict", none, .dict te_PLAIN_FORMS tn_PLAIN_FORMS, #[]⟩)
    (tk_PLAIN_FORMS : PySem.W.KeysLit w.params te_PLAIN_FORMS.toList)
    (tm_PLAIN_FORMS : te_PLAIN_FORMS.toList.map keyS = six) (hs_PLAIN_FORMS : (C_PLAIN_FORMS == sysModules) = false)
    (tx_PLAIN_FORMS_unlike : PySem.W.nsIn K C_PLAIN_FORMS "unlike" = some (some (.ref f18)))
    (tx_PLAIN_FORMS_many : PySem.W.nsIn K C_PLAIN_FORMS "many" = some (some (.ref f19)))
    (tx_PLAIN_FORMS_sum : PySem.W.nsIn K C_PLAIN_FORMS "sum" = some (some (.ref f25)))
    (tx_PLAIN_FORMS_table : PySem.W.nsIn K C_PLAIN_FORMS "table" = some (some (.ref f29)))
    (tx_PLAIN_FORMS_way : PySem.W.nsIn K C_PLAIN_FORMS "way" = some (some (.ref f26)))
    (tx_PLAIN_FORMS_behind : PySem.W.nsIn K C_PLAIN_FORMS "behind" = some (some (.ref f20))) :
    ∃ fd : FuncData, (∀ (s : Shared) (v : Value), BindsTo s fd ⟨[v], []⟩ [("_law_script", v)]) ∧ ∀ base : Heap, K.In base → base.Ns mainGlobals mg → BMain mg base → FnOk l.prog w K mg base CX0 20 fa fd ["_law_script"] (spLaw K) := by
  have e := hfa.symm.trans (PySem.W.mg_of X G a51)
  cases e
  refine ⟨PySem.W.fnOf "law" "law" (defArgs s_law) (defBody s_law) (defScope s_law) .none kV51 dc51 pm51 an51 cd51 ct51, fun s v => .of_eq rfl, fun base KB _ bmn => ?_⟩
  have eC_PLAIN_FORMS := clsAt_of (PySem.W.mg_of X G aC_PLAIN_FORMS)
  subst eC_PLAIN_FORMS
  have T : Txt w K mg := ⟨PySem.W.mg_none_of X G z0, PySem.W.mg_none_of X G z1, PySem.W.mg_none_of X G z2, PySem.W.mg_none_of X G z3, PySem.W.mg_none_of X G z4, PySem.W.mg_none_of X G z5, PySem.W.mg_none_of X G z6, PySem.W.mg_none_of X G z7, PySem.W.mg_none_of X G z8, PySem.W.mg_none_of X G z9, PySem.W.mg_none_of X G z10, PySem.W.mg_none_of X G z11, PySem.W.mg_none_of X G z12, PySem.W.mg_none_of X G z13, PySem.W.mg_none_of X G z14, ⟨_, _, _, _, PySem.W.mg_of X G y0, x0, rfl, rfl, by show 4 ≤ sizeLine; decide, .cons ⟨_, rfl⟩ (.cons ⟨_, rfl⟩ (.cons ⟨_, rfl⟩ (.cons ⟨_, rfl⟩ (.nil))))⟩, ⟨_, PySem.W.mg_of X G y1⟩, ⟨_, PySem.W.mg_of X G y2⟩, ⟨_, PySem.W.mg_of X G y3⟩, ⟨_, PySem.W.mg_of X G y4⟩, ⟨_, PySem.W.mg_of X G y5⟩, ⟨_, PySem.W.mg_of X G y6⟩, ⟨_, PySem.W.mg_of X G y7⟩, ⟨_, PySem.W.mg_of X G y8⟩, ⟨_, PySem.W.mg_of X G y9⟩, ⟨_, PySem.W.mg_of X G y10⟩, ⟨_, PySem.W.mg_of X G y11⟩, (by rw [clsAt_of (PySem.W.mg_of X G a10)]; exact PySem.W.mg_of X G a10), (by rw [clsAt_of (PySem.W.mg_of X G a8)]; exact PySem.W.mg_of X G a8), (by rw [clsAt_of (PySem.W.mg_of X G a9)]; exact PySem.W.mg_of X G a9), (by rw [clsAt_of (PySem.W.mg_of X G a21)]; exact PySem.W.mg_of X G a21), (by rw [clsAt_of (PySem.W.mg_of X G a22)]; exact PySem.W.mg_of X G a22), PySem.W.mg_of X G aC_PLAIN_FORMS, ⟨_, _, tl_PLAIN_FORMS, tk_PLAIN_FORMS⟩⟩
  have L0 : FnL K mg "_law_draw" s__law_draw ["_law_deal_here", "_law_many_here"] := fnL_mk X G a0 l0 c0 k0 (by ctx_has b2)
  have L1 : FnL K mg "_law_deal" s__law_deal ["_law_script", "_law_start"] := fnL_mk X G a1 l1 c1 k1 (by ctx_has b2)
  have L2 : FnL K mg "_law_names" s__law_names ["_law_deal_here", "_law_many_here"] := fnL_mk X G a2 l2 c2 k2 (by ctx_has b2)
  have L3 : FnL K mg "_law_number" s__law_number ["_law_deal_here", "_law_most"] := fnL_mk X G a3 l3 c3 k3 (by ctx_has b2)
  have L4 : FnL K mg "_law_numbers" s__law_numbers ["_law_deal_here", "_law_many_here"] := fnL_mk X G a4 l4 c4 k4 (by ctx_has b2)
  have L5 : FnL K mg "_law_many" s__law_many ["_law_deal_here", "_law_most"] := fnL_mk X G a5 l5 c5 k5 (by ctx_has b2)
  have L6 : FnL K mg "is_number" s_is_number ["thing"] := fnL_mk X G a6 l6 c6 k6 (by ctx_has b1)
  have L7 : FnL K mg "is_whole" s_is_whole ["thing", "least", "greatest"] := fnL_mk X G a7 l7 c7 k7 (by ctx_has b3)
  have L8 : FnL K mg "is_value" s_is_value ["thing"] := fnL_mk X G a8 l8 c8 k8 (by ctx_has b1)
  have L9 : FnL K mg "is_state" s_is_state ["thing"] := fnL_mk X G a9 l9 c9 k9 (by ctx_has b1)
  have L10 : FnL K mg "is_name" s_is_name ["thing"] := fnL_mk X G a10 l10 c10 k10 (by ctx_has b1)
  have L11 : FnL K mg "are_unlike" s_are_unlike ["things"] := fnL_mk X G a11 l11 c11 k11 (by ctx_has b1)
  have L12 : FnL K mg "is_tuple_of" s_is_tuple_of ["thing", "is_one", "least", "most"] := fnL_mk X G a12 l12 c12 k12 (by ctx_has b4)
  have L13 : FnL K mg "are_names" s_are_names ["thing"] := fnL_mk X G a13 l13 c13 k13 (by ctx_has b1)
  have L14 : FnL K mg "are_values" s_are_values ["thing"] := fnL_mk X G a14 l14 c14 k14 (by ctx_has b1)
  have L15 : FnL K mg "are_ends" s_are_ends ["thing"] := fnL_mk X G a15 l15 c15 k15 (by ctx_has b1)
  have L16 : FnL K mg "is_many_bound" s_is_many_bound ["thing"] := fnL_mk X G a16 l16 c16 k16 (by ctx_has b1)
  have L17 : FnL K mg "is_sum_bound" s_is_sum_bound ["thing"] := fnL_mk X G a17 l17 c17 k17 (by ctx_has b1)
  have L18 : FnL K mg "is_unlike" s_is_unlike ["wish"] := fnL_mk X G a18 l18 c18 k18 (by ctx_has b1)
  have L19 : FnL K mg "is_many" s_is_many ["wish"] := fnL_mk X G a19 l19 c19 k19 (by ctx_has b1)
  have L20 : FnL K mg "is_behind" s_is_behind ["wish"] := fnL_mk X G a20 l20 c20 k20 (by ctx_has b1)
  have L21 : FnL K mg "is_term" s_is_term ["thing"] := fnL_mk X G a21 l21 c21 k21 (by ctx_has b1)
  have L22 : FnL K mg "is_step" s_is_step ["thing"] := fnL_mk X G a22 l22 c22 k22 (by ctx_has b1)
  have L23 : FnL K mg "are_terms" s_are_terms ["thing"] := fnL_mk X G a23 l23 c23 k23 (by ctx_has b1)
  have L24 : FnL K mg "are_steps" s_are_steps ["thing"] := fnL_mk X G a24 l24 c24 k24 (by ctx_has b1)
  have L25 : FnL K mg "is_sum" s_is_sum ["wish"] := fnL_mk X G a25 l25 c25 k25 (by ctx_has b1)
  have L26 : FnL K mg "is_way" s_is_way ["wish"] := fnL_mk X G a26 l26 c26 k26 (by ctx_has b1)
  have L27 : FnL K mg "sort_of" s_sort_of ["thing"] := fnL_mk X G a27 l27 c27 k27 (by ctx_has b1)
  have L28 : FnLT K mg "are_rows" s_are_rows ["thing", "length"] 123 := fnLT_mk X G a28 l28 c28 k28 hcd28 htb28 fun _ _ _ _ _ _ us hl => by obtain ⟨u0, u1, ee⟩ := lenq2 hl; subst ee; rfl
  have L29 : FnL K mg "is_table" s_is_table ["wish"] := fnL_mk X G a29 l29 c29 k29 (by ctx_has b1)
  have L30 : FnL K mg "plain_cells_of" s_plain_cells_of ["wish"] := fnL_mk X G a30 l30 c30 k30 (by ctx_has b1)
  have L31 : FnL K mg "cells_of" s_cells_of ["wish"] := fnL_mk X G a31 l31 c31 k31 (by ctx_has b1)
  have L32 : FnL K mg "is_plain_wish" s_is_plain_wish ["thing"] := fnL_mk X G a32 l32 c32 k32 (by ctx_has b1)
  have L33 : FnL K mg "is_same" s_is_same ["wish"] := fnL_mk X G a33 l33 c33 k33 (by ctx_has b1)
  have L34 : FnL K mg "is_wish" s_is_wish ["thing"] := fnL_mk X G a34 l34 c34 k34 (by ctx_has b1)
  have L35 : FnL K mg "_law_big_sum" s__law_big_sum ["_law_deal_here", "_law_some"] := fnL_mk X G a35 l35 c35 k35 (by ctx_has b2)
  have L36 : FnL K mg "_law_big_rows" s__law_big_rows ["_law_deal_here", "_law_wide", "_law_many_here"] := fnL_mk X G a36 l36 c36 k36 (by ctx_has b3)
  have L37 : FnL K mg "_law_big_way" s__law_big_way ["_law_deal_here", "_law_some"] := fnL_mk X G a37 l37 c37 k37 (by ctx_has b2)
  have L38 : FnL K mg "_law_big_wish" s__law_big_wish ["_law_deal_here", "_law_names_here", "_law_sort"] := fnL_mk X G a38 l38 c38 k38 (by ctx_has b3)
  have L39 : FnL K mg "_law_bad_number" s__law_bad_number ["_law_deal_here", "_law_most"] := fnL_mk X G a39 l39 c39 k39 (by ctx_has b2)
  have L40 : FnL K mg "_law_bad_name" s__law_bad_name ["_law_deal_here"] := fnL_mk X G a40 l40 c40 k40 (by ctx_has b1)
  have L41 : FnL K mg "_law_put" s__law_put ["_law_things", "_law_place", "_law_thing"] := fnL_mk X G a41 l41 c41 k41 (by ctx_has b3)
  have L42 : FnL K mg "_law_bad_names" s__law_bad_names ["_law_deal_here", "_law_names_here", "_law_spare"] := fnL_mk X G a42 l42 c42 k42 (by ctx_has b3)
  have L43 : FnL K mg "_law_bad_values" s__law_bad_values ["_law_deal_here", "_law_values"] := fnL_mk X G a43 l43 c43 k43 (by ctx_has b2)
  have L44 : FnL K mg "_law_bad_ends" s__law_bad_ends ["_law_deal_here", "_law_ends"] := fnL_mk X G a44 l44 c44 k44 (by ctx_has b2)
  have L45 : FnL K mg "_law_bad_steps" s__law_bad_steps ["_law_deal_here", "_law_steps"] := fnL_mk X G a45 l45 c45 k45 (by ctx_has b2)
  have L46 : FnL K mg "_law_bad_rows" s__law_bad_rows ["_law_deal_here", "_law_rows", "_law_wide"] := fnL_mk X G a46 l46 c46 k46 (by ctx_has b3)
  have L47 : FnL K mg "_law_bad_terms" s__law_bad_terms ["_law_deal_here", "_law_terms", "_law_spare"] := fnL_mk X G a47 l47 c47 k47 (by ctx_has b3)
  have L48 : FnL K mg "_law_bad_part" s__law_bad_part ["_law_deal_here", "_law_wish", "_law_place", "_law_spare"] := fnL_mk X G a48 l48 c48 k48 (by ctx_has b4)
  have L49 : FnL K mg "_law_spoilt" s__law_spoilt ["_law_deal_here", "_law_wish", "_law_spare"] := fnL_mk X G a49 l49 c49 k49 (by ctx_has b3)
  have L50 : FnL K mg "_law_bad_inner" s__law_bad_inner ["_law_deal_here", "_law_wish", "_law_spare"] := fnL_mk X G a50 l50 c50 k50 (by ctx_has b3)
  have F_law_draw := ok__law_draw (P := l.prog) (base := base) T L0 
  have F_law_deal := ok__law_deal (P := l.prog) (base := base) T L1 
  have F_law_names := ok__law_names (P := l.prog) (base := base) T L2 F_law_draw
  have F_law_number := ok__law_number (P := l.prog) (base := base) T L3 F_law_draw
  have F_law_numbers := ok__law_numbers (P := l.prog) (base := base) T L4 F_law_draw F_law_number
  have F_law_many := ok__law_many (P := l.prog) (base := base) T L5 F_law_draw
  have Fis_number := ok_is_number (P := l.prog) (base := base) T L6 
  have Fis_whole := ok_is_whole (P := l.prog) (base := base) T L7 Fis_number
  have Fis_value := ok_is_value (P := l.prog) (base := base) T L8 Fis_whole
  have Fis_state := ok_is_state (P := l.prog) (base := base) T L9 Fis_whole
  have Fis_name := ok_is_name (P := l.prog) (base := base) T L10 
  have Fare_unlike := ok_are_unlike (P := l.prog) (base := base) T L11 
  have Fis_tuple_ofN : Fn l.prog w K mg base "is_tuple_of" 4 ["thing", "is_one", "least", "most"] (spTO (clsAt mg "is_name") R0 nameT) := hand_of KB L10 T.at_is_name Fis_name T L12
  have Fis_tuple_ofV : Fn l.prog w K mg base "is_tuple_of" 6 ["thing", "is_one", "least", "most"] (spTO (clsAt mg "is_value") R0 valT) := hand_of KB L8 T.at_is_value Fis_value T L12
  have Fis_tuple_ofE : Fn l.prog w K mg base "is_tuple_of" 6 ["thing", "is_one", "least", "most"] (spTO (clsAt mg "is_state") R0 stT) := hand_of KB L9 T.at_is_state Fis_state T L12
  have Fare_names := ok_are_names (P := l.prog) (base := base) T L13 Fis_tuple_ofN Fare_unlike
  have Fare_values := ok_are_values (P := l.prog) (base := base) T L14 Fis_tuple_ofV Fare_unlike
  have Fare_ends := ok_are_ends (P := l.prog) (base := base) T L15 Fis_tuple_ofE Fare_unlike
  have Fis_many_bound := ok_is_many_bound (P := l.prog) (base := base) T L16 Fis_whole
  have Fis_sum_bound := ok_is_sum_bound (P := l.prog) (base := base) T L17 Fis_whole
  have Fis_unlike := ok_is_unlike (P := l.prog) (base := base) T L18 Fare_names
  have Fis_many := ok_is_many (P := l.prog) (base := base) T L19 Fare_names Fare_values Fis_many_bound
  have Fis_behind := ok_is_behind (P := l.prog) (base := base) T L20 Fare_names Fis_whole
  have Fis_term := ok_is_term (P := l.prog) (base := base) T L21 Fis_value Fis_name
  have Fis_step := ok_is_step (P := l.prog) (base := base) T L22 Fis_value Fis_state
  have Fis_tuple_ofT : Fn l.prog w K mg base "is_tuple_of" 7 ["thing", "is_one", "least", "most"] (spTO (clsAt mg "is_term") R0 termT) := hand_of KB L21 T.at_is_term Fis_term T L12
  have Fis_tuple_ofS : Fn l.prog w K mg base "is_tuple_of" 7 ["thing", "is_one", "least", "most"] (spTO (clsAt mg "is_step") R0 stepT) := hand_of KB L22 T.at_is_step Fis_step T L12
  have Fare_terms := ok_are_terms (P := l.prog) (base := base) T L23 Fis_tuple_ofT Fare_unlike
  have Fare_steps := ok_are_steps (P := l.prog) (base := base) T L24 Fis_tuple_ofS Fare_unlike
  have Fis_sum := ok_is_sum (P := l.prog) (base := base) T L25 Fare_terms Fis_sum_bound
  have Fis_way := ok_is_way (P := l.prog) (base := base) T L26 Fare_names Fare_steps Fare_ends
  have Fsort_of := ok_sort_of (P := l.prog) (base := base) T L27 
  have Fare_rows : Fn l.prog w K mg base "are_rows" 12 ["thing", "length"] (spRowsP 123) := ok_are_rows bmn T L28 Fare_unlike L12 (fun B hB => hand_of hB L8 T.at_is_value (ok_is_value T L8 (ok_is_whole T L7 (ok_is_number T L6))) T L12) KB
  have Fis_table := ok_is_table (P := l.prog) (base := base) T L29 Fare_names Fare_rows
  have Fplain_cells_of := ok_plain_cells_of (P := l.prog) (base := base) T L30 
  have Fcells_of := ok_cells_of (P := l.prog) (base := base) T L31 Fplain_cells_of
  have Fis_plain_wish : Fn l.prog w K mg base "is_plain_wish" 14 ["thing"] (spB (RT 123) plainT) := ok_is_plain_wish ⟨_, _, tl_PLAIN_FORMS, tk_PLAIN_FORMS, tm_PLAIN_FORMS⟩ hs_PLAIN_FORMS (ft6 Fis_unlike (PySem.W.mg_of X G a18) tx_PLAIN_FORMS_unlike Fis_many (PySem.W.mg_of X G a19) tx_PLAIN_FORMS_many Fis_sum (PySem.W.mg_of X G a25) tx_PLAIN_FORMS_sum Fis_table (PySem.W.mg_of X G a29) tx_PLAIN_FORMS_table Fis_way (PySem.W.mg_of X G a26) tx_PLAIN_FORMS_way Fis_behind (PySem.W.mg_of X G a20) tx_PLAIN_FORMS_behind) T L32 Fsort_of
  have Fis_same := ok_is_same (P := l.prog) (base := base) T L33 Fis_name Fare_values Fis_plain_wish Fcells_of
  have Fis_wish := ok_is_wish (P := l.prog) (base := base) T L34 Fsort_of Fis_plain_wish Fis_same
  have F_law_big_sum := ok__law_big_sum (P := l.prog) (base := base) T L35 F_law_draw F_law_number
  have F_law_big_rows := ok__law_big_rows (P := l.prog) (base := base) T L36 F_law_draw F_law_number F_law_numbers
  have F_law_big_way := ok__law_big_way (P := l.prog) (base := base) T L37 F_law_draw F_law_numbers F_law_many
  have F_law_big_wishP := ok__law_big_wishP (P := l.prog) (base := base) T L38 F_law_draw F_law_number F_law_numbers F_law_many F_law_big_sum F_law_big_rows F_law_big_way
  have F_law_big_wish := ok__law_big_wish (P := l.prog) (base := base) T L38 F_law_draw F_law_number F_law_numbers F_law_many F_law_big_sum F_law_big_rows F_law_big_way F_law_big_wishP
  have F_law_bad_number := ok__law_bad_number (P := l.prog) (base := base) T L39 F_law_draw
  have F_law_bad_name := ok__law_bad_name (P := l.prog) (base := base) T L40 F_law_draw
  have F_law_put := ok__law_put (P := l.prog) (base := base) T L41 
  have F_law_bad_names := ok__law_bad_names (P := l.prog) (base := base) T L42 F_law_draw F_law_bad_name F_law_put
  have F_law_bad_values := ok__law_bad_values (P := l.prog) (base := base) T L43 F_law_draw F_law_bad_number F_law_put
  have F_law_bad_ends := ok__law_bad_ends (P := l.prog) (base := base) T L44 F_law_draw F_law_bad_number F_law_put
  have F_law_bad_steps := ok__law_bad_steps (P := l.prog) (base := base) T L45 F_law_draw F_law_bad_number F_law_put
  have F_law_bad_rows := ok__law_bad_rows (P := l.prog) (base := base) T L46 F_law_draw F_law_bad_number F_law_put
  have F_law_bad_terms := ok__law_bad_terms (P := l.prog) (base := base) T L47 F_law_draw F_law_bad_number F_law_bad_name F_law_put
  have F_law_bad_part := ok__law_bad_part (P := l.prog) (base := base) T L48 F_law_draw F_law_bad_number F_law_bad_names F_law_bad_values F_law_bad_terms
  have F_law_spoiltP : Fn l.prog w K mg base "_law_spoilt" 5 ["_law_deal_here", "_law_wish", "_law_spare"] (spSp false) := ok__law_spoilt (n := 0) (b := false) (by rw [clsAt_of (PySem.W.mg_of X G a45)]; exact PySem.W.mg_of X G a45) (by rw [clsAt_of (PySem.W.mg_of X G a44)]; exact PySem.W.mg_of X G a44) T L49 F_law_draw F_law_bad_name F_law_put F_law_bad_rows F_law_bad_steps F_law_bad_ends F_law_bad_part (fn_false L50)
  have F_law_bad_inner := ok__law_bad_inner (P := l.prog) (base := base) T L50 F_law_draw F_law_spoiltP
  have F_law_spoilt : Fn l.prog w K mg base "_law_spoilt" 7 ["_law_deal_here", "_law_wish", "_law_spare"] (spSp true) := ok__law_spoilt (n := 2) (b := true) (by rw [clsAt_of (PySem.W.mg_of X G a45)]; exact PySem.W.mg_of X G a45) (by rw [clsAt_of (PySem.W.mg_of X G a44)]; exact PySem.W.mg_of X G a44) T L49 F_law_draw F_law_bad_name F_law_put F_law_bad_rows F_law_bad_steps F_law_bad_ends F_law_bad_part (fn_inn F_law_bad_inner)
  exact ok_law T (fun_mk l51 c51 k51) F_law_deal F_law_draw F_law_names F_law_big_wish Fis_wish F_law_spoilt
theorem walk {l : PySem.W.OpenLaw} {q : Program} {loose : List Str} {XP : (Str → Option Value) → Heap → Prop} {YP : World → Heap → Prop} {d : DefRec} {K : Params → PySem.W.Frag} (hn : l.most = some 63) (hdf : d.params.defaults = [])
    (hY : ∀ (w : World) (h : Heap), YP w h → (K w.params).In h) (hT : ∀ (w : World) (h : Heap), YP w h → ∀ t ∈ tabs, h.get? t.2.1 = some (PySem.W.tabObj #[]))
    (hC : ∀ w : World, ∀ t ∈ tabs, PySem.W.codeHdIn (K w.params) t.1 t.2.1 = true) (hKt : ∀ w : World, ∀ t ∈ tabs, (K w.params).lookup t.2.1 = none)
    (F : ∀ (w : World) (mg : Str → Option Value) (fa : Addr) (h : Heap), (K w.params).In h → h.Ns mainGlobals mg → mg d.name = some (.ref fa) →
      ∃ fd : FuncData, (∀ (s : Shared) (u : Value), BindsTo s fd ⟨[u], []⟩ [("_law_script", u)]) ∧ ∀ base : Heap, (K w.params).In base → base.Ns mainGlobals mg → BMain mg base → FnOk l.prog w (K w.params) mg base CX0 20 fa fd ["_law_script"] (spLaw (K w.params))) :
    PySem.W.WalkO q loose XP YP l.row.toRowW d [] (fun f vs => PySem.call f vs) :=
  L2.walk_ofT (n := 63) (k := 20) (x := "_law_script") (tabs := tabs) (sp := fun w => spLaw (K w.params)) hn (by decide) hdf ⟨rfl, by decide, by decide⟩ hY hT hC hKt (by decide) F (fun _ _ a ns hl hT hS => ⟨a, ns, rfl, hS, hl, hT, fun _ z => ⟨rfl, z⟩⟩)
end Lw
open PySem PySem.W PyProof.Rows
local macro_rules | `(tactic| ctx_has kj $ids*) => `(tactic| ($[case $ids:ident => (change _ = _; k_is)];*))
local macro_rules | `(tactic| o_head $H) => do
  let hw := Lean.mkIdent `hw
  let hc := Lean.mkIdent `hc
  `(tactic| (refine holds_open (q := Lw.viewQ) (hY := Hook.of $H) (hYk := Hook.keeps $H) (YP := Hook.says $H) (XP := XL Lw.viewQ List.nil) (Xt := Lw.hX)
                Lw.hl (fun s e => xl_of s (Bool.and_eq_true_iff.mp e).1) XL.keeps (by rfl) (by rfl) (by rfl)
                (fun s e => recFacts_of (Bool.and_eq_true_iff.mp e).2) (by rfl) (by assumption) (by decide +kernel)
                ⟨rfl, rfl, rfl, rfl, rfl, by decide +kernel⟩ ?$hw ?$hc))
set_option maxRecDepth 100000 in
set_option maxHeartbeats 0 in
theorem PySem.Challenge.cw_seekhall_k02_wishes_of_all_forms_holds : PySem.Challenge.rw_seekhall_k02_wishes_of_all_forms.Holds := by
  w_on; o_law; o_head (kmHook Lw.early.heap_1 Lw.hAs Lw.hAe [123]); (case hw => w_witness2)
  k_fill
  refine Lw.walk (l := PySem.Challenge.rw_seekhall_k02_wishes_of_all_forms) rfl rfl (fun w h Y => PySem.W.km_in_of Y) ?hT ?hC ?hKt ?F
  (case hT => (intro w h Y t ht; have z := PySem.W.km_tabs_of Y; simp only [Lw.tabs, List.mem_cons, List.not_mem_nil, or_false] at ht; rcases ht with rfl <;> exact z _ (by decide)))
  (case hC => (intro w t ht; simp only [Lw.tabs, List.mem_cons, List.not_mem_nil, or_false] at ht; rcases ht with rfl <;> kernel_rfl))
  (case hKt => (intro w t ht; simp only [Lw.tabs, List.mem_cons, List.not_mem_nil, or_false] at ht; rcases ht with rfl <;> kernel_rfl))
  case F =>
    intro w mg fa h KX G hmg
    refine' Lw.all_mk KX G hmg ?a0 ?l0 ?c0 ?k0 ?a1 ?l1 ?c1 ?k1 ?a2 ?l2 ?c2 ?k2 ?a3 ?l3 ?c3 ?k3 ?a4 ?l4 ?c4 ?k4 ?a5 ?l5 ?c5 ?k5 ?a6 ?l6 ?c6 ?k6 ?a7 ?l7 ?c7 ?k7 ?a8 ?l8 ?c8 ?k8 ?a9 ?l9 ?c9 ?k9 ?a10 ?l10 ?c10 ?k10 ?a11 ?l11 ?c11 ?k11 ?a12 ?l12 ?c12 ?k12 ?a13 ?l13 ?c13 ?k13 ?a14 ?l14 ?c14 ?k14 ?a15 ?l15 ?c15 ?k15 ?a16 ?l16 ?c16 ?k16 ?a17 ?l17 ?c17 ?k17 ?a18 ?l18 ?c18 ?k18 ?a19 ?l19 ?c19 ?k19 ?a20 ?l20 ?c20 ?k20 ?a21 ?l21 ?c21 ?k21 ?a22 ?l22 ?c22 ?k22 ?a23 ?l23 ?c23 ?k23 ?a24 ?l24 ?c24 ?k24 ?a25 ?l25 ?c25 ?k25 ?a26 ?l26 ?c26 ?k26 ?a27 ?l27 ?c27 ?k27 ?a28 ?l28 ?c28 ?k28 ?hcd28 ?htb28 ?a29 ?l29 ?c29 ?k29 ?a30 ?l30 ?c30 ?k30 ?a31 ?l31 ?c31 ?k31 ?a32 ?l32 ?c32 ?k32 ?a33 ?l33 ?c33 ?k33 ?a34 ?l34 ?c34 ?k34 ?a35 ?l35 ?c35 ?k35 ?a36 ?l36 ?c36 ?k36 ?a37 ?l37 ?c37 ?k37 ?a38 ?l38 ?c38 ?k38 ?a39 ?l39 ?c39 ?k39 ?a40 ?l40 ?c40 ?k40 ?a41 ?l41 ?c41 ?k41 ?a42 ?l42 ?c42 ?k42 ?a43 ?l43 ?c43 ?k43 ?a44 ?l44 ?c44 ?k44 ?a45 ?l45 ?c45 ?k45 ?a46 ?l46 ?c46 ?k46 ?a47 ?l47 ?c47 ?k47 ?a48 ?l48 ?c48 ?k48 ?a49 ?l49 ?c49 ?k49 ?a50 ?l50 ?c50 ?k50 ?a51 ?l51 ?c51 ?k51 ?z0 ?z1 ?z2 ?z3 ?z4 ?z5 ?z6 ?z7 ?z8 ?z9 ?z10 ?z11 ?z12 ?z13 ?z14 ?y0 ?x0 ?y1 ?y2 ?y3 ?y4 ?y5 ?y6 ?y7 ?y8 ?y9 ?y10 ?y11 ?aC_PLAIN_FORMS ?tl_PLAIN_FORMS ?tk_PLAIN_FORMS ?tm_PLAIN_FORMS ?hs_PLAIN_FORMS ?tx_PLAIN_FORMS_unlike ?tx_PLAIN_FORMS_many ?tx_PLAIN_FORMS_sum ?tx_PLAIN_FORMS_table ?tx_PLAIN_FORMS_way ?tx_PLAIN_FORMS_behind
    ctx_has kj a0 l0 c0 k0 a1 l1 c1 k1 a2 l2 c2 k2 a3 l3 c3 k3 a4 l4 c4 k4 a5 l5 c5 k5 a6 l6 c6 k6 a7 l7 c7 k7 a8 l8 c8 k8 a9 l9 c9 k9 a10 l10 c10 k10 a11 l11 c11 k11 a12 l12 c12 k12 a13 l13 c13 k13 a14 l14 c14 k14 a15 l15 c15 k15 a16 l16 c16 k16 a17 l17 c17 k17 a18 l18 c18 k18 a19 l19 c19 k19 a20 l20 c20 k20 a21 l21 c21 k21 a22 l22 c22 k22 a23 l23 c23 k23 a24 l24 c24 k24 a25 l25 c25 k25 a26 l26 c26 k26 a27 l27 c27 k27 a28 l28 c28 k28
    (case hcd28 => rfl)
    (case htb28 => kernel_rfl)
    ctx_has kj a29 l29 c29 k29 a30 l30 c30 k30 a31 l31 c31 k31 a32 l32 c32 k32 a33 l33 c33 k33 a34 l34 c34 k34 a35 l35 c35 k35 a36 l36 c36 k36 a37 l37 c37 k37 a38 l38 c38 k38 a39 l39 c39 k39 a40 l40 c40 k40 a41 l41 c41 k41 a42 l42 c42 k42 a43 l43 c43 k43 a44 l44 c44 k44 a45 l45 c45 k45 a46 l46 c46 k46 a47 l47 c47 k47 a48 l48 c48 k48 a49 l49 c49 k49 a50 l50 c50 k50 a51 l51 c51 k51 z0 z1 z2 z3 z4 z5 z6 z7 z8 z9 z10 z11 z12 z13 z14 y0 x0 y1 y2 y3 y4 y5 y6 y7 y8 y9 y10 y11 aC_PLAIN_FORMS tl_PLAIN_FORMS
    (case tk_PLAIN_FORMS => k_keys)
    (case tm_PLAIN_FORMS => kernel_rfl)
    (case hs_PLAIN_FORMS => rfl)
    ctx_has kj tx_PLAIN_FORMS_unlike tx_PLAIN_FORMS_many tx_PLAIN_FORMS_sum tx_PLAIN_FORMS_table tx_PLAIN_FORMS_way tx_PLAIN_FORMS_behind
