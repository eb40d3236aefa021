import PyProof.Rows.All
import KE.KIntText
import KE.KIsAll
import KE.KItem
import KE.KRevIter
import OpenK.KLine
import Wide.Once
import Wide.Tac
import Open.Line
import Wide.Line
import KE.KPathFold
import PyProof.Rows.RegCtxHas
import PyProof.Walk
import Lean
import PySem.Challenge.RW_seekhall_k06_wishes_written
set_option Elab.async false
set_option linter.all false
set_option maxRecDepth 100000
namespace Lw
open PySem PySem.W PySem.Calls PyProof.Rows
theorem left_two {p q : Program} {loose : List Str} {Xt : Shared → Bool} {α : Type} {Yf : Shared → α} {Ya : World → α} {N : Nat} (row : String)
    (h1 : ∀ w : World, (fencedOpening treeTable p w N).bind (fun s₀ => (topFrom treeTable p (w.withFollow row false) N s₀).map (fun s => (openSeen q loose (importedModules p.main.body) Xt true s, Yf s))) = some (openGood q loose, Ya (w.withFollow row false)))
    (h2 : ∀ w : World, (fencedOpening treeTable p w N).bind (fun s₀ => (topFrom treeTable p (w.withFollow row true) N s₀).map (fun s => (openSeen q loose (importedModules p.main.body) Xt true s, Yf s))) = some (openGood q loose, Ya (w.withFollow row true))) : LeftO p q loose Xt Yf Ya N := fun w => by
  have e := World.withFollow_self w row
  unfold openEnds
  rw [Option.map_bind]
  cases hb : w.params.followText row <;> rw [hb] at e
  · have := h1 w; rw [e] at this; exact this
  · have := h2 w; rw [e] at this; exact this
noncomputable def top (i : Nat) : Stmt := PySem.Challenge.pw_seekhall_k06_wishes_written.main.body.getD i (.Pass ⟨0, 0, 0, 0⟩)
noncomputable def viewQ : Program := { PySem.Challenge.pw_seekhall_k06_wishes_written with main := { PySem.Challenge.pw_seekhall_k06_wishes_written.main with body := [1, 2, 3, 4, 5, 6, 7, 8, 9, 10, 11, 12, 14, 15, 17, 18, 19, 21, 22, 23, 24, 25, 27, 28, 29, 30, 31, 32, 33, 34, 35, 36, 37, 38, 39, 41, 42, 43, 44, 45, 46, 47, 48, 49, 50, 51, 52, 53, 54].map top } }
section
local macro_rules | `(tactic| o_head $H) => `(tactic| (have z := $H; assumption))
set_option maxHeartbeats 0 in
theorem early (h : PySem.Challenge.rw_seekhall_k06_wishes_written.row.Holds) : PySem.Challenge.rw_seekhall_k06_wishes_written.row.Holds := by
  k_head
end
noncomputable def hAs : List Addr := [2, 3, 15, 18, 19, 20, 22, 23, 25, 26, 27, 29, 30, 32, 33, 34, 36, 37, 39, 40, 41, 43, 44, 46, 47, 48, 50, 51, 53, 54, 55, 57, 58, 60, 61, 62, 64, 65, 67, 68, 69, 71, 72, 74, 75, 76, 78, 79, 81, 82, 83, 84, 86, 87, 89, 90, 91, 98, 99, 100, 101, 104, 111, 113, 114, 116, 117, 118, 119, 120, 123, 124, 127, 128, 129, 132, 133, 134, 137, 138, 146, 148, 149, 151, 152, 153, 155, 156, 158, 159, 160, 162, 163, 165, 166, 167, 169, 170, 172, 173, 174, 176, 177, 179, 180, 181, 183, 184, 186, 187, 188, 190, 191, 193, 194, 195, 197, 198, 200, 201, 202, 204, 205, 207, 208, 209, 211, 212, 214, 215, 216, 218, 219, 221, 222, 223, 224, 225, 226, 227, 230, 232, 233, 235, 236, 237, 239, 240, 242, 243, 244, 246, 247, 249, 250, 251, 253, 254, 256, 257, 258, 260, 261, 263, 264, 265, 267, 268, 270, 271, 272, 274, 275, 277, 278, 279, 281, 282, 284, 285, 286, 288, 289, 291, 292, 293, 294, 296, 297, 299, 300, 301, 303, 304, 306, 307, 308, 310, 311, 313, 314, 315, 318, 319, 320, 322, 323, 325, 326, 327, 330, 331, 332, 334, 335, 337, 338, 339, 341, 342, 344, 345, 346, 348, 349, 351, 352, 353, 355, 356, 358, 359, 360, 363, 364, 365, 367, 368, 370, 371, 372, 374, 375, 377, 378, 379, 382, 383, 384, 387, 388, 389, 392, 393, 394, 396, 397, 399, 400]
theorem hAe : ∀ P, hAs = (early.heap_1 P).map (·.1) := fun _ => by kernel_rfl
noncomputable abbrev hK : Hook := kHook early.heap_1 hAs hAe
noncomputable def hX (s : Shared) : Bool := xlAt viewQ List.nil s && recOk (RowW.records PySem.Challenge.rw_seekhall_k06_wishes_written.row.toRowW) s
noncomputable abbrev hSide (b : Bool) : Prop := ∀ w : World, (fencedOpening treeTable PySem.Challenge.pw_seekhall_k06_wishes_written w 11000).bind (fun s₀ => (topFrom treeTable PySem.Challenge.pw_seekhall_k06_wishes_written (w.withFollow "special-get-raises" b) 11000 s₀).map (fun s => (openSeen viewQ [Str.ofString "PLAIN_WRITERS", Str.ofString "PLAIN_TAKERS"] (importedModules PySem.Challenge.pw_seekhall_k06_wishes_written.main.body) hX true s, Hook.obs hK s))) = some (openGood viewQ [Str.ofString "PLAIN_WRITERS", Str.ofString "PLAIN_TAKERS"], Hook.val hK (w.withFollow "special-get-raises" b))
theorem join4 {σ A B C D E : Type} {o : Option σ} {k : σ → Option σ} {f1 : σ → A} {f2 : σ → B} {f3 : σ → C} {f4 : σ → D} {W : σ → E} {a1 : A} {a2 : B} {a3 : C} {a4 : D} {v : E} (h1 : o.bind (fun s => (k s).map f1) = some a1) (h2 : o.bind (fun s => (k s).map f2) = some a2) (h3 : o.bind (fun s => (k s).map f3) = some a3) (h4 : o.bind (fun s => (k s).map f4) = some a4) (H : ∀ s, f1 s = a1 → f2 s = a2 → f3 s = a3 → f4 s = a4 → W s = v) : o.bind (fun s => (k s).map W) = some v := by
  cases o with
  | none => cases h1
  | some s =>
    change (k s).map f1 = _ at h1
    change (k s).map f2 = _ at h2
    change (k s).map f3 = _ at h3
    change (k s).map f4 = _ at h4
    change (k s).map W = _
    cases hk : k s with
    | none => rw [hk] at h1; cases h1
    | some t =>
      rw [hk] at h1 h2 h3 h4
      exact congrArg some (H t (Option.some.inj h1) (Option.some.inj h2) (Option.some.inj h3) (Option.some.inj h4))
theorem prod5 {A B C D G : Type} {x y : A × B × C × D} {u v : G} (h1 : x.1 = y.1) (h2 : (x.2.1, x.2.2.1) = (y.2.1, y.2.2.1)) (h3 : x.2.2.2 = y.2.2.2) (h4 : u = v) : (x, u) = (y, v) := by
  obtain ⟨a, b, c, d⟩ := x
  obtain ⟨a', b', c', d'⟩ := y
  cases h1; cases h2; cases h3; cases h4; rfl
noncomputable abbrev hS0 (b : Bool) : Prop := ∀ w : World, (fencedOpening treeTable PySem.Challenge.pw_seekhall_k06_wishes_written w 11000).bind (fun s₀ => (topFrom treeTable PySem.Challenge.pw_seekhall_k06_wishes_written (w.withFollow "special-get-raises" b) 11000 s₀).map (fun s => (openSeen viewQ [Str.ofString "PLAIN_WRITERS", Str.ofString "PLAIN_TAKERS"] (importedModules PySem.Challenge.pw_seekhall_k06_wishes_written.main.body) hX true s).1)) = some ((openGood viewQ [Str.ofString "PLAIN_WRITERS", Str.ofString "PLAIN_TAKERS"]).1)
theorem hl_0f : hS0 false := by intro w; kernel_rfl
theorem hl_0t : hS0 true := by intro w; kernel_rfl
noncomputable abbrev hS1 (b : Bool) : Prop := ∀ w : World, (fencedOpening treeTable PySem.Challenge.pw_seekhall_k06_wishes_written w 11000).bind (fun s₀ => (topFrom treeTable PySem.Challenge.pw_seekhall_k06_wishes_written (w.withFollow "special-get-raises" b) 11000 s₀).map (fun s => ((openSeen viewQ [Str.ofString "PLAIN_WRITERS", Str.ofString "PLAIN_TAKERS"] (importedModules PySem.Challenge.pw_seekhall_k06_wishes_written.main.body) hX true s).2.1, (openSeen viewQ [Str.ofString "PLAIN_WRITERS", Str.ofString "PLAIN_TAKERS"] (importedModules PySem.Challenge.pw_seekhall_k06_wishes_written.main.body) hX true s).2.2.1))) = some ((openGood viewQ [Str.ofString "PLAIN_WRITERS", Str.ofString "PLAIN_TAKERS"]).2.1, (openGood viewQ [Str.ofString "PLAIN_WRITERS", Str.ofString "PLAIN_TAKERS"]).2.2.1)
theorem hl_1f : hS1 false := by intro w; kernel_rfl
theorem hl_1t : hS1 true := by intro w; kernel_rfl
noncomputable abbrev hS2 (b : Bool) : Prop := ∀ w : World, (fencedOpening treeTable PySem.Challenge.pw_seekhall_k06_wishes_written w 11000).bind (fun s₀ => (topFrom treeTable PySem.Challenge.pw_seekhall_k06_wishes_written (w.withFollow "special-get-raises" b) 11000 s₀).map (fun s => (openSeen viewQ [Str.ofString "PLAIN_WRITERS", Str.ofString "PLAIN_TAKERS"] (importedModules PySem.Challenge.pw_seekhall_k06_wishes_written.main.body) hX true s).2.2.2)) = some ((openGood viewQ [Str.ofString "PLAIN_WRITERS", Str.ofString "PLAIN_TAKERS"]).2.2.2)
theorem hl_2f : hS2 false := by intro w; kernel_rfl
theorem hl_2t : hS2 true := by intro w; kernel_rfl
noncomputable abbrev hS3 (b : Bool) : Prop := ∀ w : World, (fencedOpening treeTable PySem.Challenge.pw_seekhall_k06_wishes_written w 11000).bind (fun s₀ => (topFrom treeTable PySem.Challenge.pw_seekhall_k06_wishes_written (w.withFollow "special-get-raises" b) 11000 s₀).map (fun s => Hook.obs hK s)) = some (Hook.val hK (w.withFollow "special-get-raises" b))
theorem hl_3f : hS3 false := by intro w; kernel_rfl
theorem hl_3t : hS3 true := by intro w; kernel_rfl
theorem hl1 : hSide false := fun w => join4 (hl_0f w) (hl_1f w) (hl_2f w) (hl_3f w) fun s e1 e2 e3 e4 => prod5 e1 e2 e3 e4
theorem hl2 : hSide true := fun w => join4 (hl_0t w) (hl_1t w) (hl_2t w) (hl_3t w) fun s e1 e2 e3 e4 => prod5 e1 e2 e3 e4
theorem hl : LeftO PySem.Challenge.pw_seekhall_k06_wishes_written viewQ [Str.ofString "PLAIN_WRITERS", Str.ofString "PLAIN_TAKERS"] hX (Hook.obs hK) (Hook.val hK) 11000 := left_two "special-get-raises" hl1 hl2
end Lw
namespace L2
open PySem PySem.Spec PyProof.Rows
noncomputable abbrev Key := Sum Int Str
noncomputable def keyIs : Key → Value → Bool
  | .inl k, v => Value.isInt k v
  | .inr x, v => Value.isStrOf x v
noncomputable def keyH (w : World) : Key → Int
  | .inl k => hashInt k
  | .inr x => hashStr w x
theorem keyIs_shape : ∀ {k : Key} {v : Value}, keyIs k v = true → (∃ i t, k = Sum.inl i ∧ v = Value.int i t) ∨ (∃ x t, k = Sum.inr x ∧ v = Value.str x t)
  | .inl i, v, h => by
    obtain ⟨t, e⟩ := Value.isInt_shape (k := i) (v := v) h
    exact .inl ⟨i, t, rfl, e⟩
  | .inr x, v, h => by
    obtain ⟨t, e⟩ := Value.isStrOf_shape (x := x) (v := v) h
    exact .inr ⟨x, t, rfl, e⟩
theorem keyIs_int (i : Int) (t : Tok) : keyIs (.inl i) (.int i t) = true := by simp [keyIs, Value.isInt]
theorem keyIs_str (x : Str) (t : Tok) : keyIs (.inr x) (.str x t) = true := by simp [keyIs, Value.isStrOf]
theorem key_ll (a b : Int) : decide ((Sum.inl a : Key) = Sum.inl b) = (a == b) := by
  by_cases e : a = b
  · subst e; simp
  · have h : ¬ (Sum.inl a : Key) = Sum.inl b := fun q => e (Sum.inl.inj q)
    rw [decide_eq_false h]
    exact (beq_eq_false_iff_ne.mpr e).symm
theorem key_rr (a b : Str) : decide ((Sum.inr a : Key) = Sum.inr b) = decide (a = b) := by
  by_cases e : a = b
  · subst e; simp
  · have h : ¬ (Sum.inr a : Key) = Sum.inr b := fun q => e (Sum.inr.inj q)
    rw [decide_eq_false h, decide_eq_false e]
theorem key_lr (a : Int) (b : Str) : decide ((Sum.inl a : Key) = Sum.inr b) = false := decide_eq_false (fun q => nomatch q)
theorem key_rl (a : Str) (b : Int) : decide ((Sum.inr a : Key) = Sum.inl b) = false := decide_eq_false (fun q => nomatch q)
noncomputable def mixKind (prog : Program) (w : World) : PySem.KeyKind prog w Key where
  is := keyIs
  hash := keyH w
  inj := fun v a b ha hb => by
    rcases keyIs_shape ha with ⟨i, t, rfl, rfl⟩ | ⟨x, t, rfl, rfl⟩
    · rcases keyIs_shape hb with ⟨j, u, rfl, e⟩ | ⟨y, u, rfl, e⟩
      · injection e with e1 _; rw [e1]
      · exact nomatch e
    · rcases keyIs_shape hb with ⟨j, u, rfl, e⟩ | ⟨y, u, rfl, e⟩
      · exact nomatch e
      · injection e with e1 _; rw [e1]
  byValue := fun k v h => by
    rcases keyIs_shape h with ⟨i, t, rfl, rfl⟩ | ⟨x, t, rfl, rfl⟩ <;> rfl
  pyHash := fun hv h => by
    rcases keyIs_shape hv with ⟨i, t, rfl, rfl⟩ | ⟨x, t, rfl, rfl⟩
    · exact wpAny_pyHash_int h
    · exact wpAny_pyHash_str h
  eqBool := fun hu hv h => by
    rcases keyIs_shape hu with ⟨i, t, rfl, rfl⟩ | ⟨x, t, rfl, rfl⟩
    · rcases keyIs_shape hv with ⟨j, u, rfl, rfl⟩ | ⟨y, u, rfl, rfl⟩
      · rw [key_ll] at h; exact wpAny_eqBool_int h
      · rw [key_lr] at h; exact SeqAt.EqAt.int_str i t y u _ _ _ _ h
    · rcases keyIs_shape hv with ⟨j, u, rfl, rfl⟩ | ⟨y, u, rfl, rfl⟩
      · rw [key_rl] at h; exact SeqAt.EqAt.str_int x t j u _ _ _ _ h
      · rw [key_rr] at h; exact wpAny_eqBool_str h
  «strs» := fun k x t v h => by
    rcases keyIs_shape h with ⟨i, u, rfl, e⟩ | ⟨y, u, rfl, e⟩
    · exact nomatch e
    · injection e with e1 _
      subst e1
      cases v <;> rfl
theorem mixKind_int (prog : Program) (w : World) (i : Int) (t : Tok) : (mixKind prog w).is (.inl i) (.int i t) = true := keyIs_int i t
theorem mixKind_str (prog : Program) (w : World) (x : Str) (t : Tok) : (mixKind prog w).is (.inr x) (.str x t) = true := keyIs_str x t
end L2
namespace L2
open PySem PySem.Spec PyProof.Rows
inductive V where
  | non | bl (b : Bool) | int (i : Int) | str (x : Str) | byt (b : Array UInt8) | flt (b : UInt64) | ref (a : Addr) | ty (n : String)
  deriving DecidableEq
noncomputable def RelV : V → Value → Prop
  | .non, u => u = Value.none
  | .bl b, u => u = Value.bool b
  | .int i, u => ∃ t, u = Value.int i t
  | .str x, u => ∃ t, u = Value.str x t
  | .byt b, u => ∃ t, u = Value.bytes b t
  | .flt b, u => ∃ t, u = Value.float b t
  | .ref a, u => u = Value.ref a
  | .ty n, u => u = Value.type n
noncomputable abbrev Vals : List V → List Value → Prop := Paired RelV
theorem Vals.length {xs : List V} {us : List Value} (r : Vals xs us) : xs.length = us.length := Paired.length r
theorem Vals.get : ∀ {xs : List V} {us : List Value} {i : Nat} {x : V}, Vals xs us → xs[i]? = some x → ∃ u, us[i]? = some u ∧ RelV x u
  | _, _, _, _, .nil, e => by simp at e
  | _, _, 0, _, .cons r _, e => by simp at e; subst e; exact ⟨_, rfl, r⟩
  | _, _, i + 1, x, .cons _ t, e => by
    obtain ⟨u, h1, h2⟩ := Vals.get (i := i) (x := x) t (by simpa using e)
    exact ⟨u, by simpa using h1, h2⟩
theorem Vals.set {x : V} {u : Value} (r : RelV x u) : ∀ {xs : List V} {us : List Value} (i : Nat), Vals xs us → Vals (xs.set i x) (us.set i u)
  | _, _, _, .nil => .nil
  | _, _, 0, .cons _ t => .cons r t
  | _, _, i + 1, .cons q t => .cons q (Vals.set r i t)
theorem Vals.append : ∀ {xs ys : List V} {us ws : List Value}, Vals xs us → Vals ys ws → Vals (xs ++ ys) (us ++ ws)
  | _, _, _, _, .nil, s => s
  | _, _, _, _, .cons r t, s => .cons r (Vals.append t s)
theorem Vals.take : ∀ {xs : List V} {us : List Value} (n : Nat), Vals xs us → Vals (xs.take n) (us.take n)
  | _, _, 0, _ => .nil
  | _, _, _ + 1, .nil => .nil
  | _, _, n + 1, .cons r t => .cons r (Vals.take n t)
theorem Vals.drop : ∀ {xs : List V} {us : List Value} (n : Nat), Vals xs us → Vals (xs.drop n) (us.drop n)
  | _, _, 0, r => r
  | _, _, _ + 1, .nil => .nil
  | _, _, n + 1, .cons _ t => Vals.drop n t
noncomputable def RelO : Option V → Option Value → Prop
  | some v, some u => RelV v u
  | none, none => True
  | _, _ => False
noncomputable def KV {κ : Type} : List (κ × V) → List (κ × Value) → Prop := Paired fun (p : κ × V) (q : κ × Value) => p.1 = q.1 ∧ RelV p.2 q.2
noncomputable def kV : Key → V
  | .inl i => .int i
  | .inr x => .str x
inductive HO where
  /-- a list -/
  | lst (xs : List V)
  /-- a tuple (never changes) -/
  | tup (xs : List V)
  /-- a dict whose keys are ints and texts; one whose keys are tuples of ints and texts (the empty one is both) -/
  | dK (kvs : List (Key × V)) | dT (kvs : List (List Key × V))
  /-- a set of ints: its members, its size -/
  | set (S : Int → Bool) (n : Nat)
  /-- an instance of the class at C, its dict at dx, its attributes -/
  | ins (C dx : Addr) (fs : List (Str × V))
  /-- the dict of the instance at x -/
  | own (x : Addr)
  /-- the dict of an exception -/
  | xd (fs : List (Str × V))
  /-- a bound method, f of x -/
  | met (f x : Addr)
  /-- a range object lo, lo + 1, .. below hi -/
  | rng (lo hi : Int)
  /-- a thing that is known to the object (the script; a dict while a loop walks it): read, never written while it is so -/
  | frz (o : Obj) (u : HO)
  /-- a code object's table -/
  | tbl (ps : Array Value)
  /-- a def's table of codes made in its body, all of the qualified name q; the codes are its own -/
  | tab (q : Str)
  /-- any other thing, by what is true of its one object (a def of one's own: SetO a S n := HO.ext fun h => ..) -/
  | ext (φ : Heap → Prop)
noncomputable abbrev Hp := Addr → Option HO
noncomputable def upd (H : Hp) (a : Addr) (o : HO) : Hp := fun b => if b = a then some o else H b
theorem upd_same {H : Hp} {a : Addr} {o : HO} : upd H a o a = some o := by unfold upd; rw [if_pos rfl]
theorem upd_ne {H : Hp} {a b : Addr} {o : HO} (h : b ≠ a) : upd H a o b = H b := by unfold upd; rw [if_neg h]
theorem ne_of {H : Hp} {a b : Addr} {o u : HO} (h : H a = some o) (h' : H b = some u) (d : o ≠ u) : a ≠ b := by
  intro e; subst e; rw [h] at h'; exact d (Option.some.inj h')
theorem ne_of_none {H : Hp} {a b : Addr} {o : HO} (h : H a = some o) (h' : H b = none) : a ≠ b := by
  intro e; subst e; rw [h] at h'; cases h'
section
variable (P : Program) (w : World)
noncomputable def CodeO (o : Obj) (q : Str) : Prop := ∃ vs t, o.data = .fields vs ∧ vs[1]? = some (.str q t)
noncomputable def ObjOk (H : Hp) (h : Heap) (a : Addr) : HO → Prop
  | .lst xs => xs.length ≤ sizeLine ∧ ∃ (its : List Value) (n : Nat), Vals xs its ∧ h.get? a = some { cls := .type "list", data := .seq its.toArray n }
  | .tup xs => xs.length ≤ sizeLine ∧ ∃ its : List Value, Vals xs its ∧ IsTup h a its.toArray
  | .dK kvs => kvs.length ≤ sizeLine ∧ (a == sysModules) = false ∧ ∃ vs, KV kvs vs ∧ h.DictOf (mixKind P w) a vs
  | .dT kvs => kvs.length ≤ sizeLine ∧ (a == sysModules) = false ∧ ∃ xs : List (List Key × Addr × Value),
      Paired (fun (p : List Key × V) (q : List Key × Addr × Value) => p.1 = q.1 ∧ H q.2.1 = some (.tup (p.1.map kV)) ∧ RelV p.2 q.2.2) kvs xs ∧
      ∃ o es ep, h.get? a = some o ∧ o.ExactDict ∧ o.data = .dict es ep ∧ es.toList = xs.map (entryOfKey (tupleKind (mixKind P w))) ∧ (xs.map (·.1)).Nodup
  | .set S n => h.SetOf (intKind P w) a S n
  | .ins C dx fs => H dx = some (.own a) ∧ fs.length ≤ 1000 ∧ dx ≠ a ∧ h.get? a = some (PySem.W.instObj C dx) ∧
      ∃ mA, h.Ns1 dx mA ∧ (∀ f, RelO (fs.lookup f) (mA f)) ∧ PySem.Within mA (fs.map (·.1))
  | .own _ => ∃ o, h.get? a = some o
  | .xd fs => ∃ mA, h.Ns1 a mA ∧ ∀ f, RelO (fs.lookup f) (mA f)
  | .rng lo hi => ∃ t u v, h.get? a = some { cls := .type "range", data := .fields #[.int lo t, .int hi u, .int 1 v] }
  | .frz o u => h.get? a = some o ∧ ObjOk H h a u
  | .tbl ps => h.get? a = some { cls := .none, data := .fields ps }
  | .tab q => ∃ ps : Array Value, h.get? a = some { cls := .none, data := .fields ps } ∧ TriplesOk ps.toList ∧ ∀ pos cv, codeAmong pos ps.toList = some cv → ∃ c oc, cv = Value.ref c ∧ c ≠ a ∧ H c = some (.frz oc (.own a)) ∧ CodeO oc q
  | .met f x => h.get? a = some (PySem.W.methodObj (.ref f) (.ref x))
  | .ext φ => φ h ∧ (∃ o, h.get? a = some o) ∧ ∀ h1 h2 : Heap, φ h1 → (∀ o, h1.get? a = some o → h2.get? a = some o) → φ h2
noncomputable def HOk (H : Hp) (h : Heap) : Prop := ∀ a o, H a = some o → ObjOk P w H h a o
end
section
variable {P : Program} {w : World} {H H' : Hp} {h h' : Heap} {a : Addr} {o : HO}
theorem ObjOk.lt (x : ObjOk P w H h a o) : a < h.objs.size := by
  cases o with
  | lst xs => obtain ⟨_, _, _, _, e⟩ := x; exact Heap.lt_size e
  | tup xs => obtain ⟨_, _, _, p⟩ := x; exact p.lt
  | dK kvs => obtain ⟨_, _, _, _, o, _, _, e, _⟩ := x; exact Heap.lt_size e
  | dT kvs => obtain ⟨_, _, _, _, o, _, _, e, _⟩ := x; exact Heap.lt_size e
  | set S n => obtain ⟨o, _, _, _, e, _⟩ := x; exact Heap.lt_size e
  | ins C dx fs => obtain ⟨_, _, _, e, _⟩ := x; exact Heap.lt_size e
  | own y => obtain ⟨_, e⟩ := x; exact Heap.lt_size e
  | xd fs => obtain ⟨_, ⟨_, _, _, e, _⟩, _⟩ := x; exact Heap.lt_size e
  | rng lo hi => obtain ⟨_, _, _, e⟩ := x; exact Heap.lt_size e
  | frz ob u => obtain ⟨e, _⟩ := x; exact Heap.lt_size e
  | tbl ps => exact Heap.lt_size (show h.get? a = some _ from x)
  | tab q => obtain ⟨_, e, _⟩ := x; exact Heap.lt_size e
  | met f y => exact Heap.lt_size (show h.get? a = some _ from x)
  | ext φ => obtain ⟨_, ⟨_, e⟩, _⟩ := x; exact Heap.lt_size e
theorem Paired.mapP {α β : Type} {F G : α → β → Prop} : ∀ {l₁ : List α} {l₂ : List β}, Paired F l₁ l₂ → (∀ a b, F a b → G a b) → Paired G l₁ l₂
  | _, _, .nil, _ => .nil
  | _, _, .cons r t, f => .cons (f _ _ r) (Paired.mapP t f)
theorem ObjOk.stay (x : ObjOk P w H h a o) (k : ∀ b u, (b = a ∨ H b = some (.own a)) → h.get? b = some u → h'.get? b = some u)
    (ho : ∀ b, H b = some (.own a) → H' b = some (.own a)) (ht : ∀ b xs, H b = some (.tup xs) → H' b = some (.tup xs)) (hz : ∀ b o y, H b = some (.frz o (.own y)) → H' b = some (.frz o (.own y)) := by exact fun _ _ _ q => q) : ObjOk P w H' h' a o := by
  induction o with
  | lst xs => obtain ⟨z, its, n, r, e⟩ := x; exact ⟨z, its, n, r, k _ _ (.inl rfl) e⟩
  | tup xs => obtain ⟨z, its, r, ob, e, c⟩ := x; exact ⟨z, its, r, ob, k _ _ (.inl rfl) e, c⟩
  | dK kvs => obtain ⟨z, y, vs, r, ob, es, ep, e, c⟩ := x; exact ⟨z, y, vs, r, ob, es, ep, k _ _ (.inl rfl) e, c⟩
  | dT kvs =>
    obtain ⟨z, y, xs, r, ob, es, ep, e, c⟩ := x
    exact ⟨z, y, xs, Paired.mapP r fun p q z => ⟨z.1, ht _ _ z.2.1, z.2.2⟩, ob, es, ep, k _ _ (.inl rfl) e, c⟩
  | set S n => obtain ⟨ob, es, ep, t, e, c⟩ := x; exact ⟨ob, es, ep, t, k _ _ (.inl rfl) e, c⟩
  | ins C dx fs =>
    obtain ⟨d, z, ne, e, mA, ⟨od, es, ep, e2, c⟩, r⟩ := x
    exact ⟨ho _ d, z, ne, k _ _ (.inl rfl) e, mA, ⟨od, es, ep, k _ _ (.inr d) e2, c⟩, r⟩
  | own y => obtain ⟨ob, e⟩ := x; exact ⟨ob, k _ _ (.inl rfl) e⟩
  | xd fs => obtain ⟨mA, ⟨od, es, ep, e, c⟩, r⟩ := x; exact ⟨mA, ⟨od, es, ep, k _ _ (.inl rfl) e, c⟩, r⟩
  | rng lo hi => obtain ⟨t, u, v, e⟩ := x; exact ⟨t, u, v, k _ _ (.inl rfl) e⟩
  | frz ob u ih => obtain ⟨e, q⟩ := x; exact ⟨k _ _ (.inl rfl) e, ih q⟩
  | tbl ps =>
    have e : h.get? a = some { cls := .none, data := .fields ps } := x
    show h'.get? a = some { cls := .none, data := .fields ps }
    exact k a _ (.inl rfl) e
  | tab q =>
    obtain ⟨ps, e, t, hc⟩ := x
    refine ⟨ps, k _ _ (.inl rfl) e, t, fun pos cv z => ?_⟩
    obtain ⟨c, oc, ec, ne, hw, hq⟩ := hc pos cv z
    exact ⟨c, oc, ec, ne, hz _ _ _ hw, hq⟩
  | met f y =>
    have e : h.get? a = some (PySem.W.methodObj (.ref f) (.ref y)) := x
    show h'.get? a = some (PySem.W.methodObj (.ref f) (.ref y))
    exact k a _ (.inl rfl) e
  | ext φ => obtain ⟨p, ⟨o, e⟩, st⟩ := x; exact ⟨st _ _ p fun o q => k _ _ (.inl rfl) q, ⟨o, k _ _ (.inl rfl) e⟩, st⟩
theorem HOk.lt (x : HOk P w H h) (e : H a = some o) : a < h.objs.size := (x a o e).lt
theorem HOk.fresh (x : HOk P w H h) (e : h.objs.size ≤ a) : H a = none := by
  cases q : H a with
  | none => rfl
  | some u => exact absurd (Nat.lt_of_lt_of_le (x.lt q) e) (Nat.lt_irrefl _)
theorem HOk.kept (x : HOk P w H h) (k : ∀ b u, h.get? b = some u → h'.get? b = some u) : HOk P w H h' := fun a o e =>
  (x a o e).stay (fun b u _ q => k b u q) (fun _ q => q) fun _ _ q => q
theorem HOk.laid (x : HOk P w H h) (k : ∀ b u, h.get? b = some u → h'.get? b = some u) (hp : h.objs.size ≤ a) (new : ObjOk P w (upd H a o) h' a o) : HOk P w (upd H a o) h' := fun b u e => by
  have hn := x.fresh hp
  by_cases hb : b = a
  · subst hb; rw [upd_same] at e; cases e; exact new
  · rw [upd_ne hb] at e
    exact (x b u e).stay (fun c v _ q => k c v q) (fun c q => by rw [upd_ne (ne_of_none q hn)]; exact q) (fun c xs q => by rw [upd_ne (ne_of_none q hn)]; exact q) fun c _ _ q => by rw [upd_ne (ne_of_none q hn)]; exact q
end
noncomputable def Rd (H : Hp) (a : Addr) (u : HO) : Prop := H a = some u ∨ ∃ o, H a = some (.frz o u)
theorem Rd.ok {P : Program} {w : World} {H : Hp} {h : Heap} {a : Addr} {u : HO} (r : Rd H a u) (x : HOk P w H h) : ObjOk P w H h a u := by
  rcases r with r | ⟨o, r⟩
  · exact x a u r
  · obtain ⟨_, q⟩ := x a _ r
    exact q
noncomputable def Mut : Option HO → Prop
  | some (.lst _) => True
  | some (.dK _) => True
  | some (.dT _) => True
  | some (.set _ _) => True
  | some (.ins _ _ _) => True
  | some (.ext _) => True
  | some (.tab _) => True
  | _ => False
section
variable {P : Program} {w : World} {H : Hp} {h h' : Heap} {x e : Addr} {o' : HO}
theorem HOk.write (ok : HOk P w H h) (mu : Mut (H x)) (he : e = x ∨ H e = some (.own x)) (k : ∀ b u, b ≠ e → h.get? b = some u → h'.get? b = some u) (heo : ∃ u, h'.get? e = some u)
    (new : ObjOk P w (upd H x o') h' x o') : HOk P w (upd H x o') h' := fun b u q => by
  have nown : ∀ c y, H c = some (.own y) → c ≠ x := fun c y r z => by subst z; rw [r] at mu; exact mu
  have ntup : ∀ c xs, H c = some (.tup xs) → c ≠ x := fun c xs r z => by subst z; rw [r] at mu; exact mu
  by_cases hb : b = x
  · subst hb; rw [upd_same] at q; cases q; exact new
  · rw [upd_ne hb] at q
    by_cases hbe : b = e
    · have q' : H b = some (.own x) := by
        rcases he with z | z
        · exact absurd (hbe.trans z) hb
        · rw [hbe]; exact z
      rw [q] at q'; cases q'
      obtain ⟨v, hv⟩ := heo
      exact ⟨v, by rw [hbe]; exact hv⟩
    · refine (ok b u q).stay (fun c v hc r => k c v ?_ r) (fun c r => by rw [upd_ne (nown c b r)]; exact r) (fun c xs r => by rw [upd_ne (ntup c xs r)]; exact r) fun c _ _ r => by rw [upd_ne (fun z => by subst z; rw [r] at mu; exact mu)]; exact r
      rcases hc with rfl | hc
      · exact hbe
      · rintro rfl
        rcases he with z | z
        · exact nown c b hc z
        · rw [hc] at z; cases z; exact hb rfl
end
structure Un (fs ex : List Addr) (H H' : Hp) (h h' : Heap) : Prop where
  keep : ∀ b o, h.get? b = some o → H b = none → b ∉ fs → b ∉ ex → h'.get? b = some o
  slot : ∀ b o, h.get? b = some o → H b = none → b ∈ fs → b ∉ ex → ∃ sl, h'.get? b = some { o with slots := sl }
  free : ∀ b o, h.get? b = some o → H b = none → b ∉ ex → H' b = none
  there : ∀ b o, h.get? b = some o → b ∉ ex → ∃ o', h'.get? b = some o'
  tups : ∀ b xs, H b = some (.tup xs) → H' b = some (.tup xs)
  frzs : ∀ b o u, H b = some (.frz o u) → H' b = some (.frz o u)
  tbls : ∀ b ps, H b = some (.tbl ps) → ∃ more, H' b = some (.tbl (ps ++ more))
section
variable {fs fs' ex ex' : List Addr} {H H1 H2 : Hp} {h h1 h2 h' : Heap} {a x e : Addr} {o : HO}
theorem Un.any (u : Un fs ex H H1 h h1) {b : Addr} {ob : Obj} (q : h.get? b = some ob) (n : H b = none) (hx : b ∉ ex) : ∃ sl, h1.get? b = some { ob with slots := sl } := by
  by_cases hb : b ∈ fs
  · exact u.slot b ob q n hb hx
  · exact ⟨ob.slots, u.keep b ob q n hb hx⟩
theorem Un.kept (k : ∀ b u, h.get? b = some u → h'.get? b = some u) : Un fs ex H H h h' :=
  ⟨fun b ob q _ _ _ => k b ob q, fun b ob q _ _ _ => ⟨ob.slots, k b ob q⟩, fun _ _ _ n _ => n, fun b ob q _ => ⟨ob, k b ob q⟩, fun _ _ q => q, fun _ _ _ q => q, fun _ ps q => ⟨#[], by rw [q]; simp⟩⟩
theorem Un.refl : Un fs ex H H h h := Un.kept fun _ _ q => q
theorem Un.laid (k : ∀ b u, h.get? b = some u → h'.get? b = some u) (hp : h.objs.size ≤ a) (hn : H a = none) : Un fs ex H (upd H a o) h h' where
  keep := fun b u q _ _ _ => k b u q
  slot := fun b u q _ _ _ => ⟨u.slots, k b u q⟩
  free := fun b u q n _ => by rw [upd_ne (Nat.ne_of_lt (Nat.lt_of_lt_of_le (Heap.lt_size q) hp))]; exact n
  there := fun b u q _ => ⟨u, k b u q⟩
  tups := fun b xs q => by rw [upd_ne (ne_of_none q hn)]; exact q
  frzs := fun b u xs q => by rw [upd_ne (ne_of_none q hn)]; exact q
  tbls := fun b ps q => ⟨#[], by rw [upd_ne (ne_of_none q hn), q]; simp⟩
theorem Un.write (mu : Mut (H x)) (he : e = x ∨ H e = some (.own x)) (k : ∀ b u, b ≠ e → h.get? b = some u → h'.get? b = some u) (heo : ∃ u, h'.get? e = some u) : Un fs ex H (upd H x o) h h' := by
  have hx : ∀ b, H b = none → b ≠ x := fun b n z => by subst z; rw [n] at mu; exact mu
  have hb : ∀ b, H b = none → b ≠ e := fun b n z => by
    subst z
    rcases he with r | r
    · exact hx b n r
    · rw [n] at r; cases r
  have hm : ∀ b u, H b = some u → ¬ Mut (some u) → b ≠ x := fun b u q nm z => by subst z; rw [q] at mu; exact nm mu
  refine ⟨fun b u q n _ _ => k b u (hb b n) q, fun b u q n _ _ => ⟨u.slots, k b u (hb b n) q⟩, fun b u q n _ => by rw [upd_ne (hx b n)]; exact n, fun b u q _ => ?_,
    fun b xs q => by rw [upd_ne (hm b _ q fun z => z)]; exact q, fun b u xs q => by rw [upd_ne (hm b _ q fun z => z)]; exact q, fun b ps q => ⟨#[], by rw [upd_ne (hm b _ q fun z => z), q]; simp⟩⟩
  by_cases hbe : b = e
  · subst hbe; exact heo
  · exact ⟨u, k b u hbe q⟩
end
noncomputable def trk (h : Heap) (H : Hp) : List Addr := (List.range h.objs.size).filter fun a => (H a).isSome
noncomputable def hidT (h : Heap) (H : Hp) : Heap := PySem.W.hideAll h (trk h H)
theorem hidT_size (h : Heap) (H : Hp) : (hidT h H).objs.size = h.objs.size := PySem.W.hideAll_size _ _
theorem hidT_get {h : Heap} {H : Hp} {b : Addr} {o : Obj} (e : h.get? b = some o) (n : H b = none) : (hidT h H).get? b = some o :=
  PySem.W.hideAll_get _ e fun hm => by
    have q : (H b).isSome = true := (List.mem_filter.mp hm).2
    rw [n] at q; simp at q
theorem of_hidT {h : Heap} {H : Hp} {b : Addr} {o : Obj} (e : (hidT h H).get? b = some o) : h.get? b = some o ∧ H b = none := by
  have e' : h.get? b = some o := PySem.W.of_hideAll (trk h H) e
  refine ⟨e', ?_⟩
  cases q : H b with
  | none => rfl
  | some x =>
    have hm : b ∈ trk h H := List.mem_filter.mpr ⟨List.mem_range.mpr (Heap.lt_size e'), by simp [q]⟩
    have z : (hidT h H).get? b = none := PySem.W.hideAll_none (trk h H) hm
    rw [z] at e; cases e
end L2
namespace L2
open PySem PySem.Spec PyProof.Rows
structure Mod (K : PySem.W.Frag) (mg : Str → Option Value) (base : Heap) : Prop where
  kin : K.In base
  glob : base.Ns mainGlobals mg
  blt : ∃ mb, base.Ns builtinsNs mb ∧ ∀ x : Str, x ≠ "__name__" → mb x = bootBuiltins x
  nolimit : base.NoLimit
structure Cx where
  prog : Program
  w : World
  K : PySem.W.Frag
  mg : Str → Option Value
  base : Heap
  A : Around
  N : List Str
  s₀ : Shared
  H₀ : Hp
  env : Env
  outer : List Env
  stack : List Env
  ex : List Addr
  fn : Str → Bool
  calm : Bool
  pn : List (Addr × Obj)
  xe : Value → Shared → Prop
noncomputable def frs (l : List Env) : List Addr := l.filterMap (·.frame)
noncomputable abbrev Cx.fs (X : Cx) : List Addr := frs X.outer
noncomputable def Vis (sc : Scope) (x : Str) : Prop := sc.names.lookup x = some .local ∨ sc.names.lookup x = some .cell ∨ sc.names.lookup x = some .free
noncomputable def Loc (sc : Scope) (x : Str) : Prop := sc.names.lookup x = some .local ∨ sc.names.lookup x = some .cell
noncomputable def Look (env : Env) (h : Heap) (m : Str → Option Value) (x : Str) (u : Value) : Prop :=
  (env.kindOf x = some .local ∧ m x = some u) ∨ ((env.kindOf x = some .cell ∨ env.kindOf x = some .free) ∧ ∃ c, env.cells.lookup x = some c ∧ h.IsCell c (some u))
structure Cx.Ok (X : Cx) : Prop where
  mod : Mod X.K X.mg X.base
  kind : X.env.scope.kind = .function
  glob : X.env.globals = mainGlobals
  blt : X.env.builtins = builtinsNs
  above : X.s₀.heap.objs.size ≤ X.env.locals
  inj : ∀ x y c, X.env.cells.lookup x = some c → X.env.cells.lookup y = some c → x = y
  has : ∀ x, (X.env.kindOf x = some .cell ∨ X.env.kindOf x = some .free) → ∃ c, X.env.cells.lookup x = some c
  cab : ∀ x c, X.fn x = true → X.env.cells.lookup x = some c → X.s₀.heap.objs.size ≤ c
  hd : X.calm = true → X.A.handled = none
  frames : X.A.frames = some X.stack
  stk : X.stack = X.outer ∨ (X.stack = X.env :: X.outer ∧ X.env.frame = some X.env.locals)
  exf : ∀ b ∈ X.ex, b ≠ X.env.locals ∧ ∀ x c, X.env.cells.lookup x = some c → c ≠ b
  bs : ∀ b o, X.base.get? b = some o → X.s₀.heap.get? b = some o ∧ X.H₀ b = none
  bsz : X.base.objs.size ≤ X.s₀.heap.objs.size
  noex : ∀ b o, X.base.get? b = some o → b ∉ X.ex
  exfs : ∀ b ∈ X.ex, b ∉ X.fs
  funs : X.s₀.heap.FunFrames X.base X.outer
  frf : ∀ b ∈ X.fs, X.H₀ b = none
structure Inv (X : Cx) (pins : List (Addr × Obj)) (σ : List (Option V)) (H : Hp) (s : Shared) : Prop where
  ok : X.Ok
  os : s.os = X.s₀.os
  bare : AllBare s.gens
  base : Un X.fs X.ex X.H₀ H X.s₀.heap s.heap
  loc : ∃ m, s.heap.Ns X.env.locals m ∧ ∀ (i : Nat) (x : Str) (v : V), X.N[i]? = some x → σ[i]? = some (some v) → Vis X.env.scope x → ∃ u, RelV v u ∧ Look X.env s.heap m x u
  cell : ∀ x c, X.env.cells.lookup x = some c → ∃ v, s.heap.IsCell c v
  free : H X.env.locals = none
  freeC : ∀ x c, X.env.cells.lookup x = some c → H c = none
  pin : ∀ p ∈ X.pn ++ pins, s.heap.get? p.1 = some p.2 ∧ H p.1 = none ∧ p.1 ≠ X.env.locals ∧ p.1 ∉ X.fs ∧ ∀ v, p.2.data ≠ .cell v
  hok : HOk X.prog X.w H s.heap
  len : σ.length = X.N.length
section
variable {X : Cx} {pins : List (Addr × Obj)} {σ : List (Option V)} {H H' : Hp} {s : Shared} {h' : Heap}
theorem Cx.Ok.nofr (ok : X.Ok) {b : Addr} {o : Obj} (e : X.base.get? b = some o) : b ∉ X.fs := fun hb => by
  have := (ok.funs.mem hb).1
  rw [e] at this; cases this
theorem Inv.bs (I : Inv X pins σ H s) : ∀ b o, X.base.get? b = some o → s.heap.get? b = some o ∧ H b = none := fun b o e =>
  ⟨I.base.keep b o (I.ok.bs b o e).1 (I.ok.bs b o e).2 (I.ok.nofr e) (I.ok.noex b o e), I.base.free b o (I.ok.bs b o e).1 (I.ok.bs b o e).2 (I.ok.noex b o e)⟩
theorem Inv.bk (I : Inv X pins σ H s) : ∀ b o, X.base.get? b = some o → s.heap.get? b = some o := fun b o e => (I.bs b o e).1
theorem Inv.mod (I : Inv X pins σ H s) : Mod X.K X.mg X.base := I.ok.mod
theorem Inv.kIn (I : Inv X pins σ H s) : X.K.In s.heap := I.ok.mod.kin.keeps I.bk
theorem Inv.lt (I : Inv X pins σ H s) : X.env.locals < s.heap.objs.size := let ⟨_, hn, _⟩ := I.loc; hn.lt
theorem Inv.sz (I : Inv X pins σ H s) : X.s₀.heap.objs.size ≤ s.heap.objs.size := Nat.le_trans I.ok.above (Nat.le_of_lt I.lt)
theorem Inv.nofs (I : Inv X pins σ H s) {a : Addr} (h : s.heap.objs.size ≤ a) : a ∉ X.fs := fun hb => by
  obtain ⟨_, o, ho, _⟩ := I.ok.funs.mem hb
  exact absurd (Nat.lt_of_lt_of_le (Heap.lt_size ho) (Nat.le_trans I.sz h)) (Nat.lt_irrefl _)
theorem Inv.cne (I : Inv X pins σ H s) : ∀ x c, X.env.cells.lookup x = some c → c ≠ X.env.locals := fun x c e z => by
  obtain ⟨v, o, ho, hd⟩ := I.cell x c e
  obtain ⟨m, ⟨o', es, ep, ho', hd', _⟩, _⟩ := I.loc
  rw [z, ho'] at ho; cases ho; rw [hd'] at hd; cases hd
theorem Inv.funs (I : Inv X pins σ H s) : s.heap.FunFrames X.base X.outer := by
  have all : ∀ (l : List Env), (∀ b ∈ frs l, b ∈ X.fs) → X.s₀.heap.FunFrames X.base l → s.heap.FunFrames X.base l := by
    intro l
    induction l with
    | nil => intro _ _; trivial
    | cons env r ih =>
      intro hs hl
      obtain ⟨hk, ⟨L, o, hf, hn, ho, hd⟩, hr⟩ := hl
      have hL : L ∈ X.fs := hs L (by unfold frs; rw [List.filterMap_cons, hf]; exact List.mem_cons_self)
      obtain ⟨sl, e⟩ := I.base.slot L o ho (I.ok.frf L hL) hL fun z => I.ok.exfs L z hL
      exact ⟨hk, ⟨L, _, hf, hn, e, hd⟩, ih (fun b hb => hs b (by unfold frs; rw [List.filterMap_cons, hf]; exact List.mem_cons_of_mem _ hb)) hr⟩
  exact all X.outer (fun _ hb => hb) I.ok.funs
theorem Inv.stack (I : Inv X pins σ H s) : s.heap.FunFrames X.base X.stack := by
  rcases I.ok.stk with e | ⟨e, hf⟩
  · rw [e]; exact I.funs
  · rw [e]
    obtain ⟨m, hn, _⟩ := I.loc
    refine .cons (by rw [I.ok.kind]; decide) hf hn ?_ I.funs
    exact Heap.get?_none_of_le (Nat.le_trans I.ok.bsz I.ok.above)
theorem Inv.stkSub (I : Inv X pins σ H s) : ∀ b ∈ frs X.stack, b ∈ X.env.locals :: X.fs := fun b hb => by
  rcases I.ok.stk with e | ⟨e, hf⟩
  · rw [e] at hb; exact List.mem_cons_of_mem _ hb
  · rw [e] at hb
    unfold frs at hb
    rw [List.filterMap_cons, hf] at hb
    exact hb
theorem Inv.stkFree (I : Inv X pins σ H s) : ∀ b ∈ frs X.stack, H b = none := fun b hb => by
  rcases List.mem_cons.mp (I.stkSub b hb) with e | hb
  · rw [e]; exact I.free
  · obtain ⟨_, o, ho, _⟩ := I.ok.funs.mem hb
    exact I.base.free b o ho (I.ok.frf b hb) fun z => I.ok.exfs b z hb
theorem Inv.step {g' : Array GenState} {t' : Nat} {d' : Drawn} {ch : List Addr} (I : Inv X pins σ H s)
    (hch : ∀ b ∈ ch, (b ∈ X.ex ∨ X.s₀.heap.objs.size ≤ b) ∧ b ≠ X.env.locals ∧ (∀ x c, X.env.cells.lookup x = some c → c ≠ b) ∧ ∀ p ∈ X.pn ++ pins, p.1 ≠ b)
    (keep : ∀ b o, b ≠ X.env.locals → b ∉ X.fs → b ∉ ch → s.heap.get? b = some o → H b = none → h'.get? b = some o)
    (slot : ∀ b o, b ≠ X.env.locals → b ∈ X.fs → b ∉ ch → s.heap.get? b = some o → H b = none → ∃ sl, h'.get? b = some { o with slots := sl }) (free : ∀ b o, b ∉ ch → s.heap.get? b = some o → H b = none → H' b = none)
    (there : ∀ b o, b ∉ ch → s.heap.get? b = some o → ∃ o', h'.get? b = some o')
    (tups : ∀ b xs, H b = some (.tup xs) → H' b = some (.tup xs)) (frzs : ∀ b o u, H b = some (.frz o u) → H' b = some (.frz o u)) (tbls : ∀ b ps, H b = some (.tbl ps) → ∃ more, H' b = some (.tbl (ps ++ more)))
    (ns : ∀ m, s.heap.Ns X.env.locals m → h'.Ns X.env.locals m) (hok : HOk X.prog X.w H' h') (hg : AllBare g') :
    Inv X pins σ H' { s with heap := h', gens := g', drawn := d', toks := t' } := by
  have neL : ∀ b o, X.s₀.heap.get? b = some o → b ≠ X.env.locals := fun b o e => Nat.ne_of_lt (Nat.lt_of_lt_of_le (Heap.lt_size e) I.ok.above)
  have neC : ∀ b o, X.s₀.heap.get? b = some o → b ∉ X.ex → b ∉ ch := fun b o e hx hb => by
    rcases (hch b hb).1 with z | z
    · exact hx z
    · exact absurd (Nat.lt_of_lt_of_le (Heap.lt_size e) z) (Nat.lt_irrefl _)
  have cellK : ∀ x c, X.env.cells.lookup x = some c → ∀ v, s.heap.IsCell c v → h'.IsCell c v := fun x c e v ⟨o, ho, hd⟩ => by
    have nch : c ∉ ch := fun z => (hch c z).2.2.1 x c e rfl
    by_cases hc : c ∈ X.fs
    · obtain ⟨sl, q⟩ := slot c o (I.cne x c e) hc nch ho (I.freeC x c e)
      exact ⟨_, q, hd⟩
    · exact ⟨o, keep c o (I.cne x c e) hc nch ho (I.freeC x c e), hd⟩
  refine ⟨I.ok, I.os, hg, ⟨fun b o e n hb hx => ?_, fun b o e n hb hx => ?_, fun b o e n hx => ?_, fun b o e hx => ?_, fun b xs e => tups b xs (I.base.tups b xs e), fun b o xs e => frzs b o xs (I.base.frzs b o xs e), fun b ps e => ?_⟩, ?_, fun x c e => ?_, ?_, fun x c e => ?_, fun p hp => ?_, hok, I.len⟩
  · exact keep b o (neL b o e) hb (neC b o e hx) (I.base.keep b o e n hb hx) (I.base.free b o e n hx)
  · obtain ⟨sl, e1⟩ := I.base.slot b o e n hb hx
    obtain ⟨sl', e2⟩ := slot b _ (neL b o e) hb (neC b o e hx) e1 (I.base.free b o e n hx)
    exact ⟨sl', e2⟩
  · obtain ⟨o', e1⟩ := I.base.there b o e hx
    exact free b o' (neC b o e hx) e1 (I.base.free b o e n hx)
  · obtain ⟨o', e1⟩ := I.base.there b o e hx
    exact there b o' (neC b o e hx) e1
  · obtain ⟨m1, e1⟩ := I.base.tbls b ps e
    obtain ⟨m2, e2⟩ := tbls b _ e1
    exact ⟨m1 ++ m2, by rw [e2, Array.append_assoc]⟩
  · obtain ⟨m, hn, hl⟩ := I.loc
    refine ⟨m, ns m hn, fun i x v e1 e2 e3 => ?_⟩
    obtain ⟨u, r, l⟩ := hl i x v e1 e2 e3
    refine ⟨u, r, ?_⟩
    rcases l with l | ⟨k, c, e, z⟩
    · exact .inl l
    · exact .inr ⟨k, c, e, cellK x c e _ z⟩
  · obtain ⟨v, z⟩ := I.cell x c e
    exact ⟨v, cellK x c e v z⟩
  · obtain ⟨m, ⟨o, _, _, ho, _⟩, _⟩ := I.loc
    exact free _ o (fun z => (hch _ z).2.1 rfl) ho I.free
  · obtain ⟨v, o, ho, hd⟩ := I.cell x c e
    exact free c o (fun z => (hch c z).2.2.1 x c e rfl) ho (I.freeC x c e)
  · obtain ⟨e, n, ne, nf, d⟩ := I.pin p hp
    have nch : p.1 ∉ ch := fun z => (hch p.1 z).2.2.2 p hp rfl
    exact ⟨keep p.1 p.2 ne nf nch e n, free p.1 p.2 nch e n, ne, nf, d⟩
theorem Inv.un {t' : Nat} (I : Inv X pins σ H s) (u : Un X.fs [] H H' s.heap h') (hok : HOk X.prog X.w H' h') : Inv X pins σ H' { s with heap := h', toks := t' } := by
  obtain ⟨m, ⟨o, es, ep, ho, r⟩, _⟩ := id I.loc
  obtain ⟨sl, hL⟩ := u.any ho I.free (by simp)
  exact I.step (g' := s.gens) (d' := s.drawn) (ch := []) (fun _ z => nomatch z) (fun b o _ hb _ e n => u.keep b o e n hb (by simp)) (fun b o _ hb _ e n => u.slot b o e n hb (by simp)) (fun b o _ e n => u.free b o e n (by simp)) (fun b o _ e => u.there b o e (by simp)) u.tups u.frzs u.tbls (fun m' hm => by
    obtain ⟨o', es', ep', ho', r'⟩ := hm
    rw [ho] at ho'; cases ho'
    exact ⟨_, es', ep', hL, r'⟩) hok I.bare
theorem Inv.call {g' : Array GenState} {t' : Nat} {d' : Drawn} {ch : List Addr} (I : Inv X pins σ H s) (u : Un (frs X.stack) ch H H' s.heap h') (hok : HOk X.prog X.w H' h') (hg : AllBare g')
    (hch : ∀ b ∈ ch, (b ∈ X.ex ∨ X.s₀.heap.objs.size ≤ b) ∧ b ≠ X.env.locals ∧ (∀ x c, X.env.cells.lookup x = some c → c ≠ b) ∧ ∀ p ∈ X.pn ++ pins, p.1 ≠ b) :
    Inv X pins σ H' { s with heap := h', gens := g', drawn := d', toks := t' } := by
  obtain ⟨m, ⟨o, es, ep, ho, r⟩, _⟩ := id I.loc
  obtain ⟨sl, hL⟩ := u.any ho I.free fun z => (hch _ z).2.1 rfl
  exact I.step (ch := ch) hch (fun b o hL hb hc e n => u.keep b o e n (fun z => (List.mem_cons.mp (I.stkSub b z)).elim hL hb) hc) (fun b o _ _ hc e n => u.any e n hc) (fun b o hc e n => u.free b o e n hc) (fun b o hc e => u.there b o e hc) u.tups u.frzs u.tbls (fun m' hm => by
    obtain ⟨o', es', ep', ho', r'⟩ := hm
    rw [ho] at ho'; cases ho'
    exact ⟨_, es', ep', hL, r'⟩) hok hg
theorem Inv.turned {t' : Nat} {it : Addr} (I : Inv X pins σ H s) (k : ∀ b o, b ≠ it → s.heap.get? b = some o → h'.get? b = some o) (hn : H it = none) (hL : it ≠ X.env.locals)
    (h1 : it ∈ X.ex ∨ X.s₀.heap.objs.size ≤ it) (h2 : ∀ x c, X.env.cells.lookup x = some c → c ≠ it) (h3 : ∀ p ∈ X.pn ++ pins, p.1 ≠ it) : Inv X pins σ H { s with heap := h', toks := t' } := by
  have nit : ∀ b u, H b = some u → b ≠ it := fun b u e z => by rw [z, hn] at e; cases e
  refine I.step (g' := s.gens) (d' := s.drawn) (ch := [it]) (fun b hb => ?_) (fun b o _ _ hc e _ => k b o (fun z => hc (by simp [z])) e) (fun b o _ _ hc e _ => ⟨o.slots, k b o (fun z => hc (by simp [z])) e⟩) (fun _ _ _ _ n => n)
    (fun b o hc e => ⟨o, k b o (fun z => hc (by simp [z])) e⟩) (fun _ _ e => e) (fun _ _ _ e => e) (fun b ps e => ⟨#[], by rw [e]; simp⟩) (fun m hm => ?_) (fun b u e => ?_) I.bare
  · have e : b = it := by simpa using hb
    subst e
    exact ⟨h1, hL, h2, h3⟩
  · obtain ⟨o, es, ep, ho, r⟩ := hm
    exact ⟨o, es, ep, k _ o (Ne.symm hL) ho, r⟩
  · refine (I.hok b u e).stay (fun c v hc q => k c v ?_ q) (fun _ q => q) fun _ _ q => q
    rcases hc with z | z
    · rw [z]; exact nit b u e
    · exact nit c _ z
theorem Inv.tok (I : Inv X pins σ H s) (t : Nat) : Inv X pins σ H { s with toks := t } := I.un (h' := s.heap) (t' := t) Un.refl I.hok
theorem Inv.kept {t' : Nat} (I : Inv X pins σ H s) (k : ∀ b u, s.heap.get? b = some u → h'.get? b = some u) : Inv X pins σ H { s with heap := h', toks := t' } := I.un (Un.kept k) (I.hok.kept k)
theorem Inv.laid {a : Addr} {o : HO} {t' : Nat} (I : Inv X pins σ H s) (k : ∀ b u, s.heap.get? b = some u → h'.get? b = some u) (hp : s.heap.objs.size ≤ a) (new : ObjOk X.prog X.w (upd H a o) h' a o) :
    Inv X pins σ (upd H a o) { s with heap := h', toks := t' } := I.un (Un.laid k hp (I.hok.fresh hp)) (I.hok.laid k hp new)
theorem Inv.write {x e : Addr} {o : HO} {t' : Nat} (I : Inv X pins σ H s) (mu : Mut (H x)) (he : e = x ∨ H e = some (.own x)) (k : ∀ b u, b ≠ e → s.heap.get? b = some u → h'.get? b = some u) (heo : ∃ u, h'.get? e = some u)
    (new : ObjOk X.prog X.w (upd H x o) h' x o) : Inv X pins σ (upd H x o) { s with heap := h', toks := t' } := I.un (Un.write mu he k heo) (I.hok.write mu he k heo new)
theorem Inv.weak {σ' : List (Option V)} (I : Inv X pins σ H s) (hl : σ'.length = σ.length) (w : ∀ (i : Nat) v, σ'[i]? = some (some v) → σ[i]? = some (some v)) : Inv X pins σ' H s :=
  ⟨I.ok, I.os, I.bare, I.base, let ⟨m, hn, hl'⟩ := I.loc; ⟨m, hn, fun i x v e1 e2 e3 => hl' i x v e1 (w i v e2) e3⟩, I.cell, I.free, I.freeC, I.pin, I.hok, hl.trans I.len⟩
theorem Inv.pins_of {pins' : List (Addr × Obj)} (I : Inv X pins σ H s) (h : ∀ p ∈ pins', s.heap.get? p.1 = some p.2 ∧ H p.1 = none ∧ p.1 ≠ X.env.locals ∧ p.1 ∉ X.fs ∧ ∀ v, p.2.data ≠ .cell v) : Inv X pins' σ H s :=
  ⟨I.ok, I.os, I.bare, I.base, I.loc, I.cell, I.free, I.freeC, fun p hp => (List.mem_append.mp hp).elim (fun z => I.pin p (List.mem_append_left _ z)) (h p), I.hok, I.len⟩
theorem nodup_ix {N : List Str} (hN : N.Nodup) {i j : Nat} {x : Str} (a : N[i]? = some x) (b : N[j]? = some x) : i = j := by
  obtain ⟨h1, e1⟩ := List.getElem?_eq_some_iff.mp a
  obtain ⟨h2, e2⟩ := List.getElem?_eq_some_iff.mp b
  exact (List.getElem_inj hN).mp (e1.trans e2.symm)
theorem store_ok2 {M : Model} {A : Around} {E : Value → Shared → Prop} {i : Nat} {x : Str} {v : V} {u : Value} {Q : Unit → Shared → Prop} (I : Inv X pins σ H s) (hN : X.N.Nodup) (hi : X.N[i]? = some x) (hx : Loc X.env.scope x) (r : RelV v u)
    (h : ∀ s', Inv X pins (σ.set i (some v)) H s' → (∃ a, Heap.SameBut a s.heap s'.heap ∧ (a = X.env.locals ∨ X.env.cells.lookup x = some a)) → Q () s') (hf : X.fn x = true ∨ X.env.scope.names.lookup x = some .local := by first | exact .inl rfl | exact .inr rfl | assumption) : wpAny M A (storeName X.env x u) Q E s := by
  obtain ⟨m, hn, hl⟩ := id I.loc
  have hcls : (X.env.scope.kind == .class || (X.env.scope.kind == .module && X.env.locals != X.env.globals)) = false := by rw [I.ok.kind]; rfl
  have hiσ : i < σ.length := by rw [I.len]; exact (List.getElem?_eq_some_iff.mp hi).1
  have cne := I.cne
  have tracked : ∀ {a : Addr} {h' : Heap}, (∃ o, s.heap.get? a = some o ∧ H a = none) → Heap.SameBut a s.heap h' → HOk X.prog X.w H h' := fun {a h'} ha hs b ob e => by
    obtain ⟨_, _, hfree⟩ := ha
    refine (I.hok b ob e).stay (fun c w' hc q => (hs.2 c ?_).trans q) (fun _ q => q) fun _ _ q => q
    rintro rfl
    rcases hc with rfl | hc
    · rw [hfree] at e; cases e
    · rw [hfree] at hc; cases hc
  rcases hx with hk | hk
  · refine wpAny_storeName_local hk hn (fun h' hn' hs => ?_) hcls
    obtain ⟨oL, _, _, hoL, _⟩ := id hn
    refine h _ ⟨I.ok, I.os, I.bare, ⟨fun b o e n hb hx => ?_, fun b o e n hb hx => ?_, I.base.free, fun b o e hx => ?_, I.base.tups, I.base.frzs, I.base.tbls⟩, ⟨_, hn', fun j y v' e1 e2 e3 => ?_⟩, fun y c e => ?_, I.free, I.freeC, fun p hp => ?_, tracked ⟨oL, hoL, I.free⟩ hs, by simpa using I.len⟩ ⟨_, hs, .inl rfl⟩
    · exact (hs.2 b (Nat.ne_of_lt (Nat.lt_of_lt_of_le (Heap.lt_size e) I.ok.above))).trans (I.base.keep b o e n hb hx)
    · obtain ⟨sl, e1⟩ := I.base.slot b o e n hb hx
      exact ⟨sl, (hs.2 b (Nat.ne_of_lt (Nat.lt_of_lt_of_le (Heap.lt_size e) I.ok.above))).trans e1⟩
    · obtain ⟨o', e1⟩ := I.base.there b o e hx
      exact ⟨o', (hs.2 b (Nat.ne_of_lt (Nat.lt_of_lt_of_le (Heap.lt_size e) I.ok.above))).trans e1⟩
    · by_cases hj : j = i
      · subst hj
        rw [hi] at e1; cases e1
        rw [List.getElem?_set_self hiσ] at e2
        cases e2
        exact ⟨u, r, .inl ⟨hk, by simp⟩⟩
      · rw [List.getElem?_set_ne (Ne.symm hj)] at e2
        obtain ⟨u', r', q⟩ := hl j y v' e1 e2 e3
        refine ⟨u', r', ?_⟩
        rcases q with ⟨k, e⟩ | ⟨k, c, e, z⟩
        · refine .inl ⟨k, ?_⟩
          have : y ≠ x := fun e => hj (nodup_ix hN e1 (e ▸ hi))
          simp [this, e]
        · exact .inr ⟨k, c, e, z.sameBut hs (cne y c e)⟩
    · obtain ⟨w', z⟩ := I.cell y c e
      exact ⟨w', z.sameBut hs (cne y c e)⟩
    · obtain ⟨e, n, ne, nf, d⟩ := I.pin p hp
      exact ⟨(hs.2 p.1 ne).trans e, n, ne, nf, d⟩
  · have hfn : X.fn x = true := by
      rcases hf with z | z
      · exact z
      · rw [z] at hk; cases hk
    obtain ⟨c, hc⟩ := I.ok.has x (.inl hk)
    obtain ⟨w', z⟩ := I.cell x c hc
    refine wpAny_storeName_cell I.ok.kind hk hc z (fun h' hc' hs => ?_)
    obtain ⟨oc, hoc, hocd⟩ := id z
    refine h { s with heap := h' } ⟨I.ok, I.os, I.bare, ⟨fun b o e n hb hx => ?_, fun b o e n hb hx => ?_, I.base.free, fun b o e hx => ?_, I.base.tups, I.base.frzs, I.base.tbls⟩, ⟨m, hn.sameBut hs (Ne.symm (cne x c hc)), fun j y v' e1 e2 e3 => ?_⟩, fun y c' e => ?_, I.free, I.freeC, fun p hp => ?_, tracked ⟨oc, hoc, I.freeC x c hc⟩ hs, by simpa using I.len⟩ ⟨c, hs, .inr hc⟩
    · exact (hs.2 b (Nat.ne_of_lt (Nat.lt_of_lt_of_le (Heap.lt_size e) (I.ok.cab x c hfn hc)))).trans (I.base.keep b o e n hb hx)
    · obtain ⟨sl, e1⟩ := I.base.slot b o e n hb hx
      exact ⟨sl, (hs.2 b (Nat.ne_of_lt (Nat.lt_of_lt_of_le (Heap.lt_size e) (I.ok.cab x c hfn hc)))).trans e1⟩
    · obtain ⟨o', e1⟩ := I.base.there b o e hx
      exact ⟨o', (hs.2 b (Nat.ne_of_lt (Nat.lt_of_lt_of_le (Heap.lt_size e) (I.ok.cab x c hfn hc)))).trans e1⟩
    · by_cases hj : j = i
      · subst hj
        rw [hi] at e1; cases e1
        rw [List.getElem?_set_self hiσ] at e2
        cases e2
        exact ⟨u, r, .inr ⟨.inl hk, c, hc, hc'⟩⟩
      · rw [List.getElem?_set_ne (Ne.symm hj)] at e2
        obtain ⟨u', r', q⟩ := hl j y v' e1 e2 e3
        refine ⟨u', r', ?_⟩
        rcases q with q | ⟨k, c', e, z'⟩
        · exact .inl q
        · refine .inr ⟨k, c', e, z'.sameBut hs ?_⟩
          rintro rfl
          exact hj (nodup_ix hN e1 (I.ok.inj _ _ _ e hc ▸ hi))
    · by_cases hcc : c' = c
      · subst hcc; exact ⟨_, hc'⟩
      · obtain ⟨w2, z2⟩ := I.cell y c' e
        exact ⟨w2, z2.sameBut hs hcc⟩
    · obtain ⟨e, n, ne, nf, d⟩ := I.pin p hp
      refine ⟨(hs.2 p.1 ?_).trans e, n, ne, nf, d⟩
      intro q
      rw [q, hoc] at e
      have q' : oc = p.2 := Option.some.inj e
      exact d w' (by rw [← q']; exact hocd)
theorem store_ok {M : Model} {A : Around} {E : Value → Shared → Prop} {i : Nat} {x : Str} {v : V} {u : Value} {Q : Unit → Shared → Prop} (I : Inv X pins σ H s) (hN : X.N.Nodup) (hi : X.N[i]? = some x) (hx : Loc X.env.scope x) (r : RelV v u)
    (h : ∀ s', Inv X pins (σ.set i (some v)) H s' → Q () s') (hf : X.fn x = true ∨ X.env.scope.names.lookup x = some .local := by first | exact .inl rfl | exact .inr rfl | assumption) : wpAny M A (storeName X.env x u) Q E s :=
  store_ok2 I hN hi hx r (fun s' I' _ => h s' I') hf
theorem Inv.call' {s' : Shared} {ch : List Addr} (I : Inv X pins σ H s) (ho : s'.os = s.os) (u : Un (frs X.stack) ch H H' s.heap s'.heap) (hok : HOk X.prog X.w H' s'.heap) (hg : AllBare s'.gens)
    (hch : ∀ b ∈ ch, (b ∈ X.ex ∨ X.s₀.heap.objs.size ≤ b) ∧ b ≠ X.env.locals ∧ (∀ x c, X.env.cells.lookup x = some c → c ≠ b) ∧ ∀ p ∈ X.pn ++ pins, p.1 ≠ b) : Inv X pins σ H' s' := by
  obtain ⟨h', g', d', t', o'⟩ := s'
  have e : o' = s.os := ho
  subst e
  exact I.call (g' := g') (t' := t') (d' := d') u hok hg hch
end
noncomputable abbrev XK := Value → Option Addr → Hp → Prop
noncomputable abbrev St := List (Option V)
noncomputable abbrev VK := V → Hp → Prop
noncomputable abbrev TE := St → Hp → VK → Prop
noncomputable abbrev TT := St → Hp → (Bool → Hp → Prop) → Prop
noncomputable abbrev TA := St → Hp → (List V → Hp → Prop) → Prop
structure Ends where
  nx : St → Hp → Prop
  rt : VK
  bk : St → Hp → Prop := fun _ _ => False
  ct : St → Hp → Prop := fun _ _ => False
noncomputable abbrev TS := Ends → St → Hp → Prop
noncomputable def EP (X : Cx) (pins : List (Addr × Obj)) (σ : St) (Q : VK) (u : Value) (s' : Shared) : Prop := ∃ v H', Inv X pins σ H' s' ∧ RelV v u ∧ Q v H'
noncomputable def TP (X : Cx) (pins : List (Addr × Obj)) (σ : St) (Q : Bool → Hp → Prop) (b : Bool) (s' : Shared) : Prop := ∃ H', Inv X pins σ H' s' ∧ Q b H'
noncomputable def AP (X : Cx) (pins : List (Addr × Obj)) (σ : St) (Q : List V → Hp → Prop) (us : List Value) (s' : Shared) : Prop := ∃ vs H', Inv X pins σ H' s' ∧ Vals vs us ∧ Q vs H'
noncomputable def SP (X : Cx) (pins : List (Addr × Obj)) (D : Ends) (f : Flow) (s' : Shared) : Prop :=
  match f with
  | .next => ∃ σ' H', Inv X pins σ' H' s' ∧ D.nx σ' H'
  | .brk => ∃ σ' H', Inv X pins σ' H' s' ∧ D.bk σ' H'
  | .cont => ∃ σ' H', Inv X pins σ' H' s' ∧ D.ct σ' H'
  | .ret u => ∃ v σ' H', Inv X pins σ' H' s' ∧ RelV v u ∧ D.rt v H'
namespace Irr
set_option allowUnsafeReducibility true in
@[scoped irreducible] def _root_.L2.PE (X : Cx) (e : Expr) (t : TE) : Prop :=
  ∀ (pins : List (Addr × Obj)) (s : Shared) (σ : St) (H : Hp) (Q : VK), Inv X pins σ H s → t σ H Q → wpAny (model X.prog X.w) X.A (eval e X.env) (EP X pins σ Q) X.xe s
end Irr
namespace Irr
set_option allowUnsafeReducibility true in
@[scoped irreducible] def _root_.L2.PT (X : Cx) (e : Expr) (t : TT) : Prop :=
  ∀ (pins : List (Addr × Obj)) (s : Shared) (σ : St) (H : Hp) (Q : Bool → Hp → Prop), Inv X pins σ H s → t σ H Q → wpAny (model X.prog X.w) X.A (isTrue e X.env (eval e X.env)) (TP X pins σ Q) X.xe s
end Irr
namespace Irr
set_option allowUnsafeReducibility true in
@[scoped irreducible] def _root_.L2.PW (X : Cx) (e : Expr) (t : TT) : Prop :=
  ∀ (whole : Sem Value) (pins : List (Addr × Obj)) (s : Shared) (σ : St) (H : Hp) (Q : Bool → Hp → Prop), Inv X pins σ H s → t σ H Q → wpAny (model X.prog X.w) X.A (isTrue e X.env whole) (TP X pins σ Q) X.xe s
end Irr
theorem PW.pt {X : Cx} {e : Expr} {t : TT} (h : PW X e t) : PT X e t := h _
namespace Irr
set_option allowUnsafeReducibility true in
@[scoped irreducible] def _root_.L2.PA (X : Cx) (es : List Expr) (t : TA) : Prop :=
  ∀ (pos : Pos) (pins : List (Addr × Obj)) (s : Shared) (σ : St) (H : Hp) (Q : List V → Hp → Prop), Inv X pins σ H s → t σ H Q → wpAny (model X.prog X.w) X.A (spliced (backTo pos (starEach es X.env))) (AP X pins σ Q) X.xe s
end Irr
namespace Irr
set_option allowUnsafeReducibility true in
@[scoped irreducible] def _root_.L2.PS (X : Cx) (st : Stmt) (t : TS) : Prop :=
  ∀ (pins : List (Addr × Obj)) (s : Shared) (σ : St) (H : Hp) (D : Ends), Inv X pins σ H s → t D σ H → wpAny (model X.prog X.w) X.A (exec st X.env) (SP X pins D) X.xe s
end Irr
namespace Irr
set_option allowUnsafeReducibility true in
@[scoped irreducible] def _root_.L2.PSs (X : Cx) (st : List Stmt) (t : TS) : Prop :=
  ∀ (pins : List (Addr × Obj)) (s : Shared) (σ : St) (H : Hp) (D : Ends), Inv X pins σ H s → t D σ H → wpAny (model X.prog X.w) X.A (execs st X.env) (SP X pins D) X.xe s
end Irr
theorem thn {α : Type} {t : Sem α} {Q Q' : α → Shared → Prop} {M : Model} {A : Around} {E : Value → Shared → Prop} {s : Shared} (h : wpAny M A t Q E s) (hQ : ∀ a s, Q a s → Q' a s) : wpAny M A t Q' E s := wpAny_mono h hQ fun _ _ x => x
end L2
namespace L2
open PySem PySem.Spec PyProof.Rows
section
variable {X : Cx}
noncomputable def tVar (i : Nat) : TE := fun σ H Q => ∃ v, σ[i]? = some (some v) ∧ Q v H
noncomputable def tC (v : V) : TE := fun _ H Q => Q v H
theorem pe_var {i : Nat} {x : Str} {pos : Pos} (hN : X.N[i]? = some x) (hv : Vis X.env.scope x) (hd : (x == ("__debug__" : Str)) = false := by decide) (hcd : (x == ("__classdict__" : Str)) = false := by decide) : PE X (.Name x pos) (tVar i) := by
  intro pins s σ H Q I h
  obtain ⟨v, e, h⟩ := h
  obtain ⟨m, hn, hl⟩ := I.loc
  obtain ⟨u, r, l⟩ := hl i x v hN e hv
  have fin : EP X pins σ Q u s := ⟨v, H, I, r, h⟩
  rcases l with ⟨hk, hm⟩ | ⟨hk, c, hc, hcell⟩
  · exact wpAny_Name (wpAny_loadName_local I.ok.kind hk hn hm fin) hd
  · rcases hk with hk | hk
    · exact wpAny_Name (wpAny_loadName_cell I.ok.kind hk hc hcell fin) hd
    · exact wpAny_Name (wpAny_loadName_free I.ok.kind hk hc hcell fin hcd) hd
theorem pe_int {i j pos} : PE X (.Constant (.int i) j pos) (tC (.int i)) := fun _ _ _ H _ I h => wpAny_Constant_int ⟨.int i, H, I.tok _, ⟨_, rfl⟩, h⟩
theorem pe_bl {b j pos} : PE X (.Constant (.bool b) j pos) (tC (.bl b)) := fun _ _ _ H _ I h => Constant_bool ⟨.bl b, H, I, rfl, h⟩
theorem pe_non {j pos} : PE X (.Constant .none j pos) (tC .non) := fun _ _ _ H _ I h => Constant_none ⟨.non, H, I, rfl, h⟩
theorem pe_str {x j pos} : PE X (.Constant (.str x) j pos) (tC (.str x)) := fun _ _ _ H _ I h => Calls.Constant_str ⟨.str x, H, I.tok _, ⟨_, rfl⟩, h⟩
noncomputable def Gl (X : Cx) (x : Str) : Prop := X.env.kindOf x = some .globalImplicit
theorem ld_glob {E : Value → Shared → Prop} {pins : List (Addr × Obj)} {s : Shared} {σ : St} {H : Hp} {x : Str} {u : Value} {pos : Pos} {Q : Value → Shared → Prop} (I : Inv X pins σ H s) (hg : Gl X x) (hm : X.mg x = some u) (h : Q u s)
    (hd : (x == ("__debug__" : Str)) = false := by decide) : wpAny (model X.prog X.w) X.A (eval (.Name x pos) X.env) Q E s :=
  Calls.Name_function_global I.ok.kind hg (Calls.loadGlobal_global (by rw [I.ok.glob]; exact I.mod.glob.keeps I.bk) hm h) hd
theorem ld_blt {E : Value → Shared → Prop} {pins : List (Addr × Obj)} {s : Shared} {σ : St} {H : Hp} {x : Str} {u : Value} {pos : Pos} {Q : Value → Shared → Prop} (I : Inv X pins σ H s) (hg : Gl X x) (hm : X.mg x = none) (hv : bootBuiltins x = some u) (h : Q u s)
    (hn : x ≠ "__name__" := by decide) (hd : (x == ("__debug__" : Str)) = false := by decide) : wpAny (model X.prog X.w) X.A (eval (.Name x pos) X.env) Q E s := by
  obtain ⟨mb, h1, h2⟩ := I.mod.blt
  exact Calls.Name_function_global I.ok.kind hg (Calls.loadGlobal_builtin (by rw [I.ok.glob]; exact I.mod.glob.keeps I.bk) hm (by rw [I.ok.blt]; exact h1.keeps I.bk) ((h2 x hn).trans hv) h) hd
theorem pe_glob {x : Str} {v : V} {u : Value} {pos : Pos} (hg : Gl X x) (hm : X.mg x = some u) (r : RelV v u) (hd : (x == ("__debug__" : Str)) = false := by decide) : PE X (.Name x pos) (tC v) :=
  fun _ _ _ H _ I h => ld_glob I hg hm ⟨v, H, I, r, h⟩ hd
theorem pe_bltn {x : Str} {v : V} {u : Value} {pos : Pos} (hg : Gl X x) (hm : X.mg x = none) (hv : bootBuiltins x = some u) (r : RelV v u) (hn : x ≠ "__name__" := by decide) (hd : (x == ("__debug__" : Str)) = false := by decide) : PE X (.Name x pos) (tC v) :=
  fun _ _ _ H _ I h => ld_blt I hg hm hv ⟨v, H, I, r, h⟩ hn hd
variable {a b : Expr} {ta tb : TE} {pos : Pos}
noncomputable def PC (X : Cx) (op : CmpOp) (a b : Expr) (t : TE) : Prop :=
  ∀ (pins : List (Addr × Obj)) (s : Shared) (σ : St) (H : Hp) (Q : VK), Inv X pins σ H s → t σ H Q →
    wpAny (model X.prog X.w) X.A (eval a X.env) (fun v s₁ => wpAny (model X.prog X.w) X.A (eval b X.env) (fun u s₂ => wpAny (model X.prog X.w) X.A (compareOp op v u) (EP X pins σ Q) X.xe s₂) X.xe s₁) X.xe s
theorem nobehind (b : Expr) {op : CmpOp} (h : op ≠ .In) (h2 : op ≠ .NotIn) : behindInMarks op b = false := by
  have e1 : (op == CmpOp.In) = false := by cases op <;> first | rfl | exact absurd rfl h
  have e2 : (op == CmpOp.NotIn) = false := by cases op <;> first | rfl | exact absurd rfl h2
  cases b <;> simp [behindInMarks, e1, e2]
noncomputable def tIsN (ta : TE) : TE := fun σ H Q => ta σ H fun x H1 => Q (.bl (decide (x = .non))) H1
noncomputable def tNotN (ta : TE) : TE := fun σ H Q => ta σ H fun x H1 => Q (.bl (!decide (x = .non))) H1
theorem RelV.none_iff {x : V} {v : Value} (r : RelV x v) : (v == Value.none) = decide (x = .non) := by
  cases x with
  | non => cases r; rfl
  | bl _ => cases r; rfl
  | int _ => obtain ⟨t, rfl⟩ := r; rfl
  | str _ => obtain ⟨t, rfl⟩ := r; rfl
  | byt _ => obtain ⟨t, rfl⟩ := r; rfl
  | flt _ => obtain ⟨t, rfl⟩ := r; rfl
  | ref _ => cases r; rfl
  | ty _ => cases r; rfl
theorem pc_isN {j pos'} (ha : PE X a ta) : PC X .Is a (.Constant .none j pos') (tIsN ta) := by
  intro pins s σ H Q I h
  refine thn (ha pins s σ H _ I h) fun v s1 zr805 => ?_
  obtain ⟨x, H1, I1, r1, q1⟩ := zr805
  exact Constant_none (is_none_gen ⟨.bl _, H1, I1, by rw [r1.none_iff]; rfl, q1⟩)
theorem pc_notN {j pos'} (ha : PE X a ta) : PC X .IsNot a (.Constant .none j pos') (tNotN ta) := by
  intro pins s σ H Q I h
  refine thn (ha pins s σ H _ I h) fun v s1 zr809 => ?_
  obtain ⟨x, H1, I1, r1, q1⟩ := zr809
  exact Constant_none (isnot_none_gen ⟨.bl _, H1, I1, by rw [r1.none_iff]; rfl, q1⟩)
noncomputable def tB (t : TE) : TT := fun σ H Q => t σ H fun x H1 => ∃ c, x = .bl c ∧ Q c H1
theorem pe_cmp {op : CmpOp} {t : TE} (h : PC X op a b t) (h1 : behindInMarks op b = false := by first | exact nobehind _ (by decide) (by decide) | rfl) : PE X (.Compare a [op] [b] pos) t := fun pins s σ H Q I hw => wpAny_Compare1 (h pins s σ H Q I hw) h1
theorem pt_cmp {op : CmpOp} {t : TE} (h : PC X op a b t) (h1 : behindInMarks op b = false := by first | exact nobehind _ (by decide) (by decide) | rfl) : PT X (.Compare a [op] [b] pos) (tB t) := by
  intro pins s σ H Q I hw
  refine wpAny_isTrue_Compare1 (thn (h pins s σ H _ I hw) fun v s1 h1 => thn h1 fun u s2 h2 => thn h2 fun c s3 zr815 => ?_) h1
  obtain ⟨x, H1, I1, r1, q1⟩ := zr815
  obtain ⟨d, rfl, q⟩ := q1
  cases r1
  exact wpAny_truthy_bool ⟨H1, I1, q⟩
theorem pt_val {e : Expr} {t : TE} (h : PE X e t) (he : ∀ whole, isTrue e X.env whole = (do let v ← whole; standAt e.pos; holding [v] (truthy v)) := by intro _; rfl) : PT X e (tB t) := by
  intro pins s σ H Q I hw
  refine isTrue_plain (thn (h pins s σ H _ I hw) fun v s1 zr821 => ?_) (he _)
  obtain ⟨x, H1, I1, r1, q1⟩ := zr821
  obtain ⟨d, rfl, q⟩ := q1
  cases r1
  exact wpAny_truthy_bool ⟨H1, I1, q⟩
variable {tA tB' : TT} {rest : List Expr}
noncomputable def tAnd (t u : TT) : TT := fun σ H Q => t σ H fun c H1 => if c = true then u σ H1 Q else Q false H1
noncomputable def tOr (t u : TT) : TT := fun σ H Q => t σ H fun c H1 => if c = true then Q true H1 else u σ H1 Q
noncomputable def tNot (t : TT) : TT := fun σ H Q => t σ H fun c H1 => Q (!c) H1
theorem pw_and1 (ha : PT X a tA) : PW X (.BoolOp .And [a] pos) tA := by
  intro wh pins s σ H Q I h
  refine isTrue_and (thn (ha pins s σ H Q I h) fun c s1 e => ?_)
  cases c with
  | true => exact isTrue_and_nil e
  | false => exact e
theorem pw_or1 (ha : PT X a tA) : PW X (.BoolOp .Or [a] pos) tA := by
  intro wh pins s σ H Q I h
  refine isTrue_or (thn (ha pins s σ H Q I h) fun c s1 e => ?_)
  cases c with
  | false => exact isTrue_or_nil e
  | true => exact e
theorem pw_and (ha : PT X a tA) (hb : PW X (.BoolOp .And (b :: rest) pos) tB') : PW X (.BoolOp .And (a :: b :: rest) pos) (tAnd tA tB') := by
  intro wh pins s σ H Q I h
  refine isTrue_and (thn (ha pins s σ H _ I h) fun c s1 zr843 => ?_)
  obtain ⟨H1, I1, q1⟩ := zr843
  cases c with
  | true => exact hb wh pins s1 σ H1 Q I1 q1
  | false => exact ⟨H1, I1, q1⟩
theorem pw_or (ha : PT X a tA) (hb : PW X (.BoolOp .Or (b :: rest) pos) tB') : PW X (.BoolOp .Or (a :: b :: rest) pos) (tOr tA tB') := by
  intro wh pins s σ H Q I h
  refine isTrue_or (thn (ha pins s σ H _ I h) fun c s1 zr849 => ?_)
  obtain ⟨H1, I1, q1⟩ := zr849
  cases c with
  | true => exact ⟨H1, I1, q1⟩
  | false => exact hb wh pins s1 σ H1 Q I1 q1
theorem pt_not (ha : PT X a tA) : PT X (.UnaryOp .Not a pos) (tNot tA) := by
  intro pins s σ H Q I h
  exact isTrue_not (ha pins s σ H (fun c H1 => Q (!c) H1) I h)
noncomputable def tAndV (ta tb : TE) : TE := fun σ H Q => ta σ H fun x H1 => ∃ c, x = .bl c ∧ if c = true then tb σ H1 Q else Q (.bl false) H1
noncomputable def tNotV (ta : TE) : TE := fun σ H Q => ta σ H fun x H1 => ∃ c, x = .bl c ∧ Q (.bl (!c)) H1
theorem pe_one {op} {t : TE} (h : PE X a t) : PE X (.BoolOp op [a] pos) t := fun pins s σ H Q I hw => BoolOp_one (h pins s σ H Q I hw)
theorem pe_and (ha : PE X a ta) (hb : PE X (.BoolOp .And (b :: rest) pos) tb) : PE X (.BoolOp .And (a :: b :: rest) pos) (tAndV ta tb) := by
  intro pins s σ H Q I h
  refine BoolOp_and (thn (ha pins s σ H _ I h) fun v s1 zr861 => ?_)
  obtain ⟨x, H1, I1, r1, q1⟩ := zr861
  obtain ⟨c, rfl, q1⟩ := q1
  cases r1
  refine wpAny_truthy_bool ?_
  cases c with
  | true => exact hb pins s1 σ H1 Q I1 q1
  | false => exact ⟨.bl false, H1, I1, rfl, q1⟩
theorem pe_not (ha : PE X a ta) : PE X (.UnaryOp .Not a pos) (tNotV ta) := by
  intro pins s σ H Q I h
  refine UnaryOp_ (thn (ha pins s σ H _ I h) fun v s1 zr870 => ?_)
  obtain ⟨x, H1, I1, r1, q1⟩ := zr870
  obtain ⟨c, rfl, q1⟩ := q1
  cases r1
  exact not_of (wpAny_truthy_bool ⟨.bl (!c), H1, I1, rfl, q1⟩)
noncomputable def tIf (t : TT) (ta tb : TE) : TE := fun σ H Q => t σ H fun c H1 => if c = true then ta σ H1 Q else tb σ H1 Q
theorem pe_ifExp {c : Expr} (hc : PT X c tA) (ha : PE X a ta) (hb : PE X b tb) : PE X (.IfExp c a b pos) (tIf tA ta tb) := by
  intro pins s σ H Q I h
  refine wpAny_IfExp (thn (hc pins s σ H _ I h) fun d s1 zr877 => ?_)
  obtain ⟨H1, I1, q1⟩ := zr877
  cases d with
  | true => exact ha pins s1 σ H1 Q I1 q1
  | false => exact hb pins s1 σ H1 Q I1 q1
end
end L2
namespace L2
open PySem PySem.Spec PyProof.Rows
noncomputable def SqL (K : PySem.W.Frag) (H : Hp) (a : Addr) (xs : List V) : Prop :=
  Rd H a (.lst xs) ∨
    ∃ (o : Obj) (its : Array Value) (n : Nat), K.lookup a = some o ∧ o.cls = .type "list" ∧ o.dict = none ∧ o.data = .seq its n ∧ its.size ≤ sizeLine ∧ Vals xs its.toList
noncomputable def SqT (K : PySem.W.Frag) (H : Hp) (a : Addr) (xs : List V) : Prop :=
  Rd H a (.tup xs) ∨
    ∃ (o : Obj) (its : Array Value) (n : Nat), K.lookup a = some o ∧ o.cls = .type "tuple" ∧ o.data = .seq its n ∧ its.size ≤ sizeLine ∧ Vals xs its.toList
noncomputable def absV : Value → Option V
  | .none => some .non
  | .bool b => some (.bl b)
  | .int i _ => some (.int i)
  | .str x _ => some (.str x)
  | .bytes b _ => some (.byt b)
  | .float b _ => some (.flt b)
  | .ref a => some (.ref a)
  | .type n => some (.ty n)
  | _ => none
theorem RelV.abs {x : V} {u : Value} (r : RelV x u) : absV u = some x := by
  cases x with
  | non => cases r; rfl
  | bl _ => cases r; rfl
  | int _ => obtain ⟨t, rfl⟩ := r; rfl
  | str _ => obtain ⟨t, rfl⟩ := r; rfl
  | byt _ => obtain ⟨t, rfl⟩ := r; rfl
  | flt _ => obtain ⟨t, rfl⟩ := r; rfl
  | ref _ => cases r; rfl
  | ty _ => cases r; rfl
theorem RelV.inj {x y : V} {u : Value} (r : RelV x u) (q : RelV y u) : x = y := Option.some.inj (r.abs.symm.trans q.abs)
theorem Vals.inj : ∀ {xs ys : List V} {us : List Value}, Vals xs us → Vals ys us → xs = ys
  | _, _, _, .nil, .nil => rfl
  | _, _, _, .cons r t, .cons r' t' => by rw [r.inj r', Vals.inj t t']
section
variable {X : Cx} {pins : List (Addr × Obj)} {σ : St} {H : Hp} {s : Shared} {a : Addr} {xs ys : List V}
theorem SqL.of {K : PySem.W.Frag} (h : H a = some (.lst xs)) : SqL K H a xs := .inl (.inl h)
theorem SqT.of {K : PySem.W.Frag} (h : H a = some (.tup xs)) : SqT K H a xs := .inl (.inl h)
theorem Inv.list (I : Inv X pins σ H s) (h : SqL X.K H a xs) : ∃ its : List Value, Vals xs its ∧ PlainL s.heap a its.toArray ∧ xs.length ≤ sizeLine := by
  rcases h with h | ⟨o, its, n, hk, hc, hd, hs, hz, r⟩
  · obtain ⟨z, its, n, r, e⟩ := h.ok I.hok
    exact ⟨its, r, ⟨_, n, e, rfl, rfl, rfl⟩, z⟩
  · refine ⟨its.toList, r, ⟨o, n, I.kIn a o hk, hc, hd, by simpa using hs⟩, ?_⟩
    have e := r.length
    simp only [Array.length_toList] at e
    omega
theorem Inv.tuple (I : Inv X pins σ H s) (h : SqT X.K H a xs) : ∃ its : List Value, Vals xs its ∧ IsTup s.heap a its.toArray ∧ xs.length ≤ sizeLine := by
  rcases h with h | ⟨o, its, n, hk, hc, hs, hz, r⟩
  · obtain ⟨z, its, r, p⟩ := h.ok I.hok
    exact ⟨its, r, p, z⟩
  · refine ⟨its.toList, r, ⟨o, I.kIn a o hk, hc, n, by simpa using hs⟩, ?_⟩
    have e := r.length
    simp only [Array.length_toList] at e
    omega
theorem Inv.list_inj (I : Inv X pins σ H s) (h : SqL X.K H a xs) (h' : SqL X.K H a ys) : xs = ys := by
  obtain ⟨its, r, ⟨o, n, e, _, _, d⟩, _⟩ := I.list h
  obtain ⟨its', r', ⟨o', n', e', _, _, d'⟩, _⟩ := I.list h'
  rw [e] at e'; cases e'
  rw [d] at d'
  injection d' with d1 _
  have : its = its' := by simpa using congrArg Array.toList d1
  subst this
  exact r.inj r'
theorem Inv.tuple_inj (I : Inv X pins σ H s) (h : SqT X.K H a xs) (h' : SqT X.K H a ys) : xs = ys := by
  obtain ⟨its, r, ⟨o, e, _, n, d⟩, _⟩ := I.tuple h
  obtain ⟨its', r', ⟨o', e', _, n', d'⟩, _⟩ := I.tuple h'
  rw [e] at e'; cases e'
  rw [d] at d'
  injection d' with d1 _
  have : its = its' := by simpa using congrArg Array.toList d1
  subst this
  exact r.inj r'
end
noncomputable abbrev Cx.wish (X : Cx) (E : Value → Shared → Prop) : Cx := { X with xe := E }
noncomputable abbrev Cx.nox (X : Cx) : Cx := X.wish fun _ _ => False
theorem Cx.Ok.wish {X : Cx} (ok : X.Ok) (E : Value → Shared → Prop) : (X.wish E).Ok :=
  ⟨ok.mod, ok.kind, ok.glob, ok.blt, ok.above, ok.inj, ok.has, ok.cab, ok.hd, ok.frames, ok.stk, ok.exf, ok.bs, ok.bsz, ok.noex, ok.exfs, ok.funs, ok.frf⟩
theorem Cx.Ok.unwish {X : Cx} {E : Value → Shared → Prop} (ok : (X.wish E).Ok) : X.Ok :=
  ⟨ok.mod, ok.kind, ok.glob, ok.blt, ok.above, ok.inj, ok.has, ok.cab, ok.hd, ok.frames, ok.stk, ok.exf, ok.bs, ok.bsz, ok.noex, ok.exfs, ok.funs, ok.frf⟩
section
variable {X : Cx} {pins : List (Addr × Obj)} {σ : St} {H : Hp} {s : Shared} {E : Value → Shared → Prop}
theorem Inv.wish (I : Inv X pins σ H s) (E : Value → Shared → Prop) : Inv (X.wish E) pins σ H s := ⟨I.ok.wish E, I.os, I.bare, I.base, I.loc, I.cell, I.free, I.freeC, I.pin, I.hok, I.len⟩
theorem Inv.unwish (I : Inv (X.wish E) pins σ H s) : Inv X pins σ H s := ⟨I.ok.unwish, I.os, I.bare, I.base, I.loc, I.cell, I.free, I.freeC, I.pin, I.hok, I.len⟩
theorem SP.unwish {D : Ends} {f : Flow} {s' : Shared} (h : SP (X.wish E) pins D f s') : SP X pins D f s' := by
  cases f with
  | next => obtain ⟨σ', H', I, q⟩ := h; exact ⟨σ', H', I.unwish, q⟩
  | brk => obtain ⟨σ', H', I, q⟩ := h; exact ⟨σ', H', I.unwish, q⟩
  | cont => obtain ⟨σ', H', I, q⟩ := h; exact ⟨σ', H', I.unwish, q⟩
  | ret u => obtain ⟨v, σ', H', I, r, q⟩ := h; exact ⟨v, σ', H', I.unwish, r, q⟩
theorem PSs.nox {st : List Stmt} {t : TS} (h : PSs X.nox st t) : PSs X st t := fun pins s σ H D I hw =>
  wpAny_mono (h pins s σ H D (I.wish _) hw) (fun _ _ q => q.unwish) fun _ _ z => False.elim z
end
section
variable {X : Cx} {st : Stmt} {rest : List Stmt} {t u : TS} {e : Expr} {te : TE} {pos : Pos}
noncomputable def tNext : TS := fun D σ H => D.nx σ H
noncomputable def tSeq (t u : TS) : TS := fun D σ H => t { D with nx := u D } σ H
theorem pss_nil : PSs X [] tNext := fun _ _ σ H _ I h => wpAny_execs_nil ⟨σ, H, I, h⟩
theorem pss_cons (h1 : PS X st t) (h2 : PSs X rest u) : PSs X (st :: rest) (tSeq t u) := by
  intro pins s σ H D I h
  refine wpAny_execs_cons (thn (h1 pins s σ H { D with nx := u D } I h) fun f s1 q => ?_)
  cases f with
  | next =>
    obtain ⟨σ', H', I', q⟩ := q
    exact h2 pins s1 σ' H' D I' q
  | ret v => exact q
  | brk => exact q
  | cont => exact q
theorem pss_one (h1 : PS X st t) : PSs X [st] t := by
  intro pins s σ H D I h
  refine wpAny_execs_cons (thn (h1 pins s σ H D I h) fun f s1 q => ?_)
  cases f with
  | next => exact wpAny_execs_nil q
  | ret v => exact q
  | brk => exact q
  | cont => exact q
theorem Inv.quiet {pins : List (Addr × Obj)} {σ : St} {H : Hp} {s : Shared} (I : Inv X pins σ H s) : interactive X.env = false := by simp [interactive, I.ok.kind]
noncomputable def tDrop (te : TE) : TS := fun D σ H => te σ H fun _ H1 => D.nx σ H1
theorem ps_expr (he : PE X e te) (hs : swapsWith e none pos.line X.env = pure false := by rfl) : PS X (.Expr e pos) (tDrop te) := by
  intro pins s σ H D I h
  exact wpAny_Expr_any (thn (he pins s σ H _ I h) fun v s1 zq0 => by obtain ⟨x, H1, I1, r1, q1⟩ := zq0; exact (⟨σ, H1, I1, q1⟩)) I.quiet hs
noncomputable def tRet (te : TE) : TS := fun D σ H => te σ H D.rt
theorem ps_ret (he : PE X e te) : PS X (.Return (some e) pos) (tRet te) := by
  intro pins s σ H D I h
  exact wpAny_Return_some (thn (he pins s σ H _ I h) fun v s1 zq1 => by obtain ⟨x, H1, I1, r1, q1⟩ := zq1; exact (⟨x, σ, H1, I1, r1, q1⟩))
noncomputable def tIfS (c : TT) (t u : TS) : TS := fun D σ H => c σ H fun b H1 => if b = true then t D σ H1 else u D σ H1
theorem ps_if {c : Expr} {a b : List Stmt} {tc : TT} (hc : PT X c tc) (ha : PSs X a t) (hb : PSs X b u) : PS X (.If c a b pos) (tIfS tc t u) := by
  intro pins s σ H D I h
  refine wpAny_If (thn (hc pins s σ H _ I h) fun d s1 zr1008 => ?_)
  obtain ⟨H1, I1, q1⟩ := zr1008
  cases d with
  | true => exact ha pins s1 σ H1 D I1 q1
  | false => exact hb pins s1 σ H1 D I1 q1
noncomputable def tNever : TS := fun _ _ _ => False
theorem ps_never : PS X st tNever := fun _ _ _ _ _ _ h => h.elim
end
noncomputable abbrev TG := V → St → Hp → (St → Hp → Prop) → Prop
noncomputable abbrev TGs := List V → St → Hp → (St → Hp → Prop) → Prop
noncomputable def PG (X : Cx) (target : Expr) (t : TG) : Prop :=
  ∀ (pins : List (Addr × Obj)) (s : Shared) (σ : St) (H : Hp) (v : V) (u : Value) (Q : St → Hp → Prop), Inv X pins σ H s → RelV v u → t v σ H Q →
    wpAny (model X.prog X.w) X.A (assign target X.env u) (fun _ s' => ∃ σ' H', Inv X pins σ' H' s' ∧ Q σ' H') X.xe s
noncomputable def PGs (X : Cx) (ts : List Expr) (t : TGs) : Prop :=
  ∀ (pins : List (Addr × Obj)) (s : Shared) (σ : St) (H : Hp) (vs : List V) (us : List Value) (Q : St → Hp → Prop), Inv X pins σ H s → Vals vs us → t vs σ H Q →
    wpAny (model X.prog X.w) X.A (assignInOrder ((assignEach ts X.env).map (·.2)) us) (fun _ s' => ∃ σ' H', Inv X pins σ' H' s' ∧ Q σ' H') X.xe s
noncomputable abbrev TSet := V → V → V → Hp → (Hp → Prop) → Prop
noncomputable def PSet (X : Cx) (t : TSet) : Prop :=
  ∀ (pins : List (Addr × Obj)) (s : Shared) (σ : St) (H : Hp) (o i v : V) (ov iv u : Value) (Q : Hp → Prop), Inv X pins σ H s → RelV o ov → RelV i iv → RelV v u → t o i v H Q →
    wpAny (model X.prog X.w) X.A (setItem ov iv u) (fun _ s' => ∃ H', Inv X pins σ H' s' ∧ Q H') X.xe s
noncomputable abbrev TIp := V → V → Hp → VK → Prop
noncomputable def PIp (X : Cx) (op : Operator) (t : TIp) : Prop :=
  ∀ (pins : List (Addr × Obj)) (s : Shared) (σ : St) (H : Hp) (x y : V) (v u : Value) (Q : VK), Inv X pins σ H s → RelV x v → RelV y u → t x y H Q →
    wpAny (model X.prog X.w) X.A (inplaceOp op v u) (EP X pins σ Q) X.xe s
section
variable {X : Cx} {pos : Pos}
noncomputable def gName (i : Nat) : TG := fun v σ H Q => Q (σ.set i (some v)) H
theorem pg_name {i : Nat} {x : Str} (hN : X.N.Nodup) (hi : X.N[i]? = some x) (hx : Loc X.env.scope x) (hf : X.fn x = true ∨ X.env.scope.names.lookup x = some .local := by first | exact .inl rfl | exact .inr rfl | assumption) : PG X (.Name x pos) (gName i) := by
  intro pins s σ H v u Q I r h
  exact wpAny_assign_Name (store_ok I hN hi hx r (fun s' I' => ⟨_, H, I', h⟩) hf)
noncomputable def gNil : TGs := fun vs σ H Q => vs = [] ∧ Q σ H
noncomputable def gCons (t : TG) (u : TGs) : TGs := fun vs σ H Q => ∃ v r, vs = v :: r ∧ t v σ H fun σ' H' => u r σ' H' Q
theorem pgs_nil : PGs X [] gNil := by
  intro pins s σ H vs us Q I r h
  obtain ⟨e, h⟩ := h
  subst e
  cases r
  exact assignInOrder_nil ⟨σ, H, I, h⟩
theorem pgs_cons {e : Expr} {es : List Expr} {t : TG} {u : TGs} (h1 : PG X e t) (h2 : PGs X es u)
    (hs : (assignEach (e :: es) X.env).map (·.2) = assign e X.env :: (assignEach es X.env).map (·.2) := by rfl) : PGs X (e :: es) (gCons t u) := by
  intro pins s σ H vs us Q I r h
  obtain ⟨v, vr, e1, h⟩ := h
  subst e1
  cases r with
  | cons r rr =>
    rw [hs]
    refine assignInOrder_cons (thn (h1 pins s σ H _ _ _ I r h) fun _ s1 zr1053 => ?_)
    obtain ⟨σ1, H1, I1, q1⟩ := zr1053
    exact h2 pins s1 σ1 H1 _ _ Q I1 rr q1
noncomputable def gTup (K : PySem.W.Frag) (n : Nat) (t : TGs) : TG := fun v σ H Q => ∃ a xs, v = .ref a ∧ SqT K H a xs ∧ xs.length = n ∧ t xs σ H Q
theorem pg_tup {es : List Expr} {k : Nat} {t : TGs} {n : Nat} (hc : X.calm = true) (h : PGs X es t)
    (hn : (assignEach es X.env).length = n := by rfl) (hst : (assignEach es X.env).findIdx? (·.1) = none := by rfl) : PG X (.Tuple es k pos) (gTup X.K n t) := by
  intro pins s σ H v u Q I r hw
  obtain ⟨a, xs, e1, hq, hl, hw⟩ := hw
  subst e1
  cases r
  obtain ⟨its, rv, ht, hz⟩ := I.tuple hq
  refine assign_Tuple_tuple (I.ok.hd hc) ht (by simp [hn, ← hl, rv.length]) hst fun h' hx => ?_
  have I1 : Inv X pins σ H { s with heap := h' } := I.kept (t' := s.toks) fun b o e => hx b o (Nat.ne_of_lt (Heap.lt_size e)) e
  exact h pins _ σ H xs _ Q I1 (by simpa using rv) hw
noncomputable def gSub (to ti : TE) (t : TSet) : TG := fun v σ H Q => to σ H fun o H1 => ti σ H1 fun i H2 => t o i v H2 fun H3 => Q σ H3
theorem pg_sub {o i : Expr} {to ti : TE} {t : TSet} (ho : PE X o to) (hi : PE X i ti) (hs : PSet X t)
    (ha : ∀ v, assign (.Subscript o i pos) X.env v = (do
      let ov ← holding [v] (eval o X.env)
      let iv ← holding [v, ov] (eval i X.env)
      standAt pos
      holding [v, ov, iv] (setItem ov iv v)
      release [v, ov, iv] []) := by intro _; rfl) : PG X (.Subscript o i pos) (gSub to ti t) := by
  intro pins s σ H v u Q I r h
  rw [ha]
  refine wpAny_bind (wpAny_holding (thn (ho pins s σ H _ I h) fun ov s1 zr1076 => ?_))
  obtain ⟨x, H1, I1, r1, q1⟩ := zr1076
  refine wpAny_bind (wpAny_holding (thn (hi pins s1 σ H1 _ I1 q1) fun iv s2 zr1077 => ?_))
  obtain ⟨y, H2, I2, r2, q2⟩ := zr1077
  refine wpAny_bind (wpAny_standAt (wpAny_bind (wpAny_holding (thn (hs pins s2 σ H2 x y v ov iv u _ I2 r1 r2 r q2) fun _ s3 zr1078 => ?_))))
  obtain ⟨H3, I3, q3⟩ := zr1078
  exact wpAny_release ⟨σ, H3, I3, q3⟩
noncomputable def tAsg (te : TE) (g : TG) : TS := fun D σ H => te σ H fun x H1 => g x σ H1 D.nx
theorem ps_asg {tg e : Expr} {te : TE} {g : TG} (he : PE X e te) (hg : PG X tg g) (hs : swapsWithSole [tg] e pos.line X.env = pure false := by rfl) (hw : swappedStores [tg] e X.env = pure none := by rfl)
    (h1 : (assignEach [tg] X.env).map (·.2) = [assign tg X.env] := by rfl) : PS X (.Assign [tg] e pos) (tAsg te g) := by
  intro pins s σ H D I h
  refine wpAny_Assign_stores (thn (he pins s σ H _ I h) fun v s1 zr1084 => ?_) hs hw
  obtain ⟨x, H1, I1, r1, q1⟩ := zr1084
  rw [h1]
  exact thn (hg pins s1 σ H1 x v _ I1 r1 q1) fun _ s2 q => q
theorem ps_set {i : Nat} {x : Str} {e : Expr} {te : TE} {pos' : Pos} (hN : X.N.Nodup) (hi : X.N[i]? = some x) (hx : Loc X.env.scope x) (he : PE X e te) (hs : swapsWith e (some (.Name x pos')) pos.line X.env = pure false := by rfl) (hf : X.fn x = true ∨ X.env.scope.names.lookup x = some .local := by first | exact .inl rfl | exact .inr rfl | assumption) :
    PS X (.Assign [.Name x pos'] e pos) (tAsg te (gName i)) := by
  intro pins s σ H D I h
  refine wpAny_Assign_Name (thn (he pins s σ H _ I h) fun v s1 zr1090 => ?_) hs
  obtain ⟨y, H1, I1, r1, q1⟩ := zr1090
  exact store_ok I1 hN hi hx r1 (fun s2 I2 => ⟨_, H1, I2, q1⟩) hf
noncomputable def ipI (f : Int → Int → Int) : TIp := fun x y H Q => ∃ i j, x = .int i ∧ y = .int j ∧ Q (.int (f i j)) H
theorem ip_add : PIp X .Add (ipI fun i j => i + j) := by
  intro pins s σ H x y v u Q I r1 r2 h
  obtain ⟨i, j, e1, e2, q⟩ := h
  subst e1; subst e2
  obtain ⟨t, rfl⟩ := r1
  obtain ⟨t', rfl⟩ := r2
  exact iadd_int ⟨.int _, H, I.tok _, ⟨_, rfl⟩, q⟩
end
section
variable {X : Cx} {pos : Pos}
noncomputable def tWhile (c : TT) (tb : TS) : TS := fun D σ H => ∃ W : Nat → St → Hp → Prop, (∃ m, W m σ H) ∧ ∀ m σ H, W m σ H →
  c σ H fun b H1 => if b = true then ∃ N : St → Hp → Prop, (∀ σ' H', N σ' H' → ∃ m', m' < m ∧ W m' σ' H') ∧ tb { D with nx := N, ct := N, bk := D.nx } σ H1 else D.nx σ H1
theorem ps_while {c : Expr} {body : List Stmt} {tc : TT} {tb : TS} (hp : PassesOwn (model X.prog X.w) X.A X.env X.xe) (hc : PT X c tc) (hb : PSs X body tb) : PS X (.While c body [] pos) (tWhile tc tb) := by
  intro pins s σ H D I h
  obtain ⟨W, ⟨m0, w0⟩, turn⟩ := h
  refine wpAny_While (codeAny_whileLoop (fun n s' => ∃ σ' H', Inv X pins σ' H' s' ∧ W n σ' H') ?_ m0 ⟨σ, H, I, w0⟩)
  rintro n s1 ⟨σ1, H1, I1, w1⟩
  refine wpAny_passesOwn hp (thn (hc pins s1 σ1 H1 _ I1 (turn n σ1 H1 w1)) fun b s2 zr1110 => ?_)
  obtain ⟨H2, I2, q2⟩ := zr1110
  cases b with
  | true =>
    obtain ⟨N, hN, q2⟩ := q2
    rw [if_pos rfl]
    refine wpAny_passesOwn hp (thn (hb pins s2 σ1 H2 _ I2 q2) fun f s3 q3 => ?_)
    cases f with
    | next =>
      obtain ⟨σ3, H3, I3, n3⟩ := q3
      obtain ⟨m', hm, w3⟩ := hN σ3 H3 n3
      exact ⟨m', hm, σ3, H3, I3, w3⟩
    | cont =>
      obtain ⟨σ3, H3, I3, n3⟩ := q3
      obtain ⟨m', hm, w3⟩ := hN σ3 H3 n3
      exact ⟨m', hm, σ3, H3, I3, w3⟩
    | brk => exact q3
    | ret v => exact q3
  | false =>
    rw [if_neg Bool.false_ne_true]
    exact wpAny_execs_nil ⟨σ1, H2, I2, q2⟩
end
structure It where
  go : Nat → Hp → Prop
  yld : Nat → Hp → V → Hp → Prop
  stop : Nat → Hp → Prop
noncomputable def FpOk (X : Cx) (pins : List (Addr × Obj)) (H : Hp) (b : Addr) : Prop :=
  H b = none ∧ b ≠ X.env.locals ∧ b ∉ X.fs ∧ (b ∈ X.ex ∨ X.s₀.heap.objs.size ≤ b) ∧ (∀ x c, X.env.cells.lookup x = some c → c ≠ b) ∧ ∀ p ∈ X.pn ++ pins, p.1 ≠ b
theorem Inv.fpOk {X : Cx} {pins : List (Addr × Obj)} {σ : St} {H H' : Hp} {s : Shared} {b : Addr} (I : Inv X pins σ H s) (hb : s.heap.objs.size ≤ b) (hn : H' b = none) : FpOk X pins H' b := by
  refine ⟨hn, Nat.ne_of_gt (Nat.lt_of_lt_of_le I.lt hb), I.nofs hb, .inr (Nat.le_trans I.sz hb), fun x c e z => ?_, fun p hp z => ?_⟩
  · obtain ⟨v, q⟩ := I.cell x c e
    exact absurd (Nat.lt_of_lt_of_le q.lt (by rw [z]; exact hb)) (Nat.lt_irrefl _)
  · exact absurd (Nat.lt_of_lt_of_le (Heap.lt_size (I.pin p hp).1) (by rw [z]; exact hb)) (Nat.lt_irrefl _)
structure Turn (P : Program) (w : World) (K : PySem.W.Frag) (tg : Expr) (J : It) (fp : List Addr) (it : Addr) (tn : Nat → Heap → Prop) : Prop where
  mem : it ∈ fp
  obj : ∀ i h, tn i h → ∀ b ∈ fp, ∃ o, h.get? b = some o ∧ ∀ v, o.data ≠ .cell v
  keep : ∀ i h h', tn i h → (∀ b ∈ fp, ∀ o, h.get? b = some o → h'.get? b = some o) → tn i h'
  item : ∀ (X : Cx), X.prog = P → X.w = w → X.K = K → X.calm = true → ∀ (i : Nat) (pins : List (Addr × Obj)) (s : Shared) (σ : St) (H : Hp) (E : Value → Shared → Prop), Inv X pins σ H s → (∀ b ∈ fp, FpOk X pins H b) → tn i s.heap → J.go i H →
    wpAny (model P w) X.A (pyNext (.ref it)) (fun r s1 => ∃ u, r = some u ∧
      wpAny (model P w) X.A (letOwnedTupleGo tg (.ref it) u) (fun _ s2 => ∃ x H', Inv X pins σ H' s2 ∧ RelV x u ∧ J.yld i H x H' ∧ tn (i + 1) s2.heap ∧ ∀ b ∈ fp, H' b = none) E s1) E s
  done : ∀ (X : Cx), X.prog = P → X.w = w → X.K = K → X.calm = true → ∀ (i : Nat) (pins : List (Addr × Obj)) (s : Shared) (σ : St) (H : Hp) (E : Value → Shared → Prop), Inv X pins σ H s → (∀ b ∈ fp, FpOk X pins H b) → tn i s.heap → J.stop i H →
    wpAny (model P w) X.A (pyNext (.ref it)) (fun r s1 => r = none ∧ Inv X pins σ H s1) E s
  self : ∀ (A : Around) (i : Nat) (s : Shared) (Q : Value → Shared → Prop) (E : Value → Shared → Prop), tn i s.heap → Q (.ref it) s → wpAny (model P w) A (pyIter (.ref it)) Q E s
noncomputable abbrev TI := St → Hp → (It → Hp → Prop) → Prop
noncomputable def PIE (X : Cx) (pins : List (Addr × Obj)) (σ : St) (tg : Expr) (R : It → Hp → Prop) (itv : Value) (s2 : Shared) : Prop :=
  ∃ (it : Addr) (fp : List Addr) (tn : Nat → Heap → Prop) (J : It) (H' : Hp), itv = .ref it ∧ Inv X pins σ H' s2 ∧ Turn X.prog X.w X.K tg J fp it tn ∧ tn 0 s2.heap ∧ (∀ b ∈ fp, FpOk X pins H' b) ∧ R J H'
noncomputable def PI (X : Cx) (tg iter : Expr) (wi : TI) : Prop :=
  ∀ (pins : List (Addr × Obj)) (s : Shared) (σ : St) (H : Hp) (R : It → Hp → Prop), Inv X pins σ H s → wi σ H R →
    wpAny (model X.prog X.w) X.A (eval iter X.env) (fun v s1 => wpAny (model X.prog X.w) X.A (pyIter v) (PIE X pins σ tg R) X.xe s1) X.xe s
theorem go_of {M : Model} {A : Around} {E : Value → Shared → Prop} {s : Shared} {tg : Expr} {it : Addr} {u : Value} {o : Obj} {n : String} {vs : Array Value} {Q : Unit → Shared → Prop} (ho : s.heap.get? it = some o) (hc : o.cls = .type n) (hd : o.data = .fields vs)
    (hn : ["enumerate", "zip", "dict_itemiterator", "dict_reverseitemiterator", "odict_iterator", "itertools.zip_longest", "itertools.pairwise"].contains n = false) (hQ : Q () s) : wpAny M A (letOwnedTupleGo tg (.ref it) u) Q E s := by
  unfold letOwnedTupleGo
  cases tg <;> first
    | exact wpAny_pure hQ
    | (cases u <;> first
        | exact wpAny_pure hQ
        | (refine wpAny_bind (wpAny_load ho ?_)
           rw [hc, hd]
           show wpAny M A (if (["enumerate", "zip", "dict_itemiterator", "dict_reverseitemiterator", "odict_iterator", "itertools.zip_longest", "itertools.pairwise"].contains n && vs[0]? == some (rawInt _)) = true then _ else _) Q E s
           rw [if_neg (by intro h; rw [hn, Bool.false_and] at h; cases h)]
           exact wpAny_pure hQ))
noncomputable def Itl (K : PySem.W.Frag) (a : Addr) : It :=
  ⟨fun i H => ∃ xs x, SqL K H a xs ∧ xs[i]? = some x, fun i H x H' => H' = H ∧ ∀ xs, SqL K H a xs → xs[i]? = some x, fun i H => ∃ xs, SqL K H a xs ∧ xs.length ≤ i⟩
noncomputable def Itt (K : PySem.W.Frag) (a : Addr) : It :=
  ⟨fun i H => ∃ xs x, SqT K H a xs ∧ xs[i]? = some x, fun i H x H' => H' = H ∧ ∀ xs, SqT K H a xs → xs[i]? = some x, fun i H => ∃ xs, SqT K H a xs ∧ xs.length ≤ i⟩
noncomputable def Itr (lo : Int) (n : Nat) : It := ⟨fun i _ => i < n, fun i H x H' => H' = H ∧ x = .int (lo + i), fun i _ => n ≤ i⟩
theorem turn_list {P : Program} {w : World} {K : PySem.W.Frag} {tg : Expr} (a it : Addr) : Turn P w K tg (Itl K a) [it] it (fun i h => h.IsListIter it a i) where
  mem := by simp
  obj := fun i h st b hb => by
    have e : b = it := by simpa using hb
    subst e
    obtain ⟨o, e, c, d⟩ := st
    exact ⟨o, e, fun v z => by rw [d] at z; cases z⟩
  keep := fun i h h' st k => st.at fun o e => k it (by simp) o e
  item := by
    intro X hP hw hK hc i pins s σ H E I hf st hg
    subst hP hw hK
    obtain ⟨xs, x, hq, hx⟩ := hg
    obtain ⟨its, rv, p, hz⟩ := I.list hq
    obtain ⟨u, hu, ru⟩ := rv.get hx
    obtain ⟨f0, f1, f2, f3, f4, f5⟩ := hf it (by simp)
    refine wpAny_pyNext_list_item st p.isList (x := u) (by simpa using hu) fun h' st' sb => ?_
    have I1 : Inv X pins σ H { s with heap := h' } := I.turned (t' := s.toks) (fun b o hb e => (sb.2 b hb).trans e) f0 f1 f3 f4 f5
    obtain ⟨o, e, c, d⟩ := id st'
    exact ⟨u, rfl, go_of (s := { s with heap := h' }) e c d (by decide) ⟨x, H, I1, ru, ⟨rfl, fun ys hy => by rw [I.list_inj hy hq]; exact hx⟩, st', fun b hb => (hf b hb).1⟩⟩
  done := by
    intro X hP hw hK hc i pins s σ H E I hf st hg
    subst hP hw hK
    obtain ⟨xs, hq, hx⟩ := hg
    obtain ⟨its, rv, p, hz⟩ := I.list hq
    obtain ⟨f0, f1, f2, f3, f4, f5⟩ := hf it (by simp)
    have hl := rv.length
    exact wpAny_pyNext_list_end (I.ok.hd hc) st p.isList (by simp; omega) fun h' eb => ⟨rfl, I.turned (t' := s.toks) (fun b o hb e => eb b o hb e) f0 f1 f3 f4 f5⟩
  self := fun _ _ _ _ _ st h => wpAny_pyIter_listiter st h
theorem turn_tuple {P : Program} {w : World} {K : PySem.W.Frag} {tg : Expr} (a it : Addr) : Turn P w K tg (Itt K a) [it] it (fun i h => h.IsTupleIter it a i) where
  mem := by simp
  obj := fun i h st b hb => by
    have e : b = it := by simpa using hb
    subst e
    obtain ⟨o, e, c, d⟩ := st
    exact ⟨o, e, fun v z => by rw [d] at z; cases z⟩
  keep := fun i h h' st k => st.at fun o e => k it (by simp) o e
  item := by
    intro X hP hw hK hc i pins s σ H E I hf st hg
    subst hP hw hK
    obtain ⟨xs, x, hq, hx⟩ := hg
    obtain ⟨its, rv, p, hz⟩ := I.tuple hq
    obtain ⟨u, hu, ru⟩ := rv.get hx
    obtain ⟨f0, f1, f2, f3, f4, f5⟩ := hf it (by simp)
    refine wpAny_pyNext_tuple_item st (show s.heap.IsTuple a its.toArray from p) (x := u) (by simpa using hu) fun h' st' sb => ?_
    have I1 : Inv X pins σ H { s with heap := h' } := I.turned (t' := s.toks) (fun b o hb e => (sb.2 b hb).trans e) f0 f1 f3 f4 f5
    obtain ⟨o, e, c, d⟩ := id st'
    exact ⟨u, rfl, go_of (s := { s with heap := h' }) e c d (by decide) ⟨x, H, I1, ru, ⟨rfl, fun ys hy => by rw [I.tuple_inj hy hq]; exact hx⟩, st', fun b hb => (hf b hb).1⟩⟩
  done := by
    intro X hP hw hK hc i pins s σ H E I hf st hg
    subst hP hw hK
    obtain ⟨xs, hq, hx⟩ := hg
    obtain ⟨its, rv, p, hz⟩ := I.tuple hq
    obtain ⟨f0, f1, f2, f3, f4, f5⟩ := hf it (by simp)
    have hl := rv.length
    exact wpAny_pyNext_tuple_end (I.ok.hd hc) st (show s.heap.IsTuple a its.toArray from p) (by simp; omega) fun h' eb => ⟨rfl, I.turned (t' := s.toks) (fun b o hb e => eb b o hb e) f0 f1 f3 f4 f5⟩
  self := fun _ _ _ _ _ st h => wpAny_pyIter_tupleiter st h
theorem turn_range {P : Program} {w : World} {K : PySem.W.Frag} {tg : Expr} (it : Addr) (lo : Int) (n : Nat) : Turn P w K tg (Itr lo n) [it] it (fun i h => IsRangeIter h it (lo + (i : Nat) * 1) ((n : Int) - (i : Nat)) 1) where
  mem := by simp
  obj := fun i h st b hb => by
    have e : b = it := by simpa using hb
    subst e
    exact ⟨_, st, fun v z => by
      have z' : Data.fields _ = Data.cell v := z
      cases z'⟩
  keep := fun i h h' st k => k it (by simp) _ st
  item := by
    intro X hP hw hK hc i pins s σ H E I hf st hg
    subst hP hw hK
    obtain ⟨f0, f1, f2, f3, f4, f5⟩ := hf it (by simp)
    have W := Walks.range (prog := X.prog) (w := X.w) (I.ok.hd hc) it lo 1 n
    refine W.item i s _ _ hg st fun v h' tk hv st' kk => ?_
    obtain ⟨t, rfl⟩ := hv
    have I1 : Inv X pins σ H { s with heap := h', toks := tk } := I.turned (fun b o hb e => kk b o (by simpa using hb) e) f0 f1 f3 f4 f5
    refine ⟨_, rfl, go_of (s := { s with heap := h', toks := tk }) (n := "range_iterator") st' rfl rfl (by decide) ⟨.int (lo + i), H, I1, ⟨t, ?_⟩, ⟨rfl, rfl⟩, st', fun b hb => (hf b hb).1⟩⟩
    rw [Int.mul_one]
  done := by
    intro X hP hw hK hc i pins s σ H E I hf st hg
    subst hP hw hK
    obtain ⟨f0, f1, f2, f3, f4, f5⟩ := hf it (by simp)
    exact wpAny_pyNext_range_end (I.ok.hd hc) st (by have : n ≤ i := hg; omega) fun h' eb => ⟨rfl, I.turned (t' := s.toks) (fun b o hb e => eb b o hb e) f0 f1 f3 f4 f5⟩
  self := fun _ _ _ _ _ st h => wpAny_pyIter_rangeiter st h
end L2
namespace L2
open PySem PySem.Spec PyProof.Rows
section
variable {X : Cx} {tg : Expr}
theorem range_it {pins : List (Addr × Obj)} {σ : St} {H : Hp} {s : Shared} {R : It → Hp → Prop} {E : Value → Shared → Prop} {lo hi : Int} {t u v : Tok} {tk : Nat} (I : Inv X pins σ H s) (h1 : -(2 ^ 62) ≤ lo) (h2 : lo < 2 ^ 62) (h3 : -(2 ^ 62) ≤ hi) (h4 : hi < 2 ^ 62)
    (q : R (Itr lo (hi - lo).toNat) H) : wpAny (model X.prog X.w) X.A (pyIter (.ref s.heap.objs.size)) (PIE X pins σ tg R) E { s with heap := s.heap.push { cls := .type "range", data := .fields #[.int lo t, .int hi u, .int 1 v] }, toks := tk } := by
  refine wpAny_pyIter_range (IsRange.new ..) (small_one h1 h2 h3 h4) ?_
  have I1 : Inv X pins σ H { s with heap := s.heap.push { cls := .type "range", data := .fields #[.int lo t, .int hi u, .int 1 v] }, toks := tk } := I.kept fun b o e => Heap.get?_push_of_some _ e
  refine ⟨(s.heap.push { cls := .type "range", data := .fields #[.int lo t, .int hi u, .int 1 v] }).objs.size, [(s.heap.push { cls := .type "range", data := .fields #[.int lo t, .int hi u, .int 1 v] }).objs.size], _, _, H, rfl,
    I1.kept (t' := tk) fun b o e => Heap.get?_push_of_some _ e, turn_range _ lo (hi - lo).toNat, ?_, fun b hb => ?_, q⟩
  · have e1 : lo + ((0 : Nat) : Int) * 1 = lo := by simp
    have e2 : (((hi - lo).toNat : Nat) : Int) - ((0 : Nat) : Int) = Builtin.Range.rangeSize lo hi 1 := by rw [rangeSize_one]; split <;> omega
    show IsRangeIter _ _ (lo + ((0 : Nat) : Int) * 1) ((((hi - lo).toNat : Nat) : Int) - ((0 : Nat) : Int)) 1
    rw [e1, e2]
    exact Heap.get?_push_size _ rfl
  · have e : b = (s.heap.push { cls := .type "range", data := .fields #[.int lo t, .int hi u, .int 1 v] }).objs.size := by simpa using hb
    subst e
    exact I1.fpOk (Nat.le_refl _) (I1.hok.fresh (Nat.le_refl _))
noncomputable def iRng1 (ta : TA) : TI := fun σ H R => ta σ H fun vs H1 => ∃ j : Int, vs = [.int j] ∧ -(2 ^ 62) ≤ j ∧ j < 2 ^ 62 ∧ R (Itr 0 j.toNat) H1
theorem pi_range1 {a : Expr} {ta : TA} {p pos : Pos} (hg : Gl X "range") (hm : X.mg "range" = none) (ha : PA X [a] ta) (hs : starEach [a] X.env = [(false, eval a X.env)] := by rfl) : PI X tg (.Call (.Name "range" p) [a] [] pos) (iRng1 ta) := by
  intro pins s σ H R I h
  refine Call_ (ld_blt I hg hm boot_range (PyProof.Rows.callWith_type1 (thn (ha pos pins s σ H _ I h) fun us s1 zr1278 => ?_) hs rfl))
  obtain ⟨vs, H1, I1, r1, q1⟩ := zr1278
  obtain ⟨j, e, q1, q2, q⟩ := q1
  subst e
  cases r1 with
  | cons r rr =>
    cases rr
    obtain ⟨t, rfl⟩ := r
    exact call_range_1 (range_it I1 (by omega) (by omega) q1 q2 (by simpa using q))
noncomputable def tFor (wi : TI) (g : TG) (tb : TS) : TS := fun D σ H => wi σ H fun J H1 => ∃ W : Nat → Nat → St → Hp → Prop, (∃ m, W 0 m σ H1) ∧ ∀ i m σ H, W i m σ H →
  (J.stop i H ∧ D.nx σ H) ∨ (J.go i H ∧ ∃ N : St → Hp → Prop, (∀ σ' H', N σ' H' → ∃ m', m' < m ∧ W (i + 1) m' σ' H') ∧ ∀ x H', J.yld i H x H' → g x σ H' fun σ2 H2 => tb { D with nx := N, ct := N, bk := D.nx } σ2 H2)
noncomputable def pinsAt (fp : List Addr) (h : Heap) : List (Addr × Obj) := fp.filterMap fun b => (h.get? b).map fun o => (b, o)
theorem mem_pinsAt {fp : List Addr} {h : Heap} {b : Addr} {o : Obj} (hb : b ∈ fp) (e : h.get? b = some o) : (b, o) ∈ pinsAt fp h := List.mem_filterMap.mpr ⟨b, hb, by rw [e]; rfl⟩
theorem of_pinsAt {fp : List Addr} {h : Heap} {p : Addr × Obj} (hp : p ∈ pinsAt fp h) : p.1 ∈ fp ∧ h.get? p.1 = some p.2 := by
  obtain ⟨b, hb, e⟩ := List.mem_filterMap.mp hp
  cases q : h.get? b with
  | none => rw [q] at e; cases e
  | some o =>
    rw [q] at e
    have e' : (b, o) = p := Option.some.inj e
    subst e'
    exact ⟨hb, q⟩
theorem Inv.pinned {pins : List (Addr × Obj)} {σ : St} {H : Hp} {s : Shared} {fp : List Addr} (I : Inv X pins σ H s) (hf : ∀ b ∈ fp, FpOk X pins H b) (ho : ∀ b ∈ fp, ∃ o, s.heap.get? b = some o ∧ ∀ v, o.data ≠ .cell v) : Inv X (pins ++ pinsAt fp s.heap) σ H s :=
  I.pins_of fun p hp => (List.mem_append.mp hp).elim (fun z => I.pin p (List.mem_append_right _ z)) fun z => by
    obtain ⟨hb, e⟩ := of_pinsAt z
    obtain ⟨f0, f1, f2, _⟩ := hf p.1 hb
    obtain ⟨o, e', d⟩ := ho p.1 hb
    rw [e] at e'; cases e'
    exact ⟨e, f0, f1, f2, d⟩
theorem Inv.unpinned {pins pl : List (Addr × Obj)} {σ : St} {H : Hp} {s : Shared} (I : Inv X (pins ++ pl) σ H s) : Inv X pins σ H s := I.pins_of fun p hp => I.pin p (List.mem_append_right _ (List.mem_append_left _ hp))
theorem ps_for {iter : Expr} {body : List Stmt} {wi : TI} {g : TG} {tb : TS} {pos : Pos} (hp : PassesOwn (model X.prog X.w) X.A X.env X.xe) (hc : X.calm = true) (hi : PI X tg iter wi) (hg : PG X tg g) (hb : PSs X body tb)
    (hs : ∀ x, foldedSetIterable iter X.env x = pure x := by intro _; rfl) : PS X (.For tg iter body [] pos) (tFor wi g tb) := by
  intro pins s σ H D I h
  refine wpAny_For (thn (hi pins s σ H _ I h) fun v s1 h1 => thn h1 fun itv s2 h2 => ?_) hs
  obtain ⟨it, fp, tn, J, H2, e, I2, T, st2, f2, W, ⟨m0, w0⟩, turn⟩ := h2
  subst e
  -- what stays true of the iterator's objects through the loop
  have stat : ∀ {H' : Hp}, (∀ b ∈ fp, H' b = none) → ∀ b ∈ fp, FpOk X pins H' b := fun hn b hb => ⟨hn b hb, (f2 b hb).2⟩
  refine codeAny_forLoop_any (fun n s' => ∃ i σ' H', Inv X pins σ' H' s' ∧ tn i s'.heap ∧ (∀ b ∈ fp, H' b = none) ∧ W i n σ' H') ?_ m0 ⟨0, σ, H2, I2, st2, fun b hb => (f2 b hb).1, w0⟩
  rintro n s3 ⟨i, σ3, H3, I3, st3, fr3, w3⟩
  rcases turn i n σ3 H3 w3 with ⟨stop, qn⟩ | ⟨go, N, hN, step⟩
  · refine wpAny_passesOwn hp (thn (T.done X rfl rfl rfl hc i pins s3 σ3 H3 X.xe I3 (stat fr3) st3 stop) fun r s4 zr1318 => ?_)
    obtain ⟨hr, I4⟩ := zr1318
    subst hr
    exact wpAny_execs_nil ⟨σ3, H3, I4, qn⟩
  · refine wpAny_passesOwn hp (thn (T.item X rfl rfl rfl hc i pins s3 σ3 H3 X.xe I3 (stat fr3) st3 go) fun r s4 zr1321 => ?_)
    obtain ⟨u, hr, h4⟩ := zr1321
    subst hr
    refine wpAny_passesOwn hp (thn h4 fun _ s5 zr1323 => ?_)
    obtain ⟨x, H5, I5, r5, y5, st5, fr5⟩ := zr1323
    have I5' := I5.pinned (stat fr5) (T.obj _ _ st5)
    refine wpAny_passesOwn hp (thn (hg _ s5 σ3 H5 x u _ I5' r5 (step x H5 y5)) fun _ s6 zr1325 => ?_)
    obtain ⟨σ6, H6, I6, q6⟩ := zr1325
    refine wpAny_passesOwn hp (thn (hb _ s6 σ6 H6 _ I6 q6) fun f s7 q7 => ?_)
    have again : ∀ {σ7 : St} {H7 : Hp}, Inv X (pins ++ pinsAt fp s5.heap) σ7 H7 s7 → N σ7 H7 → ∃ m, m < n ∧ ∃ i σ' H', Inv X pins σ' H' s7 ∧ tn i s7.heap ∧ (∀ b ∈ fp, H' b = none) ∧ W i m σ' H' := fun {σ7 H7} I7 n7 => by
      obtain ⟨m', hm, w7⟩ := hN σ7 H7 n7
      refine ⟨m', hm, i + 1, σ7, H7, I7.unpinned, T.keep _ _ _ st5 fun b hb o e => (I7.pin (b, o) (List.mem_append_right _ (List.mem_append_right _ (mem_pinsAt hb e)))).1, fun b hb => ?_, w7⟩
      obtain ⟨o, e, d⟩ := T.obj _ _ st5 b hb
      exact (I7.pin (b, o) (List.mem_append_right _ (List.mem_append_right _ (mem_pinsAt hb e)))).2.1
    cases f with
    | next => obtain ⟨σ7, H7, I7, n7⟩ := q7; exact again I7 n7
    | cont => obtain ⟨σ7, H7, I7, n7⟩ := q7; exact again I7 n7
    | brk => obtain ⟨σ7, H7, I7, q7⟩ := q7; exact ⟨σ7, H7, I7.unpinned, q7⟩
    | ret v => obtain ⟨x7, σ7, H7, I7, r7, q7⟩ := q7; exact ⟨x7, σ7, H7, I7.unpinned, r7, q7⟩
end
end L2
namespace L2
open PySem PySem.Spec PyProof.Rows
noncomputable abbrev R2 := V → V → Hp → VK → Prop
noncomputable def OpR (X : Cx) (f : Value → Value → Sem Value) (r : R2) : Prop :=
  ∀ (pins : List (Addr × Obj)) (s : Shared) (σ : St) (H : Hp) (x y : V) (v u : Value) (Q : VK), Inv X pins σ H s → RelV x v → RelV y u → r x y H Q →
    wpAny (model X.prog X.w) X.A (f v u) (EP X pins σ Q) X.xe s
noncomputable def UnR (X : Cx) (f : Value → Sem Value) (r : V → Hp → VK → Prop) : Prop :=
  ∀ (pins : List (Addr × Obj)) (s : Shared) (σ : St) (H : Hp) (x : V) (v : Value) (Q : VK), Inv X pins σ H s → RelV x v → r x H Q →
    wpAny (model X.prog X.w) X.A (f v) (EP X pins σ Q) X.xe s
noncomputable def CallR (X : Cx) (f : Value) (r : List V → Hp → VK → Prop) : Prop :=
  ∀ (pins : List (Addr × Obj)) (s : Shared) (σ : St) (H : Hp) (xs : List V) (us : List Value) (Q : VK), Inv X pins σ H s → Vals xs us → r xs H Q →
    wpAny (model X.prog X.w) X.A (call f us) (EP X pins σ Q) X.xe s
noncomputable def tOp (r : R2) (ta tb : TE) : TE := fun σ H Q => ta σ H fun x H1 => tb σ H1 fun y H2 => r x y H2 Q
noncomputable def tUn (r : V → Hp → VK → Prop) (ta : TE) : TE := fun σ H Q => ta σ H fun x H1 => r x H1 Q
noncomputable def rI (C : Int → Int → Prop) (g : Int → Int → V) : R2 := fun x y H Q => ∃ i j, x = .int i ∧ y = .int j ∧ C i j ∧ Q (g i j) H
noncomputable def rI0 (g : Int → Int → V) : R2 := fun x y H Q => ∃ i j, x = .int i ∧ y = .int j ∧ Q (g i j) H
noncomputable def rU (g : Int → V) : V → Hp → VK → Prop := fun x H Q => ∃ i, x = .int i ∧ Q (g i) H
section
variable {X : Cx} {a b c : Expr} {ta tb tc : TE} {pos : Pos}
theorem binT (ha : PE X a ta) (hb : PE X b tb) {pins : List (Addr × Obj)} {s : Shared} {σ : St} {H : Hp} {R : V → V → Hp → Prop} (I : Inv X pins σ H s)
    (h : ta σ H fun x H1 => tb σ H1 fun y H2 => R x y H2) {Q : Value → Shared → Prop} {f : Value → Value → Sem Value}
    (hf : ∀ v u s2 x y H2, Inv X pins σ H2 s2 → RelV x v → RelV y u → R x y H2 → wpAny (model X.prog X.w) X.A (f v u) Q X.xe s2) :
    wpAny (model X.prog X.w) X.A (eval a X.env) (fun v s₁ => wpAny (model X.prog X.w) X.A (eval b X.env) (fun u s₂ => wpAny (model X.prog X.w) X.A (f v u) Q X.xe s₂) X.xe s₁) X.xe s := by
  refine thn (ha pins s σ H _ I h) fun v s1 zr1362 => ?_
  obtain ⟨x, H1, I1, r1, q1⟩ := zr1362
  refine thn (hb pins s1 σ H1 _ I1 q1) fun u s2 zr1363 => ?_
  obtain ⟨y, H2, I2, r2, q2⟩ := zr1363
  exact hf v u s2 x y H2 I2 r1 r2 q2
theorem pe_op {op : Operator} {r : R2} (ho : OpR X (binaryOp op) r) (ha : PE X a ta) (hb : PE X b tb) : PE X (.BinOp a op b pos) (tOp r ta tb) := by
  intro pins s σ H Q I h
  exact wpAny_BinOp (binT ha hb I h fun v u s2 x y H2 I2 rx ry q => ho pins s2 σ H2 x y v u Q I2 rx ry q)
theorem pe_un {op : UnaryOp} {r : V → Hp → VK → Prop} (ho : UnR X (unaryOp op) r) (ha : PE X a ta) : PE X (.UnaryOp op a pos) (tUn r ta) := by
  intro pins s σ H Q I h
  exact UnaryOp_ (thn (ha pins s σ H _ I h) fun v s1 zq2 => by obtain ⟨x, H1, I1, r1, q1⟩ := zq2; exact (ho pins s1 σ H1 x v Q I1 r1 q1))
theorem opI {f : Value → Value → Sem Value} {C : Int → Int → Prop} {g : Int → Int → Int}
    (rule : ∀ (i j : Int) (t u : Tok) (s : Shared) (Q : Value → Shared → Prop) (E : Value → Shared → Prop), C i j → Q (.int (g i j) s.toks) { s with toks := s.toks + 1 } → wpAny (model X.prog X.w) X.A (f (.int i t) (.int j u)) Q E s) :
    OpR X f (rI C fun i j => .int (g i j)) := by
  intro pins s σ H x y v u Q I rx ry h
  obtain ⟨i, j, rfl, rfl, hc, q⟩ := h
  obtain ⟨t, rfl⟩ := rx
  obtain ⟨t', rfl⟩ := ry
  exact rule i j t t' s _ _ hc ⟨.int (g i j), H, I.tok _, ⟨_, rfl⟩, q⟩
theorem opI0 {f : Value → Value → Sem Value} {g : Int → Int → Int}
    (rule : ∀ (i j : Int) (t u : Tok) (s : Shared) (Q : Value → Shared → Prop) (E : Value → Shared → Prop), Q (.int (g i j) s.toks) { s with toks := s.toks + 1 } → wpAny (model X.prog X.w) X.A (f (.int i t) (.int j u)) Q E s) :
    OpR X f (rI0 fun i j => .int (g i j)) := by
  intro pins s σ H x y v u Q I rx ry h
  obtain ⟨i, j, rfl, rfl, q⟩ := h
  obtain ⟨t, rfl⟩ := rx
  obtain ⟨t', rfl⟩ := ry
  exact rule i j t t' s _ _ ⟨.int (g i j), H, I.tok _, ⟨_, rfl⟩, q⟩
theorem opB0 {f : Value → Value → Sem Value} {g : Int → Int → Bool}
    (rule : ∀ (i j : Int) (t u : Tok) (s : Shared) (Q : Value → Shared → Prop) (E : Value → Shared → Prop), Q (.bool (g i j)) s → wpAny (model X.prog X.w) X.A (f (.int i t) (.int j u)) Q E s) :
    OpR X f (rI0 fun i j => .bl (g i j)) := by
  intro pins s σ H x y v u Q I rx ry h
  obtain ⟨i, j, rfl, rfl, q⟩ := h
  obtain ⟨t, rfl⟩ := rx
  obtain ⟨t', rfl⟩ := ry
  exact rule i j t t' s _ _ ⟨.bl (g i j), H, I, rfl, q⟩
noncomputable def CPow (i j : Int) : Prop := 0 ≤ j ∧ j ≤ 1000000 ∧ i.natAbs < 2 ^ 64
noncomputable def CMul (i j : Int) : Prop := (-(2 ^ 64) < i ∧ i < 2 ^ 64) ∨ (-(2 ^ 64) < j ∧ j < 2 ^ 64)
theorem CMul.ok {i j : Int} (h : CMul i j) : IntMulOk i j := by
  rcases h with ⟨h1, h2⟩ | ⟨h1, h2⟩
  · exact .of_left (intBits_le_64 h1 h2)
  · exact .of_right (intBits_le_64 h1 h2)
theorem op_add : OpR X (binaryOp .Add) (rI0 fun i j => .int (i + j)) := opI0 fun _ _ _ _ _ _ _ q => add_int q
theorem op_sub : OpR X (binaryOp .Sub) (rI0 fun i j => .int (i - j)) := opI0 fun _ _ _ _ _ _ _ q => sub_int q
theorem op_mul : OpR X (binaryOp .Mult) (rI CMul fun i j => .int (i * j)) := opI fun _ _ _ _ _ _ _ hc q => mul_int q hc.ok
theorem op_mod : OpR X (binaryOp .Mod) (rI (fun _ j => 0 < j) fun i j => .int (i % j)) := opI fun i j _ _ _ _ _ hc q => by
  have h1 : (0 : Int) < j := hc
  exact mod_int' (by omega) (by rw [Int.fmod_eq_emod_of_nonneg i (by omega)]; exact q)
theorem op_pow : OpR X (binaryOp .Pow) (rI CPow fun i j => .int (i ^ j.toNat)) := opI fun _ _ _ _ _ _ _ hc q => pow_int_small hc.1 hc.2.1 hc.2.2 q
theorem unI {f : Value → Sem Value} {g : Int → Int}
    (rule : ∀ (i : Int) (t : Tok) (s : Shared) (Q : Value → Shared → Prop) (E : Value → Shared → Prop), Q (.int (g i) s.toks) { s with toks := s.toks + 1 } → wpAny (model X.prog X.w) X.A (f (.int i t)) Q E s) :
    UnR X f (rU fun i => .int (g i)) := by
  intro pins s σ H x v Q I rx h
  obtain ⟨i, rfl, q⟩ := h
  obtain ⟨t, rfl⟩ := rx
  exact rule i t s _ _ ⟨.int (g i), H, I.tok _, ⟨_, rfl⟩, q⟩
theorem un_neg : UnR X (unaryOp .USub) (rU fun i => .int (-i)) := unI fun _ _ _ _ _ q => neg_int q
end
noncomputable def scal : V → V → Bool
  | .non, .non => true | .non, .int _ => true | .int _, .non => true | .non, .bl _ => true | .bl _, .non => true | .non, .str _ => true | .str _, .non => true
  | .int _, .int _ => true | .bl _, .bl _ => true | .str _, .str _ => true | .byt _, .byt _ => true
  | .int _, .str _ => true | .str _, .int _ => true | .bl _, .str _ => true | .str _, .bl _ => true
  | _, _ => false
noncomputable def rEq : R2 := fun x y H Q => scal x y = true ∧ Q (.bl (decide (x = y))) H
noncomputable def rNe : R2 := fun x y H Q => scal x y = true ∧ Q (.bl (!decide (x = y))) H
theorem dec_int {i j : Int} : decide (V.int i = V.int j) = (i == j) := by
  rw [Bool.eq_iff_iff]
  simp
theorem dec_bl {i j : Bool} : decide (V.bl i = V.bl j) = (i == j) := by
  rw [Bool.eq_iff_iff]
  simp
theorem dec_str {i j : Str} : decide (V.str i = V.str j) = (i == j) := by
  rw [Bool.eq_iff_iff]
  simp
theorem dec_byt {i j : Array UInt8} : decide (V.byt i = V.byt j) = (i.toList == j.toList) := by
  rw [Bool.eq_iff_iff]
  cases i
  cases j
  simp
section
variable {X : Cx} {a b c : Expr} {ta tb tc : TE} {pos : Pos}
theorem fin_bl {pins : List (Addr × Obj)} {σ : St} {H : Hp} {s : Shared} {Q : VK} {k k' : Bool} (I : Inv X pins σ H s) (q : Q (.bl k) H) (e : k = k') : EP X pins σ Q (.bool k') s := by
  subst e
  exact ⟨.bl k, H, I, rfl, q⟩
theorem op_eq : OpR X (compareOp .Eq) rEq := by
  intro pins s σ H x y v u Q I rx ry h
  obtain ⟨hs, q⟩ := h
  cases x with
  | non =>
    cases rx
    cases y with
    | non => cases ry; exact PySem.EqNone.eq_none_none (fin_bl I q (by simp))
    | bl j => cases ry; exact PySem.EqNone.eq_none_bool (fin_bl I q (by simp))
    | int j => obtain ⟨t', rfl⟩ := ry; exact PySem.EqNone.eq_none_int (fin_bl I q (by simp))
    | str j => obtain ⟨t', rfl⟩ := ry; exact PySem.EqNone.eq_none_str (fin_bl I q (by simp))
    | _ => exact absurd (show false = true from hs) Bool.false_ne_true
  | bl i =>
    cases rx
    cases y with
    | non => cases ry; exact PySem.EqNone.eq_bool_none (fin_bl I q (by simp))
    | bl j => cases ry; exact eq_bool (fin_bl I q dec_bl)
    | str j => obtain ⟨t', rfl⟩ := ry; exact PySem.EqMixed.eq_bool_str (fin_bl I q (by simp))
    | _ => exact absurd (show false = true from hs) Bool.false_ne_true
  | int i =>
    obtain ⟨t, rfl⟩ := rx
    cases y with
    | non => cases ry; exact PySem.EqNone.eq_int_none (fin_bl I q (by simp))
    | int j => obtain ⟨t', rfl⟩ := ry; exact eq_int (fin_bl I q dec_int)
    | str j => obtain ⟨t', rfl⟩ := ry; exact PySem.EqMixed.eq_int_str (fin_bl I q (by simp))
    | _ => exact absurd (show false = true from hs) Bool.false_ne_true
  | str i =>
    obtain ⟨t, rfl⟩ := rx
    cases y with
    | non => cases ry; exact PySem.EqNone.eq_str_none (fin_bl I q (by simp))
    | bl j => cases ry; exact PySem.EqMixed.eq_str_bool (fin_bl I q (by simp))
    | int j => obtain ⟨t', rfl⟩ := ry; exact PySem.EqMixed.eq_str_int (fin_bl I q (by simp))
    | str j => obtain ⟨t', rfl⟩ := ry; exact eq_str (fin_bl I q dec_str)
    | _ => exact absurd (show false = true from hs) Bool.false_ne_true
  | byt i =>
    obtain ⟨t, rfl⟩ := rx
    cases y with
    | byt j => obtain ⟨t', rfl⟩ := ry; exact PySem.W.eq_bytes (fin_bl I q dec_byt)
    | _ => exact absurd (show false = true from hs) Bool.false_ne_true
  | _ => cases y <;> exact absurd (show false = true from hs) Bool.false_ne_true
theorem op_ne : OpR X (compareOp .NotEq) rNe := by
  intro pins s σ H x y v u Q I rx ry h
  obtain ⟨hs, q⟩ := h
  cases x with
  | non =>
    cases rx
    cases y with
    | non => cases ry; exact PySem.EqNone.ne_none_none (fin_bl I q (by simp))
    | bl j => cases ry; exact PySem.EqNone.ne_none_bool (fin_bl I q (by simp))
    | int j => obtain ⟨t', rfl⟩ := ry; exact PySem.EqNone.ne_none_int (fin_bl I q (by simp))
    | str j => obtain ⟨t', rfl⟩ := ry; exact PySem.EqNone.ne_none_str (fin_bl I q (by simp))
    | _ => exact absurd (show false = true from hs) Bool.false_ne_true
  | bl i =>
    cases rx
    cases y with
    | non => cases ry; exact PySem.EqNone.ne_bool_none (fin_bl I q (by simp))
    | bl j => cases ry; exact ne_bool (fin_bl I q (congrArg not dec_bl))
    | str j => obtain ⟨t', rfl⟩ := ry; exact PySem.EqMixed.ne_bool_str (fin_bl I q (by simp))
    | _ => exact absurd (show false = true from hs) Bool.false_ne_true
  | int i =>
    obtain ⟨t, rfl⟩ := rx
    cases y with
    | non => cases ry; exact PySem.EqNone.ne_int_none (fin_bl I q (by simp))
    | int j => obtain ⟨t', rfl⟩ := ry; exact ne_int (fin_bl I q (congrArg not dec_int))
    | str j => obtain ⟨t', rfl⟩ := ry; exact PySem.EqMixed.ne_int_str (fin_bl I q (by simp))
    | _ => exact absurd (show false = true from hs) Bool.false_ne_true
  | str i =>
    obtain ⟨t, rfl⟩ := rx
    cases y with
    | non => cases ry; exact PySem.EqNone.ne_str_none (fin_bl I q (by simp))
    | bl j => cases ry; exact PySem.EqMixed.ne_str_bool (fin_bl I q (by simp))
    | int j => obtain ⟨t', rfl⟩ := ry; exact PySem.EqMixed.ne_str_int (fin_bl I q (by simp))
    | str j => obtain ⟨t', rfl⟩ := ry; exact ne_str (fin_bl I q (congrArg not dec_str))
    | _ => exact absurd (show false = true from hs) Bool.false_ne_true
  | byt i =>
    obtain ⟨t, rfl⟩ := rx
    cases y with
    | byt j => obtain ⟨t', rfl⟩ := ry; exact PySem.W.ne_bytes (fin_bl I q (congrArg not dec_byt))
    | _ => exact absurd (show false = true from hs) Bool.false_ne_true
  | _ => cases y <;> exact absurd (show false = true from hs) Bool.false_ne_true
theorem op_lt : OpR X (compareOp .Lt) (rI0 fun i j => .bl (decide (i < j))) := opB0 fun _ _ _ _ _ _ _ q => lt_int q
theorem op_le : OpR X (compareOp .LtE) (rI0 fun i j => .bl (decide (i ≤ j))) := opB0 fun _ _ _ _ _ _ _ q => le_int q
theorem op_gt : OpR X (compareOp .Gt) (rI0 fun i j => .bl (decide (j < i))) := opB0 fun _ _ _ _ _ _ _ q => gt_int q
theorem op_in_str : OpR X (compareOp .In) (fun x y H Q => ∃ i j, x = .str i ∧ y = .str j ∧ Q (.bl (!(Builtin.Str.occurrences j i 0 j.length 1).isEmpty)) H) := by
  intro pins s σ H x y v u Q I rx ry h
  obtain ⟨i, j, rfl, rfl, q⟩ := h
  obtain ⟨t, rfl⟩ := rx
  obtain ⟨t', rfl⟩ := ry
  exact in_str (fin_bl I q rfl)
theorem nomark (b : Expr) {op : CmpOp} (h : op ≠ .In := by decide) (h2 : op ≠ .NotIn := by decide) : behindInMarks op b = false := by
  have e1 : (op == CmpOp.In) = false := by cases op <;> first | rfl | exact absurd rfl h
  have e2 : (op == CmpOp.NotIn) = false := by cases op <;> first | rfl | exact absurd rfl h2
  cases b <;> simp [behindInMarks, e1, e2]
theorem pe_cmpR {op : CmpOp} {r : R2} (ho : OpR X (compareOp op) r) (ha : PE X a ta) (hb : PE X b tb) (hm : behindInMarks op b = false) : PE X (.Compare a [op] [b] pos) (tOp r ta tb) := by
  intro pins s σ H Q I h
  exact wpAny_Compare1 (binT ha hb I h fun v u s2 x y H2 I2 rx ry q => ho pins s2 σ H2 x y v u Q I2 rx ry q) hm
noncomputable def tTest (t : TE) : TT := fun σ H Q => t σ H fun x H' => ∃ k, x = .bl k ∧ Q k H'
theorem pt_cmpR {op : CmpOp} {r : R2} (ho : OpR X (compareOp op) r) (ha : PE X a ta) (hb : PE X b tb) (hm : behindInMarks op b = false) : PT X (.Compare a [op] [b] pos) (tTest (tOp r ta tb)) := by
  intro pins s σ H Q I h
  refine wpAny_isTrue_Compare1 (thn (ha pins s σ H _ I h) fun v s1 ⟨x, H1, I1, r1, q1⟩ => thn (hb pins s1 σ H1 _ I1 q1) fun u s2 ⟨y, H2, I2, r2, q2⟩ =>
    thn (ho pins s2 σ H2 x y v u _ I2 r1 r2 q2) fun c s3 ⟨z, H3, I3, r3, k, e, q3⟩ => ?_) hm
  subst e
  cases r3
  exact wpAny_truthy_bool ⟨H3, I3, q3⟩
noncomputable def tChain (r r' : R2) (ta tb tc : TE) : TE := fun σ H Q => ta σ H fun x H1 => tb σ H1 fun y H2 => r x y H2 fun z H3 => ∃ k, z = .bl k ∧
  (if k = true then tc σ H3 fun w' H4 => r' y w' H4 Q else Q (.bl false) H3)
theorem pe_chain {op op' : CmpOp} {r r' : R2} (ho : OpR X (compareOp op) r) (ho' : OpR X (compareOp op') r') (ha : PE X a ta) (hb : PE X b tb) (hc : PE X c tc)
    (hm : lastMarks [op, op'] [b, c] = false := by with_unfolding_all rfl) : PE X (.Compare a [op, op'] [b, c] pos) (tChain r r' ta tb tc) := by
  intro pins s σ H Q I h
  refine Compare_chain (thn (ha pins s σ H _ I h) fun v s1 ⟨x, H1, I1, r1, q1⟩ => chain_link (thn (hb pins s1 σ H1 _ I1 q1) fun u s2 ⟨y, H2, I2, r2, q2⟩ =>
    thn (ho pins s2 σ H2 x y v u _ I2 r1 r2 q2) fun d s3 ⟨z, H3, I3, r3, k, e, q3⟩ => ?_)) hm
  subst e
  cases r3
  refine wpAny_truthy_bool ?_
  cases k with
  | false => exact ite_ff ⟨.bl false, H3, I3, rfl, q3⟩
  | true => exact ite_tt (chain_last (thn (hc pins s3 σ H3 _ I3 q3) fun w' s4 zq3 => by obtain ⟨z', H4, I4, r4, q4⟩ := zq3; exact (ho' pins s4 σ H4 y z' u w' Q I4 r2 r4 q4)))
theorem pt_chain {op op' : CmpOp} {r r' : R2} (ho : OpR X (compareOp op) r) (ho' : OpR X (compareOp op') r') (ha : PE X a ta) (hb : PE X b tb) (hc : PE X c tc)
    (hm : lastMarks [op, op'] [b, c] = false := by with_unfolding_all rfl) : PT X (.Compare a [op, op'] [b, c] pos) (tTest (tChain r r' ta tb tc)) := by
  intro pins s σ H Q I h
  refine isTrue_chain (thn (ha pins s σ H _ I h) fun v s1 ⟨x, H1, I1, r1, q1⟩ => test_link (thn (hb pins s1 σ H1 _ I1 q1) fun u s2 ⟨y, H2, I2, r2, q2⟩ =>
    thn (ho pins s2 σ H2 x y v u _ I2 r1 r2 q2) fun d s3 ⟨z, H3, I3, r3, k, e, q3⟩ => ?_)) hm
  subst e
  cases r3
  refine wpAny_truthy_bool ?_
  cases k with
  | false =>
    obtain ⟨k', e', q'⟩ := q3
    cases e'
    exact ite_ff ⟨H3, I3, q'⟩
  | true =>
    refine ite_tt (test_last (thn (hc pins s3 σ H3 _ I3 q3) fun w' s4 ⟨z', H4, I4, r4, q4⟩ => thn (ho' pins s4 σ H4 y z' u w' _ I4 r2 r4 q4) fun d' s5 zr1574 => ?_))
    obtain ⟨z2, H5, I5, r5, k2, e2, q5⟩ := zr1574
    subst e2
    cases r5
    exact wpAny_truthy_bool ⟨H5, I5, q5⟩
theorem line63 : (sizeLine : Nat) < 2 ^ 63 := by rw [sizeLine_eq]; decide
theorem op_add_str : OpR X (binaryOp .Add) (fun x y H Q => ∃ i j, x = .str i ∧ y = .str j ∧ i.length + j.length ≤ sizeLine ∧ Q (.str (i ++ j)) H) := by
  intro pins s σ H x y v u Q I rx ry h
  obtain ⟨i, j, rfl, rfl, hz, q⟩ := h
  obtain ⟨t, rfl⟩ := rx
  obtain ⟨t', rfl⟩ := ry
  exact add_str (fun t' tk => ⟨.str (i ++ j), H, I.tok _, ⟨_, rfl⟩, q⟩) hz
theorem vals1 {x : V} {us : List Value} (r : Vals [x] us) : ∃ u, us = [u] ∧ RelV x u := by
  cases r with
  | cons r1 r2 => cases r2; exact ⟨_, rfl, r1⟩
theorem vals2 {x y : V} {us : List Value} (r : Vals [x, y] us) : ∃ u w', us = [u, w'] ∧ RelV x u ∧ RelV y w' := by
  cases r with
  | cons r1 r2 =>
    cases r2 with
    | cons r3 r4 => cases r4; exact ⟨_, _, rfl, r1, r3⟩
theorem call_abs : CallR X (.builtin "abs") (fun xs H Q => ∃ i, xs = [.int i] ∧ Q (.int (if i < 0 then -i else i)) H) := by
  intro pins s σ H xs us Q I r h
  obtain ⟨i, rfl, q⟩ := h
  obtain ⟨u, rfl, t, rfl⟩ := vals1 r
  exact call_abs_int fun u tk => ⟨.int (if i < 0 then -i else i), H, I.tok _, ⟨_, rfl⟩, q⟩
theorem call_max2 (hc : X.calm = true) : CallR X (.builtin "max") (fun xs H Q => ∃ i j, xs = [.int i, .int j] ∧ Q (.int (if j > i then j else i)) H) := by
  intro pins s σ H xs us Q I r h
  obtain ⟨i, j, rfl, q⟩ := h
  obtain ⟨u, w', rfl, ⟨t, rfl⟩, ⟨t', rfl⟩⟩ := vals2 r
  refine max_two_ints (I.ok.hd hc) fun h' tk k => ⟨_, H, I.kept k, ?_, q⟩
  by_cases hj : j > i
  · rw [if_pos hj, if_pos hj]; exact ⟨_, rfl⟩
  · rw [if_neg hj, if_neg hj]; exact ⟨_, rfl⟩
theorem call_min2 (hc : X.calm = true) : CallR X (.builtin "min") (fun xs H Q => ∃ i j, xs = [.int i, .int j] ∧ Q (.int (if j < i then j else i)) H) := by
  intro pins s σ H xs us Q I r h
  obtain ⟨i, j, rfl, q⟩ := h
  obtain ⟨u, w', rfl, ⟨t, rfl⟩, ⟨t', rfl⟩⟩ := vals2 r
  refine min_two_ints (I.ok.hd hc) fun h' tk k => ⟨_, H, I.kept k, ?_, q⟩
  by_cases hj : j < i
  · rw [if_pos hj, if_pos hj]; exact ⟨_, rfl⟩
  · rw [if_neg hj, if_neg hj]; exact ⟨_, rfl⟩
theorem call_int1 : CallR X (.type "int") (fun xs H Q => (∃ i, xs = [.int i] ∧ Q (.int i) H) ∨ ∃ k, xs = [.bl k] ∧ Q (.int (if k then 1 else 0)) H) := by
  intro pins s σ H xs us Q I r h
  rcases h with ⟨i, rfl, q⟩ | ⟨k, rfl, q⟩
  · obtain ⟨u, rfl, t, rfl⟩ := vals1 r
    exact call_int_int ⟨.int i, H, I, ⟨_, rfl⟩, q⟩
  · obtain ⟨u, rfl, r1⟩ := vals1 r
    cases r1
    exact call_int_bool ⟨.int (if k then 1 else 0), H, I.tok _, ⟨_, rfl⟩, q⟩
theorem call_str_int : CallR X (.type "str") (fun xs H Q => ∃ i, xs = [.int i] ∧ i.natAbs.log2 < 1920 ∧ Q (.str (toString i)) H) := by
  intro pins s σ H xs us Q I r h
  obtain ⟨i, rfl, hz, q⟩ := h
  obtain ⟨u, rfl, t, rfl⟩ := vals1 r
  exact PySem.P.str_of_int hz ⟨.str _, H, I.tok _, ⟨_, rfl⟩, q⟩
end
end L2
namespace L2
open PySem PySem.Spec PyProof.Rows
structure ObjM (h : Heap) (x dx C : Addr) (mA : Str → Option Value) : Prop where
  obj : h.get? x = some (PySem.W.instObj C dx)
  ns : h.Ns1 dx mA
  ne : dx ≠ x
theorem lookIn_ns {h : Heap} {dx : Addr} {mA : Str → Option Value} (n : h.Ns1 dx mA) : ∃ od, h.get? dx = some od ∧ ∀ name, PySem.W.lookIn name od = some (mA name) := by
  obtain ⟨o, es, ep, ho, hd, hk, _, hm⟩ := n
  refine ⟨o, ho, fun name => ?_⟩
  have e := hm name
  unfold nsFind findBy at e
  rw [← Array.find?_toList] at e
  unfold PySem.W.lookIn
  rw [hd]
  dsimp only
  split
  · rename_i y q
    rw [q] at e
    exact congrArg some e
  · rename_i q
    rw [q] at e
    have a : es.toList.any (·.refKey) = false := by
      rw [List.any_eq_false]
      intro y hy
      obtain ⟨z, t, hkey⟩ := hk y (Array.mem_toList_iff.mp hy)
      simp [DictEntry.refKey, hkey]
    have a' : ¬ es.toList.any (·.refKey) = true := by rw [a]; exact Bool.false_ne_true
    rw [if_neg a']
    exact congrArg some e
theorem ObjM.look {h : Heap} {x dx C : Addr} {mA : Str → Option Value} (I : ObjM h x dx C mA) : ∃ od, PySem.W.InstAt h x (PySem.W.instObj C dx) C (some od) ∧ ∀ name, PySem.W.lookIn name od = some (mA name) :=
  let ⟨od, ho, hl⟩ := lookIn_ns I.ns
  ⟨od, ⟨I.obj, rfl, rfl, ho⟩, hl⟩
section
variable {prog : Program} {w : World} {A : Around} {E : Value → Shared → Prop} {s : Shared} {K : PySem.W.Frag} {x dx C f : Addr} {mA : Str → Option Value} {name : Str} {v : Value}
theorem get_map {expr : Bool} {Q : Value → Shared → Prop} (X : K.In s.heap) (I : ObjM s.heap x dx C mA) (hg : PySem.W.plainGet K C name = true) (hh : PySem.W.hasDictIn K C = true)
    (ha : PySem.W.findIn K (.ref C) name = some none) (hv : mA name = some v) (hv' : PySem.W.handedIn v = true) (h : Q v { s with toks := s.toks + 1 }) :
    wpAny (model prog w) A (getAttr (.ref x) name expr) Q E s := by
  obtain ⟨od, J, hl⟩ := I.look
  exact PySem.W.get_value X J (PySem.W.plainGet_of hg).1 (PySem.W.findObj_own hh ha rfl (by rw [hl, hv])) hv' h
theorem get_meth {pl : Sem Bool} {Q : Value × List Value → Shared → Prop} (X : K.In s.heap) (I : ObjM s.heap x dx C mA) (hg : PySem.W.plainGet K C name = true)
    (hf : PySem.W.findIn K (.ref C) name = some (some (.ref f))) (ht : PySem.W.isFn K (.ref f) = true) (hv : mA name = none) (h : Q (.ref f, [.ref x]) s) :
    wpAny (model prog w) A (getMethod (.ref x) name pl) Q E s := by
  obtain ⟨od, J, hl⟩ := I.look
  exact PySem.W.method_fn X J (PySem.W.plainGet_of hg).1 (PySem.W.plainGet_of hg).2 hf (beq_iff_eq.mp ht) (by show (PySem.W.lookIn name od).map (·.isSome) = some false; rw [hl, hv]; rfl) h
theorem set_map {ns : List Str} {Q : Unit → Shared → Prop} (X : K.In s.heap) (I : ObjM s.heap x dx C mA)
    (hs : PySem.W.findIn K (.ref C) "__setattr__" = some (some (.builtin "object.__setattr__"))) (hp : PySem.W.plainOver K C = true) (ht : PySem.W.takerIn K C name = some none) (hh : PySem.W.hasDictIn K C = true)
    (hw : PySem.Within mA ns) (hsz : ns.length ≤ sizeLine)
    (h : ∀ h', ObjM h' x dx C (fun y => if y = name then some v else mA y) → Heap.SameBut dx s.heap h' → Q () { s with heap := h', toks := s.toks + 2 }) :
    wpAny (model prog w) A (setAttr (.ref x) name v) Q E s := by
  obtain ⟨od, J, hl⟩ := I.look
  refine PySem.W.set_plain X J hs (PySem.W.osa_open (s := { s with toks := s.toks + 1 }) (r := none) X J hp ht fun b => ?_)
  obtain ⟨cd, hc, hd'⟩ := PySem.W.any_some hh
  have hx : s.heap.get? x = some ⟨.ref C, some dx, .plain, #[]⟩ := I.obj
  refine wpAny_bind (wpAny_pure (wpAny_bind (wpAny_bind (wpAny_loadPart hx (wpAny_bind (PySem.W.Looks.here (s := { s with toks := s.toks + 1 }) (PySem.W.looks_clsIn X hc) ?_))))))
  rw [hd']
  refine wpAny_pure (a := some dx) (wpAny_bind (wpAny_pure (wpAny_bind ?_)))
  refine wpAny_nsSet1 (s := { s with toks := s.toks + 1 }) I.ns fun h' hn2 hs2 => ?_
  obtain ⟨oD, esD, epD, hoD, hdD, hcD⟩ := hn2.count (PySem.Within.cons name v hw)
  refine wpAny_bind (wpAny_lookBehind hoD (by rw [hdD]; exact pastItsLine_dict (Nat.le_trans hcD (by rw [List.length_cons]; omega))) ?_)
  exact wpAny_pure (h _ ⟨(hs2.2 _ (Ne.symm I.ne)).trans I.obj, hn2, I.ne⟩ hs2)
theorem make_map {R : Result → Shared → Prop} {vs : List Value} {kw : List (Str × Value)} (X : K.In s.heap) (hm : PySem.W.makesIn K C = true)
    (hi : PySem.W.findIn K (.ref C) "__init__" = some (some (.ref f))) (hf : PySem.W.typeIn K (.ref f) = some (.type "function"))
    (h : codeAny (model prog w) (A.under (.builtin "type.__call__" ⟨.ref C :: vs, kw⟩)) (.call (.ref f) ⟨.ref (s.heap.objs.size + 1) :: vs, kw⟩) (PySem.W.InitBack (s.heap.objs.size + 1) R)
      { s with heap := (s.heap.push PySem.W.emptyDict).push (PySem.W.instObj C s.heap.objs.size) }) :
    codeAny (model prog w) A (.call (.ref C) ⟨vs, kw⟩) R s := by
  obtain ⟨hh, g, d, t, os⟩ := s
  exact PySem.W.make_core (PySem.W.makes_of X hm) (PySem.W.looks_findIn X hi) (fun self => PySem.W.bind_fn X self hf) (.inl rfl) h
end
noncomputable def putF (f : Str) (v : V) : List (Str × V) → List (Str × V)
  | [] => [(f, v)]
  | (g, x) :: r => if g = f then (g, v) :: r else (g, x) :: putF f v r
theorem lookup_putF (f g : Str) (v : V) : ∀ fs : List (Str × V), (putF f v fs).lookup g = if g = f then some v else fs.lookup g
  | [] => by
    show List.lookup g [(f, v)] = _
    by_cases h : g = f
    · have hb : (g == f) = true := beq_iff_eq.mpr h
      simp only [List.lookup, hb, if_pos h]
    · have hb : (g == f) = false := beq_eq_false_iff_ne.mpr h
      simp only [List.lookup, hb, if_neg h]
  | (k, x) :: r => by
    have ih := lookup_putF f g v r
    rw [show putF f v ((k, x) :: r) = (if k = f then (k, v) :: r else (k, x) :: putF f v r) from rfl]
    by_cases hk : k = f
    · rw [if_pos hk]
      by_cases h : g = k
      · have hb : (g == k) = true := beq_iff_eq.mpr h
        simp only [List.lookup, hb, if_pos (h.trans hk)]
      · have hb : (g == k) = false := beq_eq_false_iff_ne.mpr h
        simp only [List.lookup, hb, if_neg (fun e : g = f => h (e.trans hk.symm))]
    · rw [if_neg hk]
      by_cases h : g = k
      · have hb : (g == k) = true := beq_iff_eq.mpr h
        simp only [List.lookup, hb, if_neg (fun e : g = f => hk (h.symm.trans e))]
      · have hb : (g == k) = false := beq_eq_false_iff_ne.mpr h
        simp only [List.lookup, hb]
        exact ih
theorem keys_putF (f : Str) (v : V) : ∀ fs : List (Str × V), f ∈ (putF f v fs).map (·.1) ∧ ∀ g, g ∈ fs.map (·.1) → g ∈ (putF f v fs).map (·.1)
  | [] => ⟨by simp [putF], fun g h => by simp at h⟩
  | (k, x) :: r => by
    obtain ⟨i1, i2⟩ := keys_putF f v r
    rw [show putF f v ((k, x) :: r) = (if k = f then (k, v) :: r else (k, x) :: putF f v r) from rfl]
    by_cases hk : k = f
    · rw [if_pos hk]
      subst hk
      exact ⟨by simp, fun g h => by simpa using h⟩
    · rw [if_neg hk]
      refine ⟨?_, fun g h => ?_⟩
      · rw [List.map_cons]
        exact List.mem_cons_of_mem _ i1
      · rw [List.map_cons] at h ⊢
        rcases List.mem_cons.mp h with e | e
        · exact List.mem_cons.mpr (.inl e)
        · exact List.mem_cons_of_mem _ (i2 g e)
theorem length_putF (f : Str) (v : V) : ∀ fs : List (Str × V), (putF f v fs).length ≤ fs.length + 1
  | [] => by simp [putF]
  | (k, x) :: r => by
    have ih := length_putF f v r
    rw [show putF f v ((k, x) :: r) = (if k = f then (k, v) :: r else (k, x) :: putF f v r) from rfl]
    by_cases hk : k = f
    · rw [if_pos hk, List.length_cons, List.length_cons]; omega
    · rw [if_neg hk, List.length_cons, List.length_cons]; omega
theorem RelO.some_of {v : V} {o : Option Value} (r : RelO (some v) o) : ∃ u, o = some u ∧ RelV v u := by
  cases o with
  | none => exact (show False from r).elim
  | some u => exact ⟨u, rfl, r⟩
theorem RelO.none_of {o : Option Value} (r : RelO none o) : o = none := by
  cases o with
  | none => rfl
  | some u => exact (show False from r).elim
theorem handed_of {v : V} {u : Value} (r : RelV v u) : PySem.W.handedIn u = true := by
  cases v with
  | non => cases (show u = Value.none from r); rfl
  | bl b => cases (show u = Value.bool b from r); rfl
  | int i => obtain ⟨t, e⟩ := (show ∃ t, u = Value.int i t from r); cases e; rfl
  | str x => obtain ⟨t, e⟩ := (show ∃ t, u = Value.str x t from r); cases e; rfl
  | byt b => obtain ⟨t, e⟩ := (show ∃ t, u = Value.bytes b t from r); cases e; rfl
  | flt b => obtain ⟨t, e⟩ := (show ∃ t, u = Value.float b t from r); cases e; rfl
  | ref a => cases (show u = Value.ref a from r); rfl
  | ty n => cases (show u = Value.type n from r); rfl
section
variable {P : Program} {w : World} {H H' : Hp} {h h' : Heap} {a C dx : Addr} {fs fs' : List (Str × V)}
theorem ins_get (hok : HOk P w H h) (e : H a = some (.ins C dx fs)) : ∃ mA, ObjM h a dx C mA ∧ (∀ f, RelO (fs.lookup f) (mA f)) ∧ PySem.Within mA (fs.map (·.1)) ∧ fs.length ≤ 1000 ∧ H dx = some (.own a) := by
  obtain ⟨d, z, ne, ob, mA, n, r, q⟩ := (show ObjOk P w H h a (.ins C dx fs) from hok a _ e)
  exact ⟨mA, ⟨ob, n, ne⟩, r, q, z, d⟩
end
structure Cls (K : PySem.W.Frag) (C : Addr) : Prop where
  pg : PySem.W.plainGet K C Str.empty = true
  hd : PySem.W.hasDictIn K C = true
  po : PySem.W.plainOver K C = true
  sa : PySem.W.findIn K (.ref C) "__setattr__" = some (some (.builtin "object.__setattr__"))
theorem Cls.get {K : PySem.W.Frag} {C : Addr} (c : Cls K C) (f : Str) : PySem.W.plainGet K C f = true := c.pg
noncomputable def NoAttr (K : PySem.W.Frag) (C : Addr) (f : Str) : Prop := PySem.W.findIn K (.ref C) f = some none
theorem NoAttr.taker {K : PySem.W.Frag} {C : Addr} {f : Str} (n : NoAttr K C f) : PySem.W.takerIn K C f = some none := by
  unfold PySem.W.takerIn
  rw [show PySem.W.findIn K (.ref C) f = some none from n]
  rfl
structure Meth (K : PySem.W.Frag) (C : Addr) (m : Str) (f : Addr) : Prop where
  at_ : PySem.W.findIn K (.ref C) m = some (some (.ref f))
  fn : PySem.W.isFn K (.ref f) = true
  kp : PySem.W.keepIn K (.ref f) = true
section
variable {X : Cx} {pins : List (Addr × Obj)} {σ : St} {H : Hp} {s : Shared} {a C dx : Addr} {fs : List (Str × V)} {f : Str} {v : V} {A : Around} {E : Value → Shared → Prop}
theorem getattr_ok {b : Bool} {Q : Value → Shared → Prop} (I : Inv X pins σ H s) (e : H a = some (.ins C dx fs)) (c : Cls X.K C) (n : NoAttr X.K C f) (l : fs.lookup f = some v)
    (h : ∀ u s', Inv X pins σ H s' → RelV v u → Q u s') : wpAny (model X.prog X.w) A (getAttr (.ref a) f b) Q E s := by
  obtain ⟨mA, O, r, _, _, _⟩ := ins_get I.hok e
  obtain ⟨u, hu, ru⟩ := RelO.some_of (v := v) (o := mA f) (by rw [← l]; exact r f)
  exact get_map I.kIn O (c.get f) c.hd n hu (handed_of ru) (h u _ (I.tok _) ru)
theorem getmeth_ok {m : Str} {g : Addr} {pl : Sem Bool} {Q : Value × List Value → Shared → Prop} (I : Inv X pins σ H s) (e : H a = some (.ins C dx fs)) (c : Cls X.K C) (k : Meth X.K C m g) (l : fs.lookup m = none)
    (h : Q (.ref g, [.ref a]) s) : wpAny (model X.prog X.w) A (getMethod (.ref a) m pl) Q E s := by
  obtain ⟨mA, O, r, _, _, _⟩ := ins_get I.hok e
  have hn : mA m = none := RelO.none_of (by rw [← l]; exact r m)
  exact get_meth I.kIn O (c.get m) k.at_ k.fn hn h
theorem setattr_ok {y : V} {u : Value} {Q : Unit → Shared → Prop} (I : Inv X pins σ H s) (e : H a = some (.ins C dx fs)) (c : Cls X.K C) (n : NoAttr X.K C f) (hl : fs.length < 1000) (ry : RelV y u)
    (h : ∀ s', Inv X pins σ (upd H a (.ins C dx (putF f y fs))) s' → Q () s') : wpAny (model X.prog X.w) A (setAttr (.ref a) f u) Q E s := by
  obtain ⟨mA, O, r, wi, _, ho⟩ := ins_get I.hok e
  have hz : (fs.map (·.1)).length ≤ sizeLine := by rw [List.length_map, sizeLine_eq]; omega
  refine set_map I.kIn O c.sa c.po n.taker c.hd wi hz fun h' O' sb => h _ ?_
  have hd : ∃ o, h'.get? dx = some o := let ⟨o, _, _, e', _⟩ := O'.ns; ⟨o, e'⟩
  refine I.write (x := a) (e := dx) (by rw [e]; exact True.intro) (.inr ho) (fun b q hb z => (sb.2 b hb).trans z) hd ?_
  refine ⟨by rw [upd_ne O.ne]; exact ho, ?_, O.ne, O'.obj, _, O'.ns, fun g => ?_, fun g hg => ?_⟩
  · have := length_putF f y fs; omega
  · show RelO ((putF f y fs).lookup g) (if g = f then some u else mA g)
    rw [lookup_putF]
    by_cases q : g = f
    · rw [if_pos q, if_pos q]; exact ry
    · rw [if_neg q, if_neg q]; exact r g
  · by_cases q : g = f
    · rw [q]; exact (keys_putF f y fs).1
    · refine (keys_putF f y fs).2 g (wi g fun z => hg ?_)
      show (if g = f then some u else mA g) = none
      rw [if_neg q]; exact z
theorem Inv.made (I : Inv X pins σ H s) : Inv X pins σ (upd (upd H s.heap.objs.size (.own (s.heap.objs.size + 1))) (s.heap.objs.size + 1) (.ins C s.heap.objs.size []))
    { s with heap := (s.heap.push PySem.W.emptyDict).push (PySem.W.instObj C s.heap.objs.size) } := by
  have e1 : (s.heap.push PySem.W.emptyDict).get? s.heap.objs.size = some PySem.W.emptyDict := Heap.get?_push_size s.heap rfl
  have e2 : ((s.heap.push PySem.W.emptyDict).push (PySem.W.instObj C s.heap.objs.size)).get? (s.heap.objs.size + 1) = some (PySem.W.instObj C s.heap.objs.size) := by
    have := Heap.get?_push_size (s.heap.push PySem.W.emptyDict) (o := PySem.W.instObj C s.heap.objs.size) rfl
    rwa [Heap.size_push] at this
  have e3 : (s.heap.push PySem.W.emptyDict).Ns s.heap.objs.size (fun _ => none) := ⟨PySem.W.emptyDict, #[], _, e1, rfl, (fun e he => absurd he (by simp)), fun _ => rfl⟩
  have I1 := I.laid (a := s.heap.objs.size) (o := .own (s.heap.objs.size + 1)) (h' := s.heap.push PySem.W.emptyDict) (t' := s.toks) (fun b u q => Heap.get?_push_of_some _ q) (Nat.le_refl _) ⟨_, e1⟩
  refine I1.laid (a := s.heap.objs.size + 1) (o := .ins C s.heap.objs.size []) (t' := s.toks) (fun b u q => Heap.get?_push_of_some _ q) (Nat.le_of_eq (Heap.size_push _ _)) ?_
  have ne : s.heap.objs.size ≠ s.heap.objs.size + 1 := Nat.ne_of_lt (Nat.lt_succ_self _)
  refine ⟨by rw [upd_ne ne, upd_same], Nat.zero_le _, ne, e2, fun _ => none, (Heap.Ns1.of_empty e3).at fun o q => Heap.get?_push_of_some _ q, fun _ => True.intro, fun y hy => absurd rfl hy⟩
theorem attr_of {prog : Program} {w : World} {env : Env} {e : Expr} {f : Str} {pos : Pos} {s : Shared} {Q : Value → Shared → Prop} (hb : attributeBase e f env (eval e env) = eval e env)
    (h : wpAny (model prog w) A (eval e env) (fun o s₁ => wpAny (model prog w) A (getAttr o f true) Q E s₁) E s) : wpAny (model prog w) A (eval (.Attribute e f pos) env) Q E s :=
  Attribute_any_ h (by rw [arm_eval_Attribute, hb])
end
section
variable {X : Cx} {pins : List (Addr × Obj)} {σ : St} {H : Hp} {s : Shared} {A : Around} {E : Value → Shared → Prop} {Q : Value → Shared → Prop} {c : Value} {b : Bool}
inductive TyOf (K : PySem.W.Frag) (H : Hp) : V → Value → Prop where
  | non : TyOf K H .non (.type "NoneType")
  | bl (x : Bool) : TyOf K H (.bl x) (.type "bool")
  | int (i : Int) : TyOf K H (.int i) (.type "int")
  | str (x : Str) : TyOf K H (.str x) (.type "str")
  | flt (x : UInt64) : TyOf K H (.flt x) (.type "float")
  | lst {a : Addr} {xs : List V} (e : H a = some (.lst xs)) : TyOf K H (.ref a) (.type "list")
  | frz {a : Addr} {o : Obj} {xs : List V} (e : H a = some (.frz o (.lst xs))) : TyOf K H (.ref a) (.type "list")
  | tup {a : Addr} {xs : List V} (e : H a = some (.tup xs)) : TyOf K H (.ref a) (.type "tuple")
  | dK {a : Addr} {kvs : List (Key × V)} (e : H a = some (.dK kvs)) : TyOf K H (.ref a) (.type "dict")
  | dT {a : Addr} {kvs : List (List Key × V)} (e : H a = some (.dT kvs)) : TyOf K H (.ref a) (.type "dict")
  | ins {a C dx : Addr} {fs : List (Str × V)} (e : H a = some (.ins C dx fs)) (cl : Cls K C) (ha : PySem.W.findIn K (.ref C) "__class__" = some (some (.builtin "object.__class__")))
      (hn : PySem.W.specialIn K (.builtin "object.__class__") "__get__" = some (some (.builtin "getset_descriptor.__get__"))) (htk : PySem.W.takesIn K (.builtin "object.__class__") = some true)
      (hm : PySem.W.mroIn K C (.type "object") = some true) : TyOf K H (.ref a) (.ref C)
theorem isinst_ok {x : V} {u t : Value} (I : Inv X pins σ H s) (rx : RelV x u) (ty : TyOf X.K H x t) (e : PySem.W.kitOne X.K t c = some b) (h : ∀ tk, Q (.bool b) { s with toks := tk }) :
    wpAny (model X.prog X.w) A (call (.builtin "isinstance") [u, c]) Q E s := by
  cases ty with
  | non => cases (show u = Value.none from rx); exact PySem.W.kia_one PySem.W.kitx_none I.kIn True.intro e (fun z => nomatch z) h
  | bl y => cases (show u = Value.bool y from rx); exact PySem.W.kia_one PySem.W.kitx_bool I.kIn True.intro e (fun z => nomatch z) h
  | int i => obtain ⟨t, q⟩ := (show ∃ t, u = Value.int i t from rx); cases q; exact PySem.W.kia_one PySem.W.kitx_int I.kIn True.intro e (fun z => nomatch z) h
  | str y => obtain ⟨t, q⟩ := (show ∃ t, u = Value.str y t from rx); cases q; exact PySem.W.kia_one PySem.W.kitx_str I.kIn True.intro e (fun z => nomatch z) h
  | flt y => obtain ⟨t, q⟩ := (show ∃ t, u = Value.float y t from rx); cases q; exact PySem.W.kia_one PySem.W.kitx_float I.kIn True.intro e (fun z => nomatch z) h
  | @lst a xs ea =>
    cases (show u = Value.ref a from rx)
    obtain ⟨_, _, n, _, h1⟩ := (show ObjOk X.prog X.w H s.heap a (.lst xs) from I.hok a _ ea)
    exact PySem.W.kia_one PySem.W.kitx_list I.kIn ⟨_, h1, rfl⟩ e (fun z => nomatch z) h
  | @frz a ob xs ea =>
    cases (show u = Value.ref a from rx)
    obtain ⟨_, _, _, n, _, h1⟩ := (show ObjOk X.prog X.w H s.heap a (.frz ob (.lst xs)) from I.hok a _ ea)
    exact PySem.W.kia_one PySem.W.kitx_list I.kIn ⟨_, h1, rfl⟩ e (fun z => nomatch z) h
  | @tup a xs ea =>
    cases (show u = Value.ref a from rx)
    obtain ⟨_, _, _, p⟩ := (show ObjOk X.prog X.w H s.heap a (.tup xs) from I.hok a _ ea)
    obtain ⟨o, h1, h2, _⟩ := p
    exact PySem.W.kia_one PySem.W.kitx_tuple I.kIn ⟨o, h1, h2⟩ e (fun z => nomatch z) h
  | @dK a kvs ea =>
    cases (show u = Value.ref a from rx)
    obtain ⟨_, _, vs, _, p⟩ := (show ObjOk X.prog X.w H s.heap a (.dK kvs) from I.hok a _ ea)
    obtain ⟨o, es, ep, h1, h2, _⟩ := p
    exact PySem.W.kia_one PySem.W.kitx_dict I.kIn ⟨o, h1, h2.1⟩ e (fun z => nomatch z) h
  | @dT a kvs ea =>
    cases (show u = Value.ref a from rx)
    obtain ⟨_, _, xs, _, o, es, ep, h1, h2, _⟩ := (show ObjOk X.prog X.w H s.heap a (.dT kvs) from I.hok a _ ea)
    exact PySem.W.kia_one PySem.W.kitx_dict I.kIn ⟨o, h1, h2.1⟩ e (fun z => nomatch z) h
  | @ins a C dx fs ea cl ha hn htk hm =>
    cases (show u = Value.ref a from rx)
    obtain ⟨mA, O, _⟩ := ins_get I.hok ea
    obtain ⟨od, J, _⟩ := O.look
    exact PySem.W.kia_one (PySem.W.kitx_own (cl.get _) cl.hd ha hn htk hm) I.kIn J e (fun z => nomatch z) h
end
end L2
namespace L2
open PySem PySem.Spec PyProof.Rows
structure Room (k : Nat) (A : Around) : Prop where
  hd : A.handled = none
  dp : A.depth + 3 * k + 5 < recursionLimit
  un : A.units + 16 * k + 200 < cLine
theorem Room.mono {j k : Nat} {A : Around} (r : Room k A) (h : j ≤ k) : Room j A := ⟨r.hd, by have := r.dp; omega, by have := r.un; omega⟩
theorem Room.deeper {k : Nat} {A : Around} (r : Room (k + 1) A) (env : Env) : Room k (A.deeper env) :=
  ⟨r.hd, by have := r.dp; show A.depth + 1 + 3 * k + 5 < _; omega, by have := r.un; show A.units + 3 + 16 * k + 200 < _; omega⟩
theorem make_depth {A : Around} {C : Addr} {us : List Value} {kw : List (Str × Value)} : (A.under (.builtin "type.__call__" ⟨.ref C :: us, kw⟩)).depth = A.depth + 1 := by
  first | rfl | simp [Around.under, Code.weight, Code.isCreation, Code.isGuard, Code.isCaller, Code.frames, Code.isFrame, guardIds]
theorem make_units {A : Around} {C : Addr} {us : List Value} {kw : List (Str × Value)} : (A.under (.builtin "type.__call__" ⟨.ref C :: us, kw⟩)).units = A.units + 1 := by
  first | rfl | simp [Around.under, Code.cUnits, Code.frames, Code.isFrame]
theorem Room.make {k : Nat} {A : Around} (r : Room (k + 1) A) (C : Addr) (us : List Value) (kw : List (Str × Value)) : Room k (A.under (.builtin "type.__call__" ⟨.ref C :: us, kw⟩)) :=
  ⟨r.hd, by have := r.dp; rw [make_depth]; omega, by have := r.un; rw [make_units]; omega⟩
theorem Room.depth {k : Nat} {A : Around} (r : Room k A) : A.depth < recursionLimit := by have := r.dp; omega
theorem Room.units {k : Nat} {A : Around} (r : Room k A) : A.units + 64 < cLine := by have := r.un; omega
noncomputable def tNil : TA := fun _ H Q => Q [] H
noncomputable def tCons (ta : TE) (tr : TA) : TA := fun σ H Q => ta σ H fun x H1 => tr σ H1 fun xs H2 => Q (x :: xs) H2
section
variable {X : Cx} {e : Expr} {es : List Expr} {te : TE} {t : TA} {pos : Pos}
theorem pa_nil : PA X [] tNil := fun _ _ _ _ H Q I h => Calls.spliced_nil ⟨[], H, I, .nil, h⟩
theorem pa_cons (ha : PE X e te) (hr : PA X es t) (hs : starEach (e :: es) X.env = (false, eval e X.env) :: starEach es X.env := by rfl) : PA X (e :: es) (tCons te t) := by
  intro pos pins s σ H Q I h
  rw [hs]
  show wpAny _ _ (spliced ((false, eval e X.env) :: backTo pos (starEach es X.env))) _ _ s
  refine Calls.spliced_cons (thn (ha pins s σ H _ I h) fun u s1 zr1914 => ?_)
  obtain ⟨x, H1, I1, r1, q1⟩ := zr1914
  exact thn (hr pos pins s1 σ H1 _ I1 q1) fun us s2 zq4 => by obtain ⟨xs, H2, I2, r2, q2⟩ := zq4; exact (⟨x :: xs, H2, I2, .cons r1 r2, q2⟩)
noncomputable def tTup (t : TA) : TE := fun σ H Q => t σ H fun xs H1 => xs.length ≤ sizeLine ∧ ∀ p, H1 p = none → Q (.ref p) (upd H1 p (.tup xs))
noncomputable def tLst (t : TA) : TE := fun σ H Q => t σ H fun xs H1 => xs.length ≤ sizeLine ∧ ∀ p, H1 p = none → Q (.ref p) (upd H1 p (.lst xs))
theorem pe_tup {x1} (h : PA X es t) : PE X (.Tuple es x1 pos) (tTup t) := by
  intro pins s σ H Q I hq
  refine wpAny_Tuple_spliced (thn (h pos pins s σ H _ I hq) fun us s1 ⟨xs, H1, I1, r, z, q⟩ => ⟨by rw [← r.length]; exact z, ?_⟩)
  have hf : H1 s1.heap.objs.size = none := I1.hok.fresh (Nat.le_refl _)
  refine ⟨.ref s1.heap.objs.size, upd H1 s1.heap.objs.size (.tup xs), I1.laid (t' := s1.toks) (fun b u e => Heap.get?_push_of_some _ e) (Nat.le_refl _) ?_, rfl, q _ hf⟩
  exact ⟨z, us, r, ⟨_, Heap.get?_push_size _ rfl, rfl, _, rfl⟩⟩
theorem pe_lst (h : PA X es t) : PE X (.List es pos) (tLst t) := by
  intro pins s σ H Q I hq
  refine wpAny_List_spliced (thn (h pos pins s σ H _ I hq) fun us s1 ⟨xs, H1, I1, r, z, q⟩ => ⟨by rw [← r.length]; exact z, ?_⟩)
  have hf : H1 s1.heap.objs.size = none := I1.hok.fresh (Nat.le_refl _)
  refine ⟨.ref s1.heap.objs.size, upd H1 s1.heap.objs.size (.lst xs), I1.laid (t' := s1.toks) (fun b u e => Heap.get?_push_of_some _ e) (Nat.le_refl _) ?_, rfl, q _ hf⟩
  exact ⟨z, us, 0, r, Heap.get?_push_size _ rfl⟩
end
noncomputable abbrev Sp := List V → Hp → VK → XK → Prop
noncomputable abbrev CXT := List Env → Hp → Shared → XK → Value → Shared → Prop
structure Env0 (P : Program) (w : World) (K : PySem.W.Frag) (mg : Str → Option Value) (base : Heap) (A : Around) (outer : List Env) (s : Shared) (H : Hp) : Prop where
  frames : A.frames = some outer
  mod : Mod K mg base
  bs : ∀ b o, base.get? b = some o → s.heap.get? b = some o ∧ H b = none
  bsz : base.objs.size ≤ s.heap.objs.size
  funs : s.heap.FunFrames base outer
  frf : ∀ b ∈ frs outer, H b = none
  hok : HOk P w H s.heap
  bare : AllBare s.gens
noncomputable def CE (outer : List Env) (P : Program) (w : World) (H : Hp) (s : Shared) (Q : VK) (u : Value) (s' : Shared) : Prop :=
  ∃ v H', s'.os = s.os ∧ AllBare s'.gens ∧ Un (frs outer) [] H H' s.heap s'.heap ∧ HOk P w H' s'.heap ∧ RelV v u ∧ Q v H'
noncomputable def CR (CX : CXT) (outer : List Env) (P : Program) (w : World) (H : Hp) (s : Shared) (Q : VK) (E : XK) (r : Result) (s' : Shared) : Prop :=
  match r with
  | .ok (.ret u) => CE outer P w H s Q u s'
  | .ok _ => False
  | .error e => CX outer H s E e s'
structure FnOk (P : Program) (w : World) (K : PySem.W.Frag) (mg : Str → Option Value) (base : Heap) (CX : CXT) (k : Nat) (f : Addr) (fd : FuncData) (ps : List Str) (sp : Sp) : Prop where
  len : ∀ vs H Q E, sp vs H Q E → vs.length = ps.length
  run : ∀ (A : Around) (outer : List Env) (s : Shared) (H : Hp) (args : Args) (us : List Value) (vs : List V) (Q : VK) (E : XK), Room k A → Env0 P w K mg base A outer s H → BindsTo s fd args (ps.zip us) → Vals vs us → sp vs H Q E →
    codeAny (model P w) A (.call (.ref f) args) (CR CX outer P w H s Q E) s
theorem FnOk.mono {P : Program} {w : World} {K : PySem.W.Frag} {mg : Str → Option Value} {base : Heap} {CX : CXT} {j k : Nat} {f : Addr} {fd : FuncData} {ps : List Str} {sp : Sp} (F : FnOk P w K mg base CX j f fd ps sp) (h : j ≤ k) :
    FnOk P w K mg base CX k f fd ps sp := ⟨F.len, fun A outer s H args us vs Q E hr => F.run A outer s H args us vs Q E (hr.mono h)⟩
theorem FnOk.imp {P : Program} {w : World} {K : PySem.W.Frag} {mg : Str → Option Value} {base : Heap} {CX : CXT} {k : Nat} {f : Addr} {fd : FuncData} {ps : List Str} {sp sp' : Sp} (F : FnOk P w K mg base CX k f fd ps sp)
    (h : ∀ vs H Q E, sp' vs H Q E → sp vs H Q E) : FnOk P w K mg base CX k f fd ps sp' :=
  ⟨fun vs H Q E q => F.len vs H Q E (h _ _ _ _ q), fun A outer s H args us vs Q E hr he hb hv hs => F.run A outer s H args us vs Q E hr he hb hv (h _ _ _ _ hs)⟩
theorem Env0.make {P : Program} {w : World} {K : PySem.W.Frag} {mg : Str → Option Value} {base : Heap} {A : Around} {outer : List Env} {s : Shared} {H : Hp} (e : Env0 P w K mg base A outer s H) (C : Addr) (us : List Value) (kw : List (Str × Value)) :
    Env0 P w K mg base (A.under (.builtin "type.__call__" ⟨.ref C :: us, kw⟩)) outer s H := ⟨by first | exact e.frames | (simpa [Around.under, Code.envs, Code.isFrame, pushEnvs] using e.frames), e.mod, e.bs, e.bsz, e.funs, e.frf, e.hok, e.bare⟩
section
variable {X : Cx} {pins : List (Addr × Obj)} {σ : St} {H : Hp} {s s' : Shared}
theorem Inv.env0 (I : Inv X pins σ H s) : Env0 X.prog X.w X.K X.mg X.base X.A X.stack s H :=
  ⟨I.ok.frames, I.ok.mod, I.bs, Nat.le_trans I.ok.bsz I.sz, I.stack, I.stkFree, I.hok, I.bare⟩
theorem Inv.after {Q : VK} {u : Value} (I : Inv X pins σ H s) (h : CE X.stack X.prog X.w H s Q u s') : EP X pins σ Q u s' := by
  obtain ⟨v, H', os, bare, un, hok, r, q⟩ := h
  obtain ⟨hh, g, d, t, os'⟩ := s'
  obtain rfl : os' = s.os := os
  exact ⟨v, H', I.call (h' := hh) (g' := g) (d' := d) (t' := t) (ch := []) un hok bare (fun b z => absurd z (by simp)), r, q⟩
end
noncomputable def tCall (sp : Sp) (dvs : List V) (E : XK) (t : TA) : TE := fun σ H Q => t σ H fun vs H1 => sp (vs ++ dvs) H1 Q E
noncomputable def Binds (K : PySem.W.Frag) (fd : FuncData) (ps : List Str) (ds : List Value) : Prop :=
  ∀ (s : Shared) (us : List Value), K.In s.heap → (us ++ ds).length = ps.length → BindsTo s fd ⟨us, []⟩ (ps.zip (us ++ ds))
theorem Binds.all {K : PySem.W.Frag} {fd : FuncData} {ps : List Str} (h : ∀ us : List Value, us.length = ps.length → bindArgs fd ⟨us, []⟩ = pure (ps.zip us)) : Binds K fd ps [] := fun s us _ hl => by
  rw [List.append_nil] at hl ⊢
  exact .of_eq (h us hl)
noncomputable def Passes (CX : CXT) (X : Cx) (E : XK) : Prop := ∀ (pins : List (Addr × Obj)) (σ : St) (H : Hp) (s : Shared) (e : Value) (s' : Shared), Inv X pins σ H s → CX X.stack H s E e s' → X.xe e s'
section
variable {X : Cx} {CX : CXT} {k : Nat} {f C : Addr} {fd : FuncData} {ps : List Str} {sp : Sp} {dvs : List V} {ds : List Value} {E : XK} {x m : Str} {p pos apos : Pos} {e o : Expr} {es : List Expr} {ta : TE} {t : TA}
theorem run_fn {pins : List (Addr × Obj)} {σ : St} {H : Hp} {s : Shared} {Q : VK} {us : List Value} {vs : List V} (F : FnOk X.prog X.w X.K X.mg X.base CX k f fd ps sp) (hr : Room k X.A) (hb : Binds X.K fd ps ds) (hd : Vals dvs ds) (hx : Passes CX X E)
    (I : Inv X pins σ H s) (r : Vals vs us) (h : sp (vs ++ dvs) H Q E) : wpAny (model X.prog X.w) X.A (call (.ref f) us) (EP X pins σ Q) X.xe s := by
  have r2 : Vals (vs ++ dvs) (us ++ ds) := r.append hd
  have hl : (us ++ ds).length = ps.length := by rw [← r2.length]; exact F.len _ _ _ _ h
  refine wpAny_call (codeAny_mono (F.run X.A X.stack s H ⟨us, []⟩ (us ++ ds) (vs ++ dvs) Q E hr I.env0 (hb s us I.kIn hl) r2 h) fun r s' hq => ?_)
  cases r with
  | error e => exact hx pins σ H s e s' I hq
  | ok fl =>
    cases fl with
    | ret u => exact I.after hq
    | next => exact False.elim hq
    | brk => exact False.elim hq
    | cont => exact False.elim hq
theorem pe_call (F : FnOk X.prog X.w X.K X.mg X.base CX k f fd ps sp) (hr : Room k X.A) (hg : Gl X x) (hm : X.mg x = some (.ref f)) (hk : PySem.W.keepIn X.K (.ref f) = true) (hb : Binds X.K fd ps ds) (hd : Vals dvs ds) (hx : Passes CX X E)
    (ha : PA X (e :: es) t) (hdb : (x == ("__debug__" : Str)) = false := by decide) (he : starEach (e :: es) X.env = (false, eval e X.env) :: starEach es X.env := by rfl) (hpl : (backTo pos (starEach es X.env)).any (·.1) = false := by rfl) :
    PE X (.Call (.Name x p) (e :: es) [] pos) (tCall sp dvs E t) := by
  intro pins s σ H Q I h
  refine wpAny_Call_Name_kw (ld_glob I hg hm ?_ hdb)
  refine PySem.W.callWith_K (h₀ := X.base) I.ok.mod.kin hk (thn (ha pos pins s σ H _ I h) fun us s1 ⟨vs, H1, I1, r, q⟩ => ⟨I1.kIn, ?_⟩) he hpl
  exact run_fn F hr hb hd hx I1 r q
structure Mk (K : PySem.W.Frag) (C f : Addr) : Prop where
  makes : PySem.W.makesIn K C = true
  init : PySem.W.findIn K (.ref C) "__init__" = some (some (.ref f))
  fn : PySem.W.isFn K (.ref f) = true
  kp : PySem.W.keepIn K (.ref C) = true
theorem run_make {pins : List (Addr × Obj)} {σ : St} {H : Hp} {s : Shared} {Q : VK} {us : List Value} {vs : List V} (M : Mk X.K C f) (F : FnOk X.prog X.w X.K X.mg X.base CX k f fd ps sp) (hr : Room (k + 1) X.A) (hb : Binds X.K fd ps ds) (hd : Vals dvs ds)
    (hx : Passes CX X E) (I : Inv X pins σ H s) (r : Vals vs us)
    (h : ∀ x dx, H x = none → H dx = none → dx ≠ x → sp (.ref x :: (vs ++ dvs)) (upd (upd H dx (.own x)) x (.ins C dx [])) (fun v H2 => v = .non ∧ Q (.ref x) H2) E) :
    wpAny (model X.prog X.w) X.A (call (.ref C) us) (EP X pins σ Q) X.xe s := by
  have hq := h (s.heap.objs.size + 1) s.heap.objs.size (I.hok.fresh (Nat.le_succ _)) (I.hok.fresh (Nat.le_refl _)) (Nat.ne_of_lt (Nat.lt_succ_self _))
  have I2 := Inv.made (C := C) I
  have r2 : Vals (V.ref (s.heap.objs.size + 1) :: (vs ++ dvs)) (Value.ref (s.heap.objs.size + 1) :: (us ++ ds)) := .cons rfl (r.append hd)
  have hl : (Value.ref (s.heap.objs.size + 1) :: us ++ ds).length = ps.length := by
    have e := r2.length
    rw [F.len _ _ _ _ hq] at e
    exact e.symm
  refine wpAny_call (make_map (f := f) I.kIn M.makes M.init (beq_iff_eq.mp M.fn) (codeAny_mono (F.run _ X.stack _ _ ⟨Value.ref (s.heap.objs.size + 1) :: us, []⟩ (Value.ref (s.heap.objs.size + 1) :: (us ++ ds)) _ _ E (hr.make C us [])
    (I2.env0.make C us []) (hb _ (Value.ref (s.heap.objs.size + 1) :: us) I2.kIn hl) r2 hq) fun r s' hq' => ?_))
  cases r with
  | error e => exact hx pins σ _ _ e s' I2 hq'
  | ok fl =>
    cases fl with
    | ret u =>
      obtain ⟨v, H', I3, rv, ev, q3⟩ := I2.after hq'
      subst ev
      exact ⟨rv, ⟨V.ref (s.heap.objs.size + 1), H', I3, rfl, q3⟩⟩
    | next => exact False.elim hq'
    | brk => exact False.elim hq'
    | cont => exact False.elim hq'
end
structure FnScope (N P : List Str) (sc : Scope) : Prop where
  kind : sc.kind = .function
  co : sc.isCoroutine = false
  gen : sc.isGenerator = false
  nd : N.Nodup
  pre : N.take P.length = P
  par : ∀ x ∈ P, sc.names.lookup x = some .local ∨ sc.names.lookup x = some .cell
  nofree : ∀ y ∈ sc.names, y.2 ≠ .free
theorem bindL_out {kindOf : Str → Option NameKind} {x : Str} : ∀ {binds : List (Str × Value)} {m : Str → Option Value}, (∀ v, (x, v) ∉ binds) → bindL kindOf binds m x = m x
  | [], _, _ => rfl
  | (n, v) :: r, m, h => by
    unfold bindL
    rw [bindL_out fun w hw => h w (List.mem_cons_of_mem _ hw)]
    split
    · have : x ≠ n := by rintro rfl; exact h v List.mem_cons_self
      simp [this]
    · rfl
theorem bindC_out {kindOf : Str → Option NameKind} {x : Str} : ∀ {binds : List (Str × Value)} {m : Str → Option Value}, (∀ v, (x, v) ∉ binds) → bindC kindOf binds m x = m x
  | [], _, _ => rfl
  | (n, v) :: r, m, h => by
    unfold bindC
    rw [bindC_out fun w hw => h w (List.mem_cons_of_mem _ hw)]
    split
    · rfl
    · have : x ≠ n := by rintro rfl; exact h v List.mem_cons_self
      simp [this]
theorem bindL_get {kindOf : Str → Option NameKind} {x : Str} {v : Value} : ∀ {P : List Str} {vs : List Value} {i : Nat} {m : Str → Option Value}, P.Nodup → P[i]? = some x → vs[i]? = some v → kindOf x = some .local →
    bindL kindOf (P.zip vs) m x = some v
  | [], _, _, _, _, h, _, _ => by simp at h
  | _ :: _, [], _, _, _, _, h, _ => by simp at h
  | p :: P, w :: vs, 0, m, nd, h1, h2, hk => by
    simp at h1 h2; subst h1; subst h2
    show bindL kindOf ((p, w) :: P.zip vs) m p = _
    unfold bindL
    rw [bindL_out fun v hv => (List.nodup_cons.mp nd).1 (List.of_mem_zip hv).1, if_pos hk]
    simp
  | p :: P, w :: vs, i + 1, m, nd, h1, h2, hk => by
    show bindL kindOf ((p, w) :: P.zip vs) m x = _
    unfold bindL
    exact bindL_get (i := i) (List.nodup_cons.mp nd).2 (by simpa using h1) (by simpa using h2) hk
theorem bindC_get {kindOf : Str → Option NameKind} {x : Str} {v : Value} : ∀ {P : List Str} {vs : List Value} {i : Nat} {m : Str → Option Value}, P.Nodup → P[i]? = some x → vs[i]? = some v → kindOf x ≠ some .local →
    bindC kindOf (P.zip vs) m x = some v
  | [], _, _, _, _, h, _, _ => by simp at h
  | _ :: _, [], _, _, _, _, h, _ => by simp at h
  | p :: P, w :: vs, 0, m, nd, h1, h2, hk => by
    simp at h1 h2; subst h1; subst h2
    show bindC kindOf ((p, w) :: P.zip vs) m p = _
    unfold bindC
    rw [bindC_out fun v hv => (List.nodup_cons.mp nd).1 (List.of_mem_zip hv).1, if_neg hk]
    simp
  | p :: P, w :: vs, i + 1, m, nd, h1, h2, hk => by
    show bindC kindOf ((p, w) :: P.zip vs) m x = _
    unfold bindC
    exact bindC_get (i := i) (List.nodup_cons.mp nd).2 (by simpa using h1) (by simpa using h2) hk
noncomputable def start (N : List Str) (vs : List V) : St := vs.map some ++ List.replicate (N.length - vs.length) none
noncomputable def cxOf (CX : CXT) (P : Program) (w : World) (K : PySem.W.Frag) (mg : Str → Option Value) (base : Heap) (N : List Str) (qual : Str) (scope : Scope) (f : Addr) (cd : Value) (A : Around) (outer : List Env) (s : Shared) (H : Hp) (E : XK) : Cx where
  prog := P
  w := w
  K := K
  mg := mg
  base := base
  A := A.deeper (envOfC qual scope s.heap.objs.size f cd)
  N := N
  s₀ := s
  H₀ := H
  env := envOfC qual scope s.heap.objs.size f cd
  outer := outer
  stack := envOfC qual scope s.heap.objs.size f cd :: outer
  ex := []
  calm := true
  fn := fun _ => true
  pn := []
  xe := fun e s' => wpAny (model P w) (A.deeper (envOfC qual scope s.heap.objs.size f cd)) (leaving (envOfC qual scope s.heap.objs.size f cd) e) (fun _ s'' => CX outer H s E e s'') (fun e' s'' => CX outer H s E e' s'') s'
theorem cell_has {sc : Scope} {n : Nat} {x : Str} (h : sc.names.lookup x = some .cell) : ∃ c, (cellsFrom n sc.names []).lookup x = some c := by
  have q := PySem.W.cellsFrom_some sc.names n [] (.inl h)
  exact Option.isSome_iff_exists.mp q
theorem inv_start {CX : CXT} {P : Program} {w : World} {K : PySem.W.Frag} {mg : Str → Option Value} {base : Heap} {N ps : List Str} {qual : Str} {scope : Scope} {f : Addr} {cd : Value} {A : Around} {outer : List Env} {s s1 : Shared} {H : Hp} {E : XK} {us : List Value} {vs : List V}
    (S : FnScope N ps scope) (hd : A.handled = none) (e0 : Env0 P w K mg base A outer s H) (hl : vs.length = ps.length) (r : Vals vs us)
    (x : InCallC s s.heap.objs.size (bindL (envOfC qual scope s.heap.objs.size f cd).kindOf (ps.zip us) fun _ => none) (cellsFrom (s.heap.objs.size + 1) scope.names []) (bindC (envOfC qual scope s.heap.objs.size f cd).kindOf (ps.zip us) fun _ => none) s1) :
    Inv (cxOf CX P w K mg base N qual scope f cd A outer s H E) [] (start N vs) H s1 := by
  have hpl : ps.length ≤ N.length := by have := congrArg List.length S.pre; rw [List.length_take] at this; omega
  obtain ⟨h1, tk, rfl, hk⟩ := x.done
  have noA : ∀ b : Addr, b ∉ (cxOf CX P w K mg base N qual scope f cd A outer s H E).ex := fun b z => absurd (show b ∈ ([] : List Addr) from z) (by simp)
  refine ⟨⟨e0.mod, S.kind, rfl, rfl, Nat.le_refl _, fun y z c h1 h2 => ?_, fun y hy => ?_, fun y c _ h => ?_, fun _ => hd, Around.frames_deeper e0.frames, .inr ⟨rfl, rfl⟩, fun b z => absurd z (noA b), e0.bs, e0.bsz, fun b _ _ => noA b, fun b z => absurd z (noA b), e0.funs, e0.frf⟩,
    rfl, e0.bare, Un.kept hk, ⟨_, x.toInCall.ns, fun i y v h1 h2 h3 => ?_⟩, fun y c h => ⟨_, x.cell y c h⟩, e0.hok.fresh (Nat.le_refl _), fun y c h => ?_, fun p hp => absurd (show p ∈ ([] : List (Addr × Obj)) from hp) (by simp), e0.hok.kept hk, ?_⟩
  · exact name_of_addr x.apart (PySem.mem_of_lookup h1) (PySem.mem_of_lookup h2)
  · have hy : scope.names.lookup y = some .cell ∨ scope.names.lookup y = some .free := hy
    rcases hy with hy | hy
    · exact cell_has hy
    · exact absurd rfl (S.nofree _ (PySem.mem_of_lookup hy))
  · exact Nat.le_of_lt (x.above y c (PySem.mem_of_lookup h))
  · have hi : i < vs.length := by
      unfold start at h2
      by_cases hi : i < vs.length
      · exact hi
      · rw [List.getElem?_append_right (by simpa using hi)] at h2
        rw [List.getElem?_replicate] at h2
        split at h2 <;> cases h2
    have ha : vs[i]? = some v := by
      unfold start at h2
      rw [List.getElem?_append_left (by simpa using hi), List.getElem?_map] at h2
      cases e : vs[i]? with
      | none => rw [e] at h2; cases h2
      | some a => rw [e] at h2; cases h2; rfl
    obtain ⟨u, hu, rv⟩ := r.get ha
    have hp : ps[i]? = some y := by
      rw [← S.pre, List.getElem?_take_of_lt (by omega)]; exact h1
    have ndP : ps.Nodup := by rw [← S.pre]; exact S.nd.sublist (List.take_sublist _ _)
    refine ⟨u, rv, ?_⟩
    rcases S.par y (List.mem_of_getElem? hp) with k | k
    · exact .inl ⟨k, bindL_get ndP hp hu k⟩
    · obtain ⟨c, e⟩ := cell_has (n := s.heap.objs.size + 1) k
      refine .inr ⟨.inl k, c, e, ?_⟩
      have q := x.cell y c e
      rw [bindC_get ndP hp hu (by show scope.names.lookup y ≠ _; rw [k]; decide)] at q
      exact q
  · exact e0.hok.fresh (Nat.le_of_lt (x.above y c (PySem.mem_of_lookup h)))
  · unfold start
    show _ = N.length
    rw [List.length_append, List.length_map, List.length_replicate]
    omega
theorem fn_of {CX : CXT} {P : Program} {w : World} {K : PySem.W.Frag} {mg : Str → Option Value} {base : Heap} {k : Nat} {f : Addr} {name qual : Str} {params : Arguments} {body : List Stmt} {scope : Scope} {dV kV doc pm cdv ct oc : Value} {an od : Option Addr}
    {osl : Array (Option Value)} {N ps : List Str} {sp : Sp} (lk : K.lookup f = some ⟨oc, od, .func (PySem.W.fnOf name qual params body scope dV kV doc pm an cdv ct), osl⟩) (hcd : PySem.W.codeIn K cdv qual = true) (S : FnScope N ps scope)
    (len : ∀ vs H Q E, sp vs H Q E → vs.length = ps.length)
    (hbody : ∀ (A : Around) (outer : List Env) (s : Shared) (H : Hp) (vs : List V) (Q : VK) (E : XK), Room k (A.deeper (envOfC qual scope s.heap.objs.size f cdv)) → sp vs H Q E →
      ∃ t, PSs (cxOf CX P w K mg base N qual scope f cdv A outer s H E) body t ∧ t { nx := fun _ H' => Q .non H', rt := Q } (start N vs) H) :
    FnOk P w K mg base CX (k + 1) f (PySem.W.fnOf name qual params body scope dV kV doc pm an cdv ct) ps sp := by
  refine ⟨len, fun A outer s H args us vs Q E hr e0 hb r hsp => ?_⟩
  have hl := len _ _ _ _ hsp
  have KX : K.In s.heap := e0.mod.kin.keeps fun b o e => (e0.bs b o e).1
  have lim : s.heap.NoLimit := e0.mod.nolimit.keeps fun b o e => (e0.bs b o e).1
  have hkind : ∀ y ∈ ps.zip us, scope.names.lookup y.1 = some .local ∨ (scope.names.lookup y.1 = some .cell ∧ ((cellsFrom (s.heap.objs.size + 1) scope.names []).lookup y.1).isSome = true) := fun ⟨n, v⟩ hy => by
    rcases S.par n (List.of_mem_zip hy).1 with q | q
    · exact .inl q
    · exact .inr ⟨q, PySem.W.cellsFrom_some _ _ _ (.inl q)⟩
  refine codeAny_call_function hr.depth (KX _ _ lk) rfl S.co S.gen rfl (PySem.W.codeRec_of KX hcd) (hb _ _ _ _ ?_)
  refine wpAny_newFunctionEnv_cells S.kind hkind fun env he s1 x => ?_
  subst he
  refine ⟨lim.keeps x.toInCall.keep, codeAny_func ?_⟩
  obtain ⟨t, ht, hq⟩ := hbody A outer s H vs Q E (hr.deeper _) hsp
  have I : Inv (cxOf CX P w K mg base N qual scope f cdv A outer s H E) [] (start N vs) H s1 := inv_start S hr.hd e0 hl r x
  refine wpAny_mono (ht [] s1 (start N vs) H _ I hq) (fun fl s' hs => ?_) fun e s' hs => hs
  have fin : ∀ {σ' : St} {H' : Hp} {v : V} {u : Value}, Inv (cxOf CX P w K mg base N qual scope f cdv A outer s H E) [] σ' H' s' → RelV v u → Q v H' → CE outer P w H s Q u s' :=
    fun {σ' H' v u} J rv q => ⟨v, H', J.os, J.bare, J.base, J.hok, rv, q⟩
  cases fl with
  | ret u =>
    obtain ⟨v, σ', H', J, rv, q⟩ := hs
    exact fin J rv q
  | next =>
    obtain ⟨σ', H', J, q⟩ := hs
    exact fin (v := V.non) (u := Value.none) J rfl q
  | brk =>
    obtain ⟨_, _, _, q⟩ := hs
    exact False.elim q
  | cont =>
    obtain ⟨_, _, _, q⟩ := hs
    exact False.elim q
end L2
namespace L2
open PySem PySem.Spec PyProof.Rows
section
variable {X : Cx} {x : Str} {p pos : Pos} {e : Expr} {es : List Expr} {t : TA} {id T : String} {r : List V → Hp → VK → Prop}
noncomputable def tCB (r : List V → Hp → VK → Prop) (t : TA) : TE := fun σ H Q => t σ H fun vs H1 => r vs H1 Q
theorem pe_callB (hc : CallR X (.builtin id) r) (hg : Gl X x) (hm : X.mg x = none) (hv : bootBuiltins x = some (.builtin id)) (ha : PA X (e :: es) t) (hn : x ≠ "__name__" := by decide) (hdb : (x == ("__debug__" : Str)) = false := by decide)
    (he : starEach (e :: es) X.env = (false, eval e X.env) :: starEach es X.env := by rfl) (hpl : (backTo pos (starEach es X.env)).any (·.1) = false := by rfl) : PE X (.Call (.Name x p) (e :: es) [] pos) (tCB r t) := by
  intro pins s σ H Q I h
  refine wpAny_Call_Name_kw (ld_blt I hg hm hv ?_ hn hdb)
  exact PyProof.Rows.callWith_builtin1 (thn (ha pos pins s σ H _ I h) fun us s1 zq5 => by obtain ⟨vs, H1, I1, r1, q1⟩ := zq5; exact (hc pins s1 σ H1 vs us Q I1 r1 q1)) he hpl
theorem pe_callTy (hc : CallR X (.type T) r) (hg : Gl X x) (hm : X.mg x = none) (hv : bootBuiltins x = some (.type T)) (ha : PA X (e :: es) t) (hn : x ≠ "__name__" := by decide) (hdb : (x == ("__debug__" : Str)) = false := by decide)
    (he : starEach (e :: es) X.env = (false, eval e X.env) :: starEach es X.env := by rfl) (hpl : (backTo pos (starEach es X.env)).any (·.1) = false := by rfl) : PE X (.Call (.Name x p) (e :: es) [] pos) (tCB r t) := by
  intro pins s σ H Q I h
  refine wpAny_Call_Name_kw (ld_blt I hg hm hv ?_ hn hdb)
  exact PyProof.Rows.callWith_type1 (thn (ha pos pins s σ H _ I h) fun us s1 zq6 => by obtain ⟨vs, H1, I1, r1, q1⟩ := zq6; exact (hc pins s1 σ H1 vs us Q I1 r1 q1)) he hpl
end
end L2
namespace HT
open PySem PyProof.Rows
section
variable {prog : Program} {w : World} {A : Around} {E : Value → Shared → Prop} {s : Shared}
theorem cat_tup {t b : Addr} {vs ws : List Value} {Q : Value → Shared → Prop} (ht : IsTup s.heap t vs.toArray) (hb : IsTup s.heap b ws.toArray) (hv : vs ≠ [])
    (h1 : ws = [] → Q (.ref t) s) (h2 : ws ≠ [] → Q (.ref s.heap.objs.size) { s with heap := s.heap.push { cls := .type "tuple", data := .seq (vs ++ ws).toArray } })
    (hsz : vs.length + ws.length ≤ sizeLine) : wpAny (model prog w) A (binaryOp .Add (.ref t) (.ref b)) Q E s := by
  obtain ⟨⟨cls, dd, data, sl⟩, ho, hc, n, hd⟩ := id ht
  obtain ⟨⟨cls2, dd2, data2, sl2⟩, ho2, hc2, n2, hd2⟩ := id hb
  simp only at hc hd hc2 hd2
  subst hc hd hc2 hd2
  have e : vs.toArray ++ ws.toArray = (vs ++ ws).toArray := by simp
  by_cases hw : ws = []
  · exact concat_meets ⟨_, ho, rfl⟩ ⟨_, ho2, rfl⟩ noFill_tuple_add seq_tuple_add PySem.F.slot_tuple_add PySem.F.entry_tuple_add (PySem.F.args_tuple_add_2 _ _)
      (tuple_addW1 t b vs.toArray ws.toArray n n2 dd dd2 sl sl2 (by simpa using hv) (by simp [hw])) ⟨ho, ho2, h1 hw⟩
  · refine concat_meets ⟨_, ho, rfl⟩ ⟨_, ho2, rfl⟩ noFill_tuple_add seq_tuple_add PySem.F.slot_tuple_add PySem.F.entry_tuple_add (PySem.F.args_tuple_add_2 _ _)
      (tuple_addW2 t b vs.toArray ws.toArray n n2 dd dd2 sl sl2 (by simpa using hv) (by simpa using hw) (by rw [List.size_toArray, List.size_toArray]; exact hsz)) ⟨ho, ho2, ?_⟩
    rw [e]
    exact h2 hw
noncomputable def sIx (n d : Nat) : Option Int → Nat
  | none => d
  | some v => if v < 0 then (v + (n : Int)).toNat else min v.toNat n
theorem sIx_none (n d : Nat) : sIx n d none = d := rfl
theorem sIx_nat (n d k : Nat) : sIx n d (some (k : Int)) = min k n := by
  show (if (k : Int) < 0 then ((k : Int) + (n : Int)).toNat else min (k : Int).toNat n) = min k n
  rw [if_neg (by omega), Int.toNat_natCast]
theorem sIx_le (n d : Nat) (hd : d ≤ n) (o : Option Int) : sIx n d o ≤ n := by
  cases o with
  | none => exact hd
  | some v =>
    show (if v < 0 then (v + (n : Int)).toNat else min v.toNat n) ≤ n
    by_cases hv : v < 0
    · rw [if_pos hv]; omega
    · rw [if_neg hv]; exact Nat.min_le_right _ _
theorem clip_eq (v : Int) (n d : Nat) : (if v < 0 then max (v + (n : Int)) 0 else min v (n : Int)) = ((sIx n d (some v) : Nat) : Int) := by
  show (if v < 0 then max (v + (n : Int)) 0 else min v (n : Int)) = (((if v < 0 then (v + (n : Int)).toNat else min v.toNat n) : Nat) : Int)
  by_cases hv : v < 0
  · simp only [if_pos hv]; omega
  · simp only [if_neg hv]; omega
theorem adjust_gen (lo hi : Option Int) (n : Nat) : Builtin.Slice.sliceAdjust lo hi 1 (n : Int) = (((sIx n 0 lo : Nat) : Int), ((sIx n n hi : Nat) : Int)) := by
  have h1 : ¬ ((1 : Int) < 0) := by omega
  unfold Builtin.Slice.sliceAdjust
  simp only [h1, if_false]
  refine Prod.ext ?_ ?_
  · cases lo with
    | none => rfl
    | some v => exact clip_eq v n 0
  · cases hi with
    | none => rfl
    | some v => exact clip_eq v n n
theorem places_gen (i j : Nat) : Builtin.Slice.slicePlaces (i : Int) (j : Int) 1 = j - i := by
  unfold Builtin.Slice.slicePlaces
  have h1 : (1 : Int) > 0 := by omega
  simp only [h1, if_true, Int.ediv_one]
  split <;> omega
theorem slicePart_ {v : Value} {o : Option Int} {Q : Option Int → Shared → Prop} (p : IsPart v o) (h : Q o s) : wpAny (model prog w) A (Builtin.Slice.slicePartIndex v) Q E s := by
  cases p with
  | none => exact slicePart_none h
  | int i t => exact slicePart_int h
theorem sliceApplied_gen {sl : Addr} {vl vu : Value} {lo hi : Option Int} {n : Nat} {Q : Int × Int × Nat → Shared → Prop} (hs : s.heap.IsSliceOf sl vl vu .none) (pl : IsPart vl lo) (pu : IsPart vu hi)
    (h : Q (((sIx n 0 lo : Nat) : Int), 1, sIx n n hi - sIx n 0 lo) s) : wpAny (model prog w) A (Builtin.Slice.sliceApplied (.ref sl) (pure (n : Int))) Q E s := by
  obtain ⟨os, hos, hcs, hds⟩ := id hs
  unfold Builtin.Slice.sliceApplied Builtin.Slice.sliceFields
  refine wpAny_bind (wpAny_bind (wpAny_field hos hds (x := vl) rfl (wpAny_bind (wpAny_field hos hds (x := vu) rfl (wpAny_bind (wpAny_field hos hds (x := .none) rfl (wpAny_pure ?_)))))))
  refine wpAny_bind (slicePart_none ?_)
  show wpAny _ _ (if ((1 : Int) == 0) = true then _ else _) _ _ s
  rw [if_neg (by decide)]
  refine wpAny_bind (slicePart_ pl (wpAny_bind (slicePart_ pu (wpAny_bind (wpAny_pure ?_)))))
  show wpAny _ _ (match Builtin.Slice.sliceAdjust lo hi 1 (n : Int) with | (lo, hi) => pure (lo, (1 : Int), Builtin.Slice.slicePlaces lo hi 1)) _ _ s
  rw [adjust_gen lo hi n]
  show wpAny _ _ (pure (((sIx n 0 lo : Nat) : Int), (1 : Int), Builtin.Slice.slicePlaces ((sIx n 0 lo : Nat) : Int) ((sIx n n hi : Nat) : Int) 1)) _ _ s
  rw [places_gen]
  exact wpAny_pure h
theorem pick_gen (xs : Array Value) (i k : Nat) : ((List.range k).filterMap fun (m : Nat) => xs[((i : Int) + (m : Int) * 1).toNat]?).toArray = ((xs.toList.drop i).take k).toArray := by
  have e : (fun (m : Nat) => xs[((i : Int) + (m : Int) * 1).toNat]?) = fun m => xs[i + m]? := by
    funext m
    have : ((i : Int) + (m : Int) * 1).toNat = i + m := by omega
    rw [this]
  rw [e]
  have := pick_run xs i k
  rw [List.filterMap_map] at this
  have e2 : ((fun x => xs[x]?) ∘ fun x => i + x) = fun m => xs[i + m]? := rfl
  rw [e2] at this
  rw [this]
theorem getItem_tuple_cut {t sl : Addr} {items : Array Value} {vl vu : Value} {lo hi : Option Int} {Q : Value → Shared → Prop} (ht : IsTup s.heap t items) (hs : s.heap.IsSliceOf sl vl vu .none) (pl : IsPart vl lo) (pu : IsPart vu hi)
    (hw : ¬ (sIx items.size 0 lo = 0 ∧ sIx items.size items.size hi = items.size))
    (h : Q (.ref s.heap.objs.size) { s with heap := s.heap.push { cls := .type "tuple", data := .seq ((items.toList.drop (sIx items.size 0 lo)).take (sIx items.size items.size hi - sIx items.size 0 lo)).toArray } })
    (hsz : items.size ≤ sizeLine) : wpAny (model prog w) A (getItem (.ref t) (.ref sl)) Q E s := by
  have htake : sizeOk (.seq ((items.toList.drop (sIx items.size 0 lo)).take (sIx items.size items.size hi - sIx items.size 0 lo)).toArray) := by
    show ((items.toList.drop (sIx items.size 0 lo)).take (sIx items.size items.size hi - sIx items.size 0 lo)).toArray.size ≤ sizeLine
    rw [List.size_toArray, List.length_take, List.length_drop, Array.length_toList]
    omega
  have hj : sIx items.size items.size hi ≤ items.size := sIx_le _ _ (Nat.le_refl _) hi
  obtain ⟨os, hos, hcs, hds⟩ := id hs
  have hTs : s.TypeIs (.ref sl) "slice" := ⟨os, hos, hcs⟩
  unfold getItem
  try with_reducible refine wpAny_holding ?_
  first | refine wpAny_bind (wpAny_pure ?_) | skip
  refine wpAny_bind (wpAny_sequenceKey ht.typeIs (by decide) ?_)
  refine wpAny_bind (wpAny_callSpecial?_slot (name := Str.ofString "__getitem__") ht.typeIs PyProof.Rows.slot_tuple_getitem
    (wpAny_call_entry PyProof.Rows.slot_tuple_getitem ht.typeIs entry_tuple_getitem ?_ (args_tuple_getitem _ _)))
  show wpAny _ _ (Builtin.Tuple.tupleItemsOf (.ref t) >>= _) _ _ s
  refine wpAny_bind (tupleItemsOf_ ht ?_)
  refine wpAny_bind (wpAny_typeOf hTs ?_)
  rw [if_pos (by decide)]
  refine wpAny_bind (sliceApplied_gen hs pl pu ?_)
  have hno : ¬ ((((sIx items.size 0 lo : Nat) : Int) == 0 && (1 : Int) == 1 && (sIx items.size items.size hi - sIx items.size 0 lo) == items.size) = true) := by
    intro q
    rw [Bool.and_eq_true, Bool.and_eq_true] at q
    have q1 : ((sIx items.size 0 lo : Nat) : Int) = 0 := eq_of_beq q.1.1
    have q2 : sIx items.size items.size hi - sIx items.size 0 lo = items.size := eq_of_beq q.2
    exact hw ⟨by omega, by omega⟩
  show wpAny _ _ (if (((sIx items.size 0 lo : Nat) : Int) == 0 && (1 : Int) == 1 && (sIx items.size items.size hi - sIx items.size 0 lo) == items.size) = true then _ else _) _ _ s
  rw [if_neg hno, pick_gen]
  first
    | exact wpAny_bind (m := Builtin.Tuple.tupleExact _) (wpAny_newObj_type (wpAny_pure ⟨_, rfl, wpAny_pure h⟩) htake)
    | exact wpAny_bind (m := Builtin.Tuple.tupleExact _) (wpAny_newObj_type (wpAny_bind (wpAny_pure (wpAny_pure ⟨_, rfl, wpAny_pure h⟩))) htake)
    | exact wpAny_bind (wpAny_bind (m := Builtin.Tuple.tupleExact _) (wpAny_newObj_type (wpAny_pure (wpAny_pure ⟨_, rfl, wpAny_pure h⟩)) htake))
    | exact wpAny_bind (wpAny_bind (m := Builtin.Tuple.tupleExact _) (wpAny_newObj_type (wpAny_pure ⟨_, rfl, wpAny_pure h⟩) htake))
end
end HT
namespace L2
open PySem PySem.Spec PyProof.Rows
noncomputable abbrev TO := St → Hp → (Option Int → Hp → Prop) → Prop
noncomputable def PO (X : Cx) (e : Option Expr) (t : TO) : Prop :=
  ∀ (pins : List (Addr × Obj)) (s : Shared) (σ : St) (H : Hp) (Q : Option Int → Hp → Prop), Inv X pins σ H s → t σ H Q →
    wpAny (model X.prog X.w) X.A (evalPart e X.env) (fun u s' => ∃ o H', Inv X pins σ H' s' ∧ IsPart u o ∧ Q o H') X.xe s
noncomputable def tNoPart : TO := fun _ H Q => Q none H
noncomputable def tPart (t : TE) : TO := fun σ H Q => t σ H fun x H1 => ∃ i, x = .int i ∧ Q (some i) H1
section
variable {X : Cx} {e : Expr} {te : TE} {lo hi : Option Expr} {tl th : TO} {pos p2 : Pos}
theorem po_none : PO X none tNoPart := by
  intro pins s σ H Q I h
  rw [evalPart_none]
  exact wpAny_pure ⟨none, H, I, .none, h⟩
theorem po_some (h : PE X e te) : PO X (some e) (tPart te) := by
  intro pins s σ H Q I hw
  rw [evalPart_some]
  refine thn (h pins s σ H _ I hw) fun u s1 zr2342 => ?_
  obtain ⟨x, H1, I1, r1, q1⟩ := zr2342
  obtain ⟨i, rfl, q⟩ := q1
  obtain ⟨t, rfl⟩ := r1
  exact ⟨some i, H1, I1, .int i t, q⟩
noncomputable def SlR (X : Cx) (r : V → Option Int → Option Int → Hp → VK → Prop) : Prop :=
  ∀ (pins : List (Addr × Obj)) (s : Shared) (σ : St) (H : Hp) (x : V) (v vl vu : Value) (lo hi : Option Int) (sl : Addr) (Q : VK), Inv X pins σ H s → RelV x v → s.heap.IsSliceOf sl vl vu .none → IsPart vl lo → IsPart vu hi → r x lo hi H Q →
    ∃ T id, typeLookup (.type T) "__getitem__" = pure (some (.builtin id)) ∧ s.TypeIs v T ∧ wpAny (model X.prog X.w) X.A (getItem v (.ref sl)) (EP X pins σ Q) X.xe s
noncomputable def tSl (r : V → Option Int → Option Int → Hp → VK → Prop) (te : TE) (tl th : TO) : TE := fun σ H Q => te σ H fun x H1 => tl σ H1 fun l H2 => th σ H2 fun u H3 => r x l u H3 Q
theorem pe_slice {r : V → Option Int → Option Int → Hp → VK → Prop} (hr : SlR X r) (he : PE X e te) (hl : PO X lo tl) (hu : PO X hi th) : PE X (.Subscript e (.Slice lo hi none p2) pos) (tSl r te tl th) := by
  intro pins s σ H Q I h
  refine Subscript_ (thn (he pins s σ H _ I h) fun v s1 zr2352 => ?_)
  obtain ⟨x, H1, I1, r1, q1⟩ := zr2352
  refine wpAny_Slice (thn (hl pins s1 σ H1 _ I1 q1) fun vl s2 ⟨l, H2, I2, pl, q2⟩ => thn (hu pins s2 σ H2 _ I2 q2) fun vu s3 zr2353 => ?_)
  obtain ⟨u, H3, I3, pu, q3⟩ := zr2353
  rw [evalPart_none]
  refine wpAny_pure ?_
  have I4 : Inv X pins σ H3 { s3 with heap := s3.heap.push { cls := .type "slice", data := .fields #[vl, vu, .none] } } := I3.kept (t' := s3.toks) fun b ob q => Heap.get?_push_of_some _ q
  obtain ⟨T, id, hT, ht, hg⟩ := hr pins { s3 with heap := s3.heap.push { cls := .type "slice", data := .fields #[vl, vu, .none] } } σ H3 x v vl vu l u s3.heap.objs.size Q I4 r1 (Heap.IsSliceOf.new ..) pl pu q3
  show wpAny (model X.prog X.w) X.A (subscriptTail e (.Slice lo hi none p2) v (.ref s3.heap.objs.size)) (EP X pins σ Q) X.xe { s3 with heap := s3.heap.push { cls := .type "slice", data := .fields #[vl, vu, .none] } }
  exact tail_any (ops := [.ref s3.heap.objs.size, v]) ht hT hg (by with_unfolding_all rfl)
noncomputable def cutV (xs : List V) (lo hi : Option Int) : List V := (xs.drop (HT.sIx xs.length 0 lo)).take (HT.sIx xs.length xs.length hi - HT.sIx xs.length 0 lo)
theorem cutV_length (xs : List V) (lo hi : Option Int) : (cutV xs lo hi).length ≤ xs.length := by
  unfold cutV
  rw [List.length_take, List.length_drop]
  omega
noncomputable def rSlT (K : PySem.W.Frag) : V → Option Int → Option Int → Hp → VK → Prop := fun x lo hi H Q => ∃ a xs, x = .ref a ∧ SqT K H a xs ∧
  ¬ (HT.sIx xs.length 0 lo = 0 ∧ HT.sIx xs.length xs.length hi = xs.length) ∧ ∀ p, H p = none → Q (.ref p) (upd H p (.tup (cutV xs lo hi)))
theorem sl_tup : SlR X (rSlT X.K) := by
  intro pins s σ H x v vl vu lo hi sl Q I rx hs pl pu h
  obtain ⟨a, xs, rfl, hx, hw, q⟩ := h
  cases rx
  obtain ⟨its, r, ht, hz⟩ := I.tuple hx
  have hlen : its.toArray.size = xs.length := by rw [List.size_toArray]; exact r.length.symm
  refine ⟨"tuple", _, PyProof.Rows.slot_tuple_getitem.lookup, ht.typeIs, ?_⟩
  refine HT.getItem_tuple_cut ht hs pl pu (by rw [hlen]; exact hw) ?_ (by rw [hlen]; exact hz)
  rw [hlen]
  refine ⟨.ref s.heap.objs.size, _, I.laid (t' := s.toks) (o := .tup (cutV xs lo hi)) (fun b ob q => Heap.get?_push_of_some _ q) (Nat.le_refl _) ?_, rfl, q _ (I.hok.fresh (Nat.le_refl _))⟩
  exact ⟨Nat.le_trans (cutV_length xs lo hi) hz, _, (r.drop (HT.sIx xs.length 0 lo)).take (HT.sIx xs.length xs.length hi - HT.sIx xs.length 0 lo), IsTup.new _ _⟩
noncomputable def rCatT (K : PySem.W.Frag) : R2 := fun x y H Q => ∃ a b xs ys, x = .ref a ∧ y = .ref b ∧ SqT K H a xs ∧ SqT K H b ys ∧ xs ≠ [] ∧ xs.length + ys.length ≤ sizeLine ∧
  (ys = [] → Q (.ref a) H) ∧ (ys ≠ [] → ∀ p, H p = none → Q (.ref p) (upd H p (.tup (xs ++ ys))))
theorem Vals.nil_iff {xs : List V} {us : List Value} (r : Vals xs us) : us = [] ↔ xs = [] := by
  cases r with
  | nil => simp
  | cons _ _ => simp
theorem op_catT : OpR X (binaryOp .Add) (rCatT X.K) := by
  intro pins s σ H x y v u Q I rx ry h
  obtain ⟨a, b, xs, ys, rfl, rfl, ha, hb, hx, hz, q1, q2⟩ := h
  cases rx
  cases ry
  obtain ⟨its, r1, p1, _⟩ := I.tuple ha
  obtain ⟨its2, r2, p2, _⟩ := I.tuple hb
  refine HT.cat_tup p1 p2 (fun z => hx (r1.nil_iff.mp z)) (fun z => ⟨.ref a, H, I, rfl, q1 (r2.nil_iff.mp z)⟩) (fun z => ?_) (by rw [← r1.length, ← r2.length]; exact hz)
  refine ⟨.ref s.heap.objs.size, _, I.laid (t' := s.toks) (o := .tup (xs ++ ys)) (fun b ob q => Heap.get?_push_of_some _ q) (Nat.le_refl _) ?_, rfl, q2 (fun w => z (r2.nil_iff.mpr w)) _ (I.hok.fresh (Nat.le_refl _))⟩
  exact ⟨by rw [List.length_append]; exact hz, _, r1.append r2, IsTup.new _ _⟩
end
end L2
namespace L2
open PySem PySem.Spec PyProof.Rows
noncomputable def ixN (n : Nat) (i : Int) : Option Nat := if 0 ≤ i then (if i < n then some i.toNat else none) else if -(n : Int) ≤ i then some (i + n).toNat else none
noncomputable def atI {α : Type} (xs : List α) (i : Int) : Option α := (ixN xs.length i).bind fun j => xs[j]?
theorem ixN_seq {n : Nat} {i : Int} {j : Nat} (h : ixN n i = some j) : seqIndex? i n = some j ∧ j < n ∧ -(n : Int) ≤ i ∧ i < n := by
  unfold ixN at h
  by_cases h0 : 0 ≤ i
  · rw [if_pos h0] at h
    by_cases h1 : i < n
    · rw [if_pos h1] at h
      have e : i.toNat = j := Option.some.inj h
      exact ⟨by rw [seqIndex_of h0 h1, e], by omega, by omega, h1⟩
    · rw [if_neg h1] at h; cases h
  · rw [if_neg h0] at h
    by_cases h1 : -(n : Int) ≤ i
    · rw [if_pos h1] at h
      have e : (i + n).toNat = j := Option.some.inj h
      exact ⟨by rw [seqIndex_neg (by omega) h1, e], by omega, h1, by omega⟩
    · rw [if_neg h1] at h; cases h
theorem atI_get {α : Type} {xs : List α} {i : Int} {v : α} (h : atI xs i = some v) : ∃ j, seqIndex? i xs.length = some j ∧ xs[j]? = some v ∧ j < xs.length ∧ -(xs.length : Int) ≤ i ∧ i < xs.length := by
  unfold atI at h
  cases e : ixN xs.length i with
  | none => rw [e] at h; cases h
  | some j =>
    rw [e] at h
    obtain ⟨h1, h2, h3, h4⟩ := ixN_seq e
    exact ⟨j, h1, h, h2, h3, h4⟩
theorem atI_nat {α : Type} {xs : List α} {j : Nat} {v : α} (h : xs[j]? = some v) : atI xs (j : Int) = some v := by
  have hj : j < xs.length := (List.getElem?_eq_some_iff.mp h).1
  have e : ixN xs.length (j : Int) = some j := by
    unfold ixN
    rw [if_pos (by omega), if_pos (by omega)]; simp
  unfold atI; rw [e]; exact h
theorem atI_last {α : Type} (xs : List α) (v : α) : atI (xs ++ [v]) (-1) = some v := by
  have hl : (xs ++ [v]).length = xs.length + 1 := by simp
  have e : ixN (xs ++ [v]).length (-1) = some xs.length := by
    unfold ixN
    rw [hl, if_neg (by decide), if_pos (by omega)]
    congr 1
    omega
  unfold atI
  rw [e]
  show (xs ++ [v])[xs.length]? = some v
  simp
noncomputable def PlainIx (b : Expr) : Prop := ∀ o i, subscripted b false o i = operate [o, i] (getItem o i)
noncomputable def IxR (X : Cx) (r : R2) : Prop :=
  ∀ (value slice : Expr) (pins : List (Addr × Obj)) (s : Shared) (σ : St) (H : Hp) (x y : V) (v u : Value) (Q : VK), Inv X pins σ H s → RelV x v → RelV y u → r x y H Q →
    subscripted slice false v u = operate [v, u] (getItem v u) → wpAny (model X.prog X.w) X.A (subscriptTail value slice v u) (EP X pins σ Q) X.xe s
noncomputable def MtR (X : Cx) (id : String) (r : V → List V → Hp → VK → Prop) : Prop :=
  ∀ (pins : List (Addr × Obj)) (s : Shared) (σ : St) (H : Hp) (x : V) (xs : List V) (v : Value) (us : List Value) (Q : VK), Inv X pins σ H s → RelV x v → Vals xs us → r x xs H Q →
    wpAny (model X.prog X.w) X.A (call (.builtin id) (v :: us)) (EP X pins σ Q) X.xe s
section
variable {X : Cx} {a b : Expr} {ta tb : TE} {pos : Pos}
theorem pe_ix {r : R2} (hr : IxR X r) (ha : PE X a ta) (hb : PE X b tb) (hs : PlainIx b) : PE X (.Subscript a b pos) (tOp r ta tb) := by
  intro pins s σ H Q I h
  exact Subscript_ (binT ha hb I h fun v u s2 x y H2 I2 rx ry q => hr a b pins s2 σ H2 x y v u Q I2 rx ry q (hs _ _))
noncomputable def rIxL (K : PySem.W.Frag) : R2 := fun x y H Q => ∃ p xs i v, x = .ref p ∧ y = .int i ∧ SqL K H p xs ∧ atI xs i = some v ∧ Q v H
noncomputable def rIxT (K : PySem.W.Frag) : R2 := fun x y H Q => ∃ p xs i v, x = .ref p ∧ y = .int i ∧ SqT K H p xs ∧ atI xs i = some v ∧ Q v H
noncomputable def rIxS : R2 := fun x y H Q => ∃ z i c, x = .str z ∧ y = .int i ∧ z.length ≤ sizeLine ∧ atI z.cps.toList i = some c ∧ Q (.str ⟨#[c]⟩) H
theorem ix_list : IxR X (rIxL X.K) := by
  intro value slice pins s σ H x y v u Q I rx ry h hs
  obtain ⟨p, xs, i, z, rfl, rfl, hq, he, q⟩ := h
  cases rx
  obtain ⟨t, rfl⟩ := ry
  obtain ⟨its, r, pl, hz⟩ := I.list hq
  obtain ⟨j, h1, h2, h3, h4, h5⟩ := atI_get he
  obtain ⟨w, ew, rw'⟩ := r.get h2
  have hl := r.length
  have hn := line63
  have fin : EP X pins σ Q w s := ⟨z, H, I, rw', q⟩
  by_cases h0 : 0 ≤ i
  · have hj : i.toNat = j := by
      rw [seqIndex_of h0 h5] at h1
      exact Option.some.inj h1
    exact item_listR pl.isList h0 (by omega) (by rw [hj]; simpa using ew) fin hs
  · have hj : (i + (its.toArray.size : Int)).toNat = j := by
      rw [seqIndex_neg (by omega) h4] at h1
      rw [List.size_toArray, ← hl]
      exact Option.some.inj h1
    exact subscriptTail_builtinR (x := w) pl.isList.typeIs slot_list_getitem.lookup
      (wpAny_getItem_list_neg (Q := fun r s' => r = w ∧ EP X pins σ Q r s') pl.isList (by omega) (by rw [List.size_toArray] <;> omega) (by omega) (by rw [hj]; simpa using ew) ⟨rfl, fin⟩) hs
theorem ix_tup : IxR X (rIxT X.K) := by
  intro value slice pins s σ H x y v u Q I rx ry h hs
  obtain ⟨p, xs, i, z, rfl, rfl, hq, he, q⟩ := h
  cases rx
  obtain ⟨t, rfl⟩ := ry
  obtain ⟨its, r, pl, hz⟩ := I.tuple hq
  obtain ⟨j, h1, h2, h3, h4, h5⟩ := atI_get he
  obtain ⟨w, ew, rw'⟩ := r.get h2
  have hl := r.length
  have hn := line63
  have fin : EP X pins σ Q w s := ⟨z, H, I, rw', q⟩
  exact subscriptTail_builtinR (x := w) pl.typeIs slot_tuple_getitem.lookup
    (getItem_tuple (j := j) (Q := fun r s' => r = w ∧ EP X pins σ Q r s') pl (by omega) (by omega) (by rw [List.size_toArray, ← hl]; exact h1) (by simpa using ew) ⟨rfl, fin⟩) hs
theorem ix_str : IxR X rIxS := by
  intro value slice pins s σ H x y v u Q I rx ry h hs
  obtain ⟨z, i, c, rfl, rfl, hz, he, q⟩ := h
  obtain ⟨t, rfl⟩ := rx
  obtain ⟨t', rfl⟩ := ry
  obtain ⟨j, h1, h2, h3, h4, h5⟩ := atI_get he
  have hl : z.cps.toList.length = z.length := by simp [Str.length]
  rw [hl] at h1 h4 h5
  have hn := line63
  exact tail_any (typeIs_str s z t) slot_str_getitem.lookup (getItem_str (c := c) (by
    have e1 : decide (i < -(2 ^ 63 : Int)) = false := decide_eq_false (by omega)
    have e2 : decide (i ≥ 2 ^ 63) = false := decide_eq_false (by omega)
    rw [e1, e2, Bool.or_false]) (by rw [h1]; simpa using h2) ⟨.str ⟨#[c]⟩, H, I.tok _, ⟨_, rfl⟩, q⟩) hs
theorem mapSeq_set (its : List Value) (n j : Nat) (u : Value) : Obj.mapSeq (·.setIfInBounds j u) { cls := .type "list", data := .seq its.toArray n } = { cls := .type "list", data := .seq (its.set j u).toArray n } := by
  simp [Obj.mapSeq]
theorem Inv.lst {pins : List (Addr × Obj)} {σ : St} {H : Hp} {s : Shared} {p : Addr} {xs : List V} (I : Inv X pins σ H s) (h : H p = some (.lst xs)) :
    ∃ (its : List Value) (n : Nat), Vals xs its ∧ s.heap.get? p = some { cls := .type "list", data := .seq its.toArray n } ∧ xs.length ≤ sizeLine := by
  obtain ⟨z, its, n, r, e⟩ := I.hok p _ h
  exact ⟨its, n, r, e, z⟩
theorem Inv.lstUpd {pins : List (Addr × Obj)} {σ : St} {H : Hp} {s : Shared} {p : Addr} {xs ys : List V} {its its' : List Value} {n n' : Nat} {f : Obj → Obj} (I : Inv X pins σ H s) (h : H p = some (.lst xs))
    (ho : s.heap.get? p = some { cls := .type "list", data := .seq its.toArray n }) (hf : f { cls := .type "list", data := .seq its.toArray n } = { cls := .type "list", data := .seq its'.toArray n' }) (r : Vals ys its') (hz : ys.length ≤ sizeLine) (t : Nat) :
    Inv X pins σ (upd H p (.lst ys)) { s with heap := s.heap.update p f, toks := t } := by
  have e : (s.heap.update p f).get? p = some { cls := .type "list", data := .seq its'.toArray n' } := by
    rw [Heap.get?_update_self f ho (by rw [hf] <;> rfl), hf]
  refine I.write (x := p) (e := p) (by rw [h]; trivial) (.inl rfl) (fun b u hb q => (Heap.get?_update_other _ _ (Ne.symm hb)).trans q) ⟨_, e⟩ ?_
  exact ⟨hz, its', n', r, e⟩
noncomputable def rSetL : V → V → V → Hp → (Hp → Prop) → Prop := fun o i v H Q => ∃ p xs k j, o = .ref p ∧ i = .int k ∧ H p = some (.lst xs) ∧ ixN xs.length k = some j ∧ Q (upd H p (.lst (xs.set j v)))
theorem set_list : PSet X rSetL := by
  intro pins s σ H o i v ov iv u Q I ro ri rv h
  obtain ⟨p, xs, k, j, rfl, rfl, hp, hj, q⟩ := h
  cases ro
  obtain ⟨t, rfl⟩ := ri
  obtain ⟨its, n, r, ho, hz⟩ := I.lst hp
  obtain ⟨h1, h2, h3, h4⟩ := ixN_seq hj
  have hl := r.length
  have hn := line63
  have I' : Inv X pins σ (upd H p (.lst (xs.set j v))) { s with heap := s.heap.update p (Obj.mapSeq (·.setIfInBounds j u)) } :=
    I.lstUpd hp ho (mapSeq_set its n j u) (r.set rv j) (by rw [List.length_set]; exact hz) s.toks
  by_cases h0 : 0 ≤ k
  · have hk : k.toNat = j := by
      rw [seqIndex_of h0 h4] at h1
      exact Option.some.inj h1
    exact PySem.W.ki_setAt ho h0 (by omega) (by rw [List.size_toArray, ← hl]; exact h4) (by rw [hk]; exact ⟨_, I', q⟩)
  · have hk : (k + (its.toArray.size : Int)).toNat = j := by
      rw [seqIndex_neg (by omega) h3] at h1
      rw [List.size_toArray, ← hl]
      exact Option.some.inj h1
    exact PySem.W.ki_setBack ho (by omega) (by rw [List.size_toArray, ← hl]; exact h3) (by omega) (by rw [hk]; exact ⟨_, I', q⟩)
theorem slice_bounds (lo hi : Option Int) (n : Nat) : (sliceBounds lo hi none n).1 = ((HT.sIx n 0 lo : Nat) : Int) ∧ (sliceBounds lo hi none n).2.1 = ((HT.sIx n n hi : Nat) : Int) ∧ (sliceBounds lo hi none n).2.2 = 1 := by
  refine ⟨?_, ?_, rfl⟩
  · cases lo with
    | none => simp [sliceBounds, HT.sIx]
    | some i =>
      simp only [sliceBounds, HT.sIx, Option.getD_none, show (1 : Int) > 0 by decide, if_true]
      by_cases h : i < 0
      · simp only [h, if_true] <;> omega
      · simp only [h, if_false] <;> omega
  · cases hi with
    | none => simp [sliceBounds, HT.sIx]
    | some i =>
      simp only [sliceBounds, HT.sIx, Option.getD_none, show (1 : Int) > 0 by decide, if_true]
      by_cases h : i < 0
      · simp only [h, if_true] <;> omega
      · simp only [h, if_false] <;> omega
theorem slicePick_cut (its : List Value) (lo hi : Option Int) : slicePick its.toArray lo hi none = ((its.drop (HT.sIx its.length 0 lo)).take (HT.sIx its.length its.length hi - HT.sIx its.length 0 lo)).toArray := by
  obtain ⟨h1, h2, h3⟩ := slice_bounds lo hi its.toArray.size
  unfold slicePick
  rw [h1, h2, h3]
  simp only [sliceRange_one, pick_run, List.size_toArray] <;> rfl
noncomputable def rSlL (K : PySem.W.Frag) : V → Option Int → Option Int → Hp → VK → Prop := fun x lo hi H Q => ∃ a xs, x = .ref a ∧ SqL K H a xs ∧ ∀ p, H p = none → Q (.ref p) (upd H p (.lst (cutV xs lo hi)))
theorem sl_list : SlR X (rSlL X.K) := by
  intro pins s σ H x v vl vu lo hi sl Q I rx hs pl pu h
  obtain ⟨a, xs, rfl, hx, q⟩ := h
  cases rx
  obtain ⟨its, r, ht, hz⟩ := I.list hx
  have hlen := r.length
  refine ⟨"list", _, slot_list_getitem.lookup, ht.isList.typeIs, ?_⟩
  refine wpAny_getItem_list_slice ht.isList hs pl pu .none (by simp) ?_ (by rw [List.size_toArray] <;> omega)
  rw [slicePick_cut, ← hlen]
  refine ⟨.ref s.heap.objs.size, _, I.laid (t' := s.toks) (o := .lst (cutV xs lo hi)) (fun b ob q => Heap.get?_push_of_some _ q) (Nat.le_refl _) ?_, rfl, q _ (I.hok.fresh (Nat.le_refl _))⟩
  exact ⟨Nat.le_trans (cutV_length xs lo hi) hz, _, 0, (r.drop (HT.sIx xs.length 0 lo)).take (HT.sIx xs.length xs.length hi - HT.sIx xs.length 0 lo), Heap.get?_push_size _ rfl⟩
noncomputable def flatV : V → Bool
  | .non => true
  | .bl _ => true
  | .int _ => true
  | .str _ => true
  | _ => false
noncomputable def eqV : V → V → Bool
  | .non, .non => true
  | .bl a, .bl b => a == b
  | .bl a, .int b => (if a then 1 else 0) == b
  | .int a, .bl b => a == (if b then 1 else 0)
  | .int a, .int b => a == b
  | .str a, .str b => a == b
  | _, _ => false
theorem eqAt_V {A : Around} {s : Shared} {y x : V} {u v : Value} (ry : RelV y u) (rx : RelV x v) (fy : flatV y = true) (fx : flatV x = true) : SeqAt.EqAt A s u v (eqV y x) := by
  cases y with
  | non =>
    cases ry
    cases x with
    | non => cases rx; exact SeqAt.EqAt.same _
    | bl b => cases rx; exact SeqAt.EqAt.none_bool b
    | int b => obtain ⟨t, rfl⟩ := rx; exact SeqAt.EqAt.none_int b t
    | str b => obtain ⟨t, rfl⟩ := rx; exact SeqAt.EqAt.none_str b t
    | _ => exact absurd (show false = true from fx) Bool.false_ne_true
  | bl a =>
    cases ry
    cases x with
    | non => cases rx; exact SeqAt.EqAt.bool_none a
    | bl b => cases rx; exact SeqAt.EqAt.bool_bool a b
    | int b => obtain ⟨t, rfl⟩ := rx; exact SeqAt.EqAt.bool_int a b t
    | str b => obtain ⟨t, rfl⟩ := rx; exact SeqAt.EqAt.bool_str a b t
    | _ => exact absurd (show false = true from fx) Bool.false_ne_true
  | int a =>
    obtain ⟨t', rfl⟩ := ry
    cases x with
    | non => cases rx; exact SeqAt.EqAt.int_none a t'
    | bl b => cases rx; exact SeqAt.EqAt.int_bool a t' b
    | int b => obtain ⟨t, rfl⟩ := rx; exact SeqAt.EqAt.int_int a t' b t
    | str b => obtain ⟨t, rfl⟩ := rx; exact SeqAt.EqAt.int_str a t' b t
    | _ => exact absurd (show false = true from fx) Bool.false_ne_true
  | str a =>
    obtain ⟨t', rfl⟩ := ry
    cases x with
    | non => cases rx; exact SeqAt.EqAt.str_none a t'
    | bl b => cases rx; exact SeqAt.EqAt.str_bool a t' b
    | int b => obtain ⟨t, rfl⟩ := rx; exact SeqAt.EqAt.str_int a t' b t
    | str b => obtain ⟨t, rfl⟩ := rx; exact SeqAt.EqAt.str_str a t' b t
    | _ => exact absurd (show false = true from fx) Bool.false_ne_true
  | _ => exact absurd (show false = true from fy) Bool.false_ne_true
noncomputable def eqU (x : V) (u : Value) : Bool := match u with
  | .none => eqV .non x
  | .bool b => eqV (.bl b) x
  | .int i _ => eqV (.int i) x
  | .str z _ => eqV (.str z) x
  | _ => false
theorem eqU_of {x y : V} {u : Value} (r : RelV y u) (f : flatV y = true) : eqU x u = eqV y x := by
  cases y with
  | non => cases r; rfl
  | bl b => cases r; rfl
  | int i => obtain ⟨t, rfl⟩ := r; rfl
  | str z => obtain ⟨t, rfl⟩ := r; rfl
  | _ => exact absurd (show false = true from f) Bool.false_ne_true
theorem any_eqU {x : V} : ∀ {xs : List V} {us : List Value}, Vals xs us → xs.all flatV = true → us.any (eqU x) = xs.any fun y => eqV y x
  | _, _, .nil, _ => rfl
  | y :: xs, u :: us, .cons r t, f => by
    rw [List.all_cons, Bool.and_eq_true] at f
    rw [List.any_cons, List.any_cons, eqU_of r f.1, any_eqU t f.2]
theorem mem_eqAt {A : Around} {s : Shared} {x : V} {v : Value} (rx : RelV x v) (fx : flatV x = true) : ∀ {xs : List V} {us : List Value}, Vals xs us → xs.all flatV = true → ∀ u ∈ us, SeqAt.EqAt A s u v (eqU x u)
  | _, _, .nil, _ => fun u hu => by cases hu
  | y :: xs, u :: us, .cons r t, f => fun u' hu => by
    rw [List.all_cons, Bool.and_eq_true] at f
    rcases List.mem_cons.mp hu with rfl | hu
    · rw [eqU_of r f.1]; exact eqAt_V r rx f.1 fx
    · exact mem_eqAt rx fx t f.2 u' hu
noncomputable def inV (x : V) (xs : List V) : Bool := xs.any fun y => eqV y x
noncomputable def rIn (K : PySem.W.Frag) (neg : Bool) : R2 := fun x y H Q => ∃ p xs, y = .ref p ∧ (SqL K H p xs ∨ SqT K H p xs) ∧ flatV x = true ∧ xs.all flatV = true ∧ Q (.bl (if neg then !inV x xs else inV x xs)) H
theorem op_in_seq : OpR X (compareOp .In) (rIn X.K false) := by
  intro pins s σ H x y v u Q I rx ry h
  obtain ⟨p, xs, rfl, hq, fx, fs, q⟩ := h
  cases ry
  rcases hq with hq | hq
  · obtain ⟨its, r, pl, hz⟩ := I.list hq
    refine SeqAt.in_listAt (eqU x) pl.isList (fun w hw => mem_eqAt rx fx r fs w (by simpa using hw)) ⟨.bl _, H, I, rfl, ?_⟩
    rw [show its.toArray.any (eqU x) = its.any (eqU x) by simp, any_eqU r fs]
    exact q
  · obtain ⟨its, r, pl, hz⟩ := I.tuple hq
    refine SeqAt.in_tupleAt (eqU x) pl (fun w hw => mem_eqAt rx fx r fs w (by simpa using hw)) ⟨.bl _, H, I, rfl, ?_⟩
    rw [show its.toArray.any (eqU x) = its.any (eqU x) by simp, any_eqU r fs]
    exact q
theorem op_notIn_seq : OpR X (compareOp .NotIn) (rIn X.K true) := by
  intro pins s σ H x y v u Q I rx ry h
  obtain ⟨p, xs, rfl, hq, fx, fs, q⟩ := h
  cases ry
  rcases hq with hq | hq
  · obtain ⟨its, r, pl, hz⟩ := I.list hq
    refine SeqAt.notIn_listAt (eqU x) pl.isList (fun w hw => mem_eqAt rx fx r fs w (by simpa using hw)) ⟨.bl _, H, I, rfl, ?_⟩
    rw [show its.toArray.any (eqU x) = its.any (eqU x) by simp, any_eqU r fs]
    exact q
  · obtain ⟨its, r, pl, hz⟩ := I.tuple hq
    refine SeqAt.notIn_tupleAt (eqU x) pl (fun w hw => mem_eqAt rx fx r fs w (by simpa using hw)) ⟨.bl _, H, I, rfl, ?_⟩
    rw [show its.toArray.any (eqU x) = its.any (eqU x) by simp, any_eqU r fs]
    exact q
theorem call_len_seq : CallR X (.builtin "len") (fun xs H Q => ∃ p ys, xs = [.ref p] ∧ (SqL X.K H p ys ∨ SqT X.K H p ys) ∧ Q (.int ys.length) H) := by
  intro pins s σ H xs us Q I r h
  obtain ⟨p, ys, rfl, hq, q⟩ := h
  obtain ⟨u, rfl, rx⟩ := vals1 r
  cases rx
  have hn := line63
  rcases hq with hq | hq
  · obtain ⟨its, r', pl, hz⟩ := I.list hq
    have hlen := r'.length
    exact Calls.call_len_list pl.isList (by simp only [List.size_toArray] <;> omega) ⟨.int ys.length, H, I.tok _, ⟨s.toks + 1, by rw [List.size_toArray, hlen]⟩, q⟩
  · obtain ⟨its, r', pl, hz⟩ := I.tuple hq
    have hlen := r'.length
    exact len_tuple pl (by simp only [List.size_toArray] <;> omega) ⟨.int ys.length, H, I.tok _, ⟨s.toks + 1, by rw [List.size_toArray, hlen]⟩, q⟩
theorem call_len_str : CallR X (.builtin "len") (fun xs H Q => ∃ z, xs = [.str z] ∧ z.length ≤ sizeLine ∧ Q (.int z.length) H) := by
  intro pins s σ H xs us Q I r h
  obtain ⟨z, rfl, hz, q⟩ := h
  obtain ⟨u, rfl, t, rfl⟩ := vals1 r
  have hn := line63
  exact len_str (by omega) ⟨.int z.length, H, I.tok _, ⟨_, rfl⟩, q⟩
theorem call_list_of : CallR X (.type "list") (fun xs H Q => ∃ p ys, xs = [.ref p] ∧ (SqL X.K H p ys ∨ SqT X.K H p ys) ∧ ∀ l, H l = none → Q (.ref l) (upd H l (.lst ys))) := by
  intro pins s σ H xs us Q I r h
  obtain ⟨p, ys, rfl, hq, q⟩ := h
  obtain ⟨u, rfl, rx⟩ := vals1 r
  cases rx
  have fin : ∀ (its : List Value), Vals ys its → ys.length ≤ sizeLine → ∀ (h' : Heap) (c' : Nat), (∀ b o', s.heap.get? b = some o' → h'.get? b = some o') →
      h'.get? s.heap.objs.size = some { cls := .type "list", dict := none, data := .seq its.toArray c', slots := #[] } → EP X pins σ Q (.ref s.heap.objs.size) { s with heap := h' } := fun its r' hz h' c' kp e =>
    ⟨.ref s.heap.objs.size, _, I.laid (t' := s.toks) kp (Nat.le_refl _) (show ObjOk X.prog X.w _ h' _ (.lst ys) from ⟨hz, its, c', r', e⟩), rfl, q _ (I.hok.fresh (Nat.le_refl _))⟩
  rcases hq with hq | hq
  · obtain ⟨its, r', pl, hz⟩ := I.list hq
    have hlen := r'.length
    obtain ⟨o, ho, hc, n, hd⟩ := pl.isList
    exact call_list_seq p (.inl rfl) ho hc hd (fun h' c' kp e => fin its r' hz h' c' kp e) (by simp only [List.size_toArray] <;> omega)
  · obtain ⟨its, r', pl, hz⟩ := I.tuple hq
    have hlen := r'.length
    obtain ⟨o, ho, hc, n, hd⟩ := pl
    exact call_list_seq p (.inr rfl) ho hc hd (fun h' c' kp e => fin its r' hz h' c' kp e) (by simp only [List.size_toArray] <;> omega)
theorem call_tuple_of : CallR X (.type "tuple") (fun xs H Q => ∃ p ys, xs = [.ref p] ∧ ((SqL X.K H p ys ∧ ∀ l, H l = none → Q (.ref l) (upd H l (.tup ys))) ∨ (SqT X.K H p ys ∧ Q (.ref p) H))) := by
  intro pins s σ H xs us Q I r h
  obtain ⟨p, ys, rfl, h⟩ := h
  obtain ⟨u, rfl, rx⟩ := vals1 r
  cases rx
  rcases h with ⟨hq, q⟩ | ⟨hq, q⟩
  · obtain ⟨its, r', pl, hz⟩ := I.list hq
    have hlen := r'.length
    refine call_tuple_list pl.isList (fun h' kp => ?_) (by simp only [List.size_toArray] <;> omega)
    have I1 : Inv X pins σ H { s with heap := h' } := I.kept (t' := s.toks) kp
    have I2 : Inv X pins σ (upd H h'.objs.size (.tup ys)) { s with heap := h'.push { cls := .type "tuple", data := .seq its.toArray } } :=
      I1.laid (t' := s.toks) (fun b o e => Heap.get?_push_of_some _ e) (Nat.le_refl _) (show ObjOk X.prog X.w _ _ _ (.tup ys) from ⟨hz, its, r', IsTup.new _ _⟩)
    exact ⟨.ref h'.objs.size, _, I2, rfl, q _ (I1.hok.fresh (Nat.le_refl _))⟩
  · obtain ⟨its, r', pl, hz⟩ := I.tuple hq
    exact call_tuple_same pl ⟨.ref p, H, I, rfl, q⟩
noncomputable def tyV (K : PySem.W.Frag) (T : String) (x : V) (H : Hp) : Prop := match x with
  | .str _ => T = "str"
  | .int _ => T = "int"
  | .ref p => (T = "list" ∧ ∃ xs, SqL K H p xs) ∨ (T = "tuple" ∧ ∃ o, K.lookup p = some o ∧ o.cls = .type "tuple" ∧ o.dict = none) ∨
      (T = "dict" ∧ ((∃ kvs, H p = some (.dK kvs)) ∨ ∃ kvs, H p = some (.dT kvs))) ∨ (T = "set" ∧ ∃ S n, H p = some (.set S n))
  | _ => False
theorem tyV_is {pins : List (Addr × Obj)} {σ : St} {H : Hp} {s : Shared} {T : String} {x : V} {v : Value} (I : Inv X pins σ H s) (r : RelV x v) (ty : tyV X.K T x H) :
    s.TypeIs v T ∧ ∀ a, v = .ref a → ∃ ob, s.heap.get? a = some ob ∧ ob.dict = none := by
  cases x with
  | str z =>
    obtain ⟨t, rfl⟩ := r
    cases (show T = "str" from ty)
    exact ⟨typeIs_str s z t, fun _ e => nomatch e⟩
  | int i =>
    obtain ⟨t, rfl⟩ := r
    cases (show T = "int" from ty)
    exact ⟨typeIs_int s i t, fun _ e => nomatch e⟩
  | ref p =>
    cases r
    rcases ty with ⟨rfl, xs, hq⟩ | ⟨rfl, o, hk, hc, hd⟩ | ⟨rfl, hk⟩ | ⟨rfl, S, n, hk⟩
    · obtain ⟨its, _, pl, _⟩ := I.list hq
      refine ⟨pl.isList.typeIs, fun a e => ?_⟩
      cases e
      obtain ⟨o, n, e, c, hd, _⟩ := pl
      exact ⟨o, e, hd⟩
    · refine ⟨⟨o, I.kIn p o hk, hc⟩, fun a e => ?_⟩
      cases e
      exact ⟨o, I.kIn _ o hk, hd⟩
    · have z : ∃ o, s.heap.get? p = some o ∧ o.ExactDict := by
        rcases hk with ⟨kvs, hk⟩ | ⟨kvs, hk⟩
        · obtain ⟨_, _, _, _, o, _, _, e, ex, _⟩ := I.hok p _ hk
          exact ⟨o, e, ex⟩
        · obtain ⟨_, _, _, _, o, _, _, e, ex, _⟩ := I.hok p _ hk
          exact ⟨o, e, ex⟩
      obtain ⟨o, e, ex⟩ := z
      refine ⟨⟨o, e, ex.1⟩, fun a e2 => ?_⟩
      cases e2
      exact ⟨o, e, ex.2.1⟩
    · obtain ⟨o, _, _, _, e, ex, _⟩ := I.hok p _ hk
      refine ⟨⟨o, e, ex.1⟩, fun a e2 => ?_⟩
      cases e2
      exact ⟨o, e, ex.2.1⟩
  | _ => exact False.elim ty
variable {o e : Expr} {es : List Expr} {to : TE} {t : TA} {name : Str} {apos cpos : Pos} {T id : String} {r : V → List V → Hp → VK → Prop}
end
end L2
namespace L2
open PySem PySem.Spec PyProof.Rows
noncomputable def MtM (X : Cx) (id : String) (r : V → List V → Hp → VK → Prop) : Prop :=
  ∀ (pins : List (Addr × Obj)) (s : Shared) (σ : St) (H : Hp) (x : V) (xs : List V) (v : Value) (us : List Value) (Q : VK), Inv X pins σ H s → RelV x v → Vals xs us → r x xs H Q →
    wpAny (model X.prog X.w) X.A (call (.builtin id) (v :: us)) (EP X pins σ Q) X.xe s
theorem Vals.one : ∀ {x : V} {us : List Value}, Vals [x] us → ∃ u, us = [u] ∧ RelV x u
  | _, _, .cons r .nil => ⟨_, rfl, r⟩
theorem Vals.zero : ∀ {us : List Value}, Vals [] us → us = []
  | _, .nil => rfl
theorem Vals.dropLast {xs : List V} {us : List Value} (h : Vals xs us) : Vals xs.dropLast us.dropLast := by
  induction h with
  | nil => exact .nil
  | cons r t ih =>
    cases t with
    | nil => exact .nil
    | cons q t' => exact .cons r ih
theorem Vals.reverse {xs : List V} {us : List Value} (h : Vals xs us) : Vals xs.reverse us.reverse := by
  induction h with
  | nil => exact .nil
  | cons r t ih => rw [List.reverse_cons, List.reverse_cons]; exact Vals.append ih (.cons r .nil)
theorem Vals.rep {xs : List V} {us : List Value} (h : Vals xs us) : ∀ k : Nat, Vals (List.replicate k xs).flatten (List.replicate k us).flatten
  | 0 => .nil
  | k + 1 => by
    rw [List.replicate_succ, List.replicate_succ, List.flatten_cons, List.flatten_cons]
    exact Vals.append h (Vals.rep h k)
theorem erase_last {α : Type} (l : List α) : l.eraseIdx (l.length - 1) = l.dropLast := by
  induction l with
  | nil => rfl
  | cons a r ih =>
    cases r with
    | nil => rfl
    | cons b r =>
      have e : (a :: b :: r).length - 1 = ((b :: r).length - 1) + 1 := by
        have h1 : (a :: b :: r).length = r.length + 2 := rfl
        have h2 : (b :: r).length = r.length + 1 := rfl
        omega
      rw [e, List.eraseIdx_cons_succ, ih]
      all_goals rfl
theorem foldl_rep (its : List Value) : ∀ (k : Nat) (acc : List Value),
    List.foldl (fun x1 x2 => x1 ++ x2) acc.toArray (List.replicate k its.toArray) = (acc ++ (List.replicate k its).flatten).toArray
  | 0, acc => by simp
  | k + 1, acc => by
    have e : acc.toArray ++ its.toArray = (acc ++ its).toArray := by simp
    have e2 : (acc ++ its) ++ (List.replicate k its).flatten = acc ++ (List.replicate (k + 1) its).flatten := by
      rw [List.replicate_succ, List.flatten_cons, List.append_assoc]
    rw [← e2, ← foldl_rep its k (acc ++ its), ← e, List.replicate_succ, List.foldl_cons]
section
variable {X : Cx} {pins : List (Addr × Obj)} {σ : St} {H : Hp} {s : Shared} {l b : Addr} {xs ys zs : List V}
theorem Inv.lset {its its' : List Value} {n : Nat} {f : Array Value → Array Value} {t' : Nat} (I : Inv X pins σ H s) (hH : H l = some (.lst xs))
    (e : s.heap.get? l = some { cls := .type "list", data := .seq its.toArray n }) (hf : f its.toArray = its'.toArray) (hv : Vals ys its') (hz : ys.length ≤ sizeLine) :
    Inv X pins σ (upd H l (.lst ys)) { s with heap := s.heap.update l (Obj.mapSeq f), toks := t' } := by
  have q := PySem.IsL.update e f
  rw [hf] at q
  refine I.write (x := l) (e := l) (by rw [hH]; exact trivial) (.inl rfl) (fun b' u hb hu => (Heap.get?_update_other s.heap (Obj.mapSeq f) (Ne.symm hb)).trans hu) ⟨_, q⟩ ?_
  exact ⟨hz, its', _, hv, q⟩
theorem Inv.lnew {its : List Value} {t' : Nat} (I : Inv X pins σ H s) (hv : Vals ys its) (hz : ys.length ≤ sizeLine) :
    Inv X pins σ (upd H s.heap.objs.size (.lst ys)) { s with heap := s.heap.push { cls := .type "list", data := .seq its.toArray }, toks := t' } :=
  I.laid (fun _ _ q => Heap.get?_push_of_some _ q) (Nat.le_refl _) ⟨hz, its, 0, hv, Heap.get?_push_size _ rfl⟩
theorem Inv.fresh (I : Inv X pins σ H s) : H s.heap.objs.size = none := I.hok.fresh (Nat.le_refl _)
theorem Inv.lstM (I : Inv X pins σ H s) (hH : H l = some (.lst xs)) : xs.length ≤ sizeLine ∧ ∃ (its : List Value) (n : Nat), Vals xs its ∧ xs.length = its.length ∧ s.heap.get? l = some { cls := .type "list", data := .seq its.toArray n } := by
  obtain ⟨z, its, n, r, e⟩ := I.hok l _ hH
  exact ⟨z, its, n, r, r.length, e⟩
theorem notLongL {n : Nat} (h : n ≤ sizeLine) : Builtin.List.listTooLong n = false := by
  unfold Builtin.List.listTooLong
  exact decide_eq_false (by omega)
end
section
variable {X : Cx}
noncomputable def rAppend : V → List V → Hp → VK → Prop := fun x vs H Q => ∃ l xs y, x = .ref l ∧ vs = [y] ∧ H l = some (.lst xs) ∧ xs.length < sizeLine ∧ Q .non (upd H l (.lst (xs ++ [y])))
theorem mt_append : MtM X "list.append" rAppend := by
  intro pins s σ H x vs v us Q I rx rv h
  obtain ⟨l, xs, y, rfl, rfl, hH, hz, q⟩ := h
  cases rx
  obtain ⟨u, rfl, ru⟩ := rv.one
  obtain ⟨z, its, n, r, hl, e⟩ := I.lstM hH
  refine call_meets F.slot_list_append ⟨_, e, rfl⟩ F.entry_list_append (F.args_list_append_2 _ _) (PySem.list_append l its.toArray n u (by rw [List.size_toArray]; omega)) ⟨e, ?_⟩
  refine ⟨.non, _, I.lset (its' := its ++ [u]) hH e (by simp) (r.append (.cons ru .nil)) ?_, rfl, q⟩
  rw [List.length_append, List.length_singleton]
  omega
noncomputable def rExtend : V → List V → Hp → VK → Prop := fun x vs H Q => ∃ l b xs zs, x = .ref l ∧ vs = [.ref b] ∧ H l = some (.lst xs) ∧ H b = some (.lst zs) ∧ xs.length + zs.length ≤ sizeLine ∧ Q .non (upd H l (.lst (xs ++ zs)))
theorem mt_extend : MtM X "list.extend" rExtend := by
  intro pins s σ H x vs v us Q I rx rv h
  obtain ⟨l, b, xs, zs, rfl, rfl, hH, hB, hz, q⟩ := h
  cases rx
  obtain ⟨u, rfl, ru⟩ := rv.one
  cases ru
  obtain ⟨z, its, n, r, hl, e⟩ := I.lstM hH
  obtain ⟨z2, its2, n2, r2, hl2, e2⟩ := I.lstM hB
  have hsz : its.toArray.size + its2.toArray.size ≤ sizeLine := by rw [List.size_toArray, List.size_toArray]; omega
  have hlong : ¬ (!its.toArray.isEmpty && Builtin.List.listTooLong (its.toArray.size + its2.toArray.size)) = true := by
    rw [notLongL hsz, Bool.and_false]
    exact Bool.false_ne_true
  refine call_meets F.slot_list_extend ⟨_, e, rfl⟩ F.entry_list_extend (F.args_list_extend_2 _ _)
    (AutoSeq1.list_extend_list_list_0 l its.toArray n b its2.toArray n2 hlong (by rw [List.size_toArray]; omega) (by omega)) ⟨e, e2, ?_⟩
  refine ⟨.non, _, I.lset (its' := its ++ its2) hH e (by simp) (r.append r2) ?_, rfl, q⟩
  rw [List.length_append]
  omega
noncomputable def rPop : V → List V → Hp → VK → Prop := fun x vs H Q => ∃ l xs y, x = .ref l ∧ vs = [] ∧ H l = some (.lst xs) ∧ xs[xs.length - 1]? = some y ∧ Q y (upd H l (.lst xs.dropLast))
theorem mt_pop : MtM X "list.pop" rPop := by
  intro pins s σ H x vs v us Q I rx rv h
  obtain ⟨l, xs, y, rfl, rfl, hH, hy, q⟩ := h
  cases rx
  have hus := rv.zero
  subst hus
  obtain ⟨z, its, n, r, hl, e⟩ := I.lstM hH
  obtain ⟨u, hu, ru⟩ := r.get hy
  have hy' : its.toArray[its.toArray.size - 1]? = some u := by
    show its.toArray[its.length - 1]? = some u
    rw [← Array.getElem?_toList, ← hl]
    exact hu
  refine call_meets F.slot_list_pop ⟨_, e, rfl⟩ F.entry_list_pop (F.args_list_pop_1 _) (MeetsSeq.list_pop_last l its.toArray n u hy' (by rw [List.size_toArray]; omega)) ⟨e, ?_⟩
  refine ⟨y, _, I.lset (its' := its.dropLast) hH e ?_ r.dropLast ?_, ru, q⟩
  · show its.toArray.eraseIdxIfInBounds (its.toArray.size - 1) = its.dropLast.toArray
    rw [List.size_toArray, List.eraseIdxIfInBounds_toArray, erase_last]
  · rw [List.length_dropLast]
    omega
noncomputable def rCat : R2 := fun x y H Q => ∃ l b xs zs, x = .ref l ∧ y = .ref b ∧ H l = some (.lst xs) ∧ H b = some (.lst zs) ∧ xs.length + zs.length ≤ sizeLine ∧ ∀ p, H p = none → Q (.ref p) (upd H p (.lst (xs ++ zs)))
theorem op_cat : OpR X (binaryOp .Add) rCat := by
  intro pins s σ H x y v u Q I rx ry h
  obtain ⟨l, b, xs, zs, rfl, rfl, hH, hB, hz, q⟩ := h
  cases rx
  cases ry
  obtain ⟨z, its, n, r, hl, e⟩ := I.lstM hH
  obtain ⟨z2, its2, n2, r2, hl2, e2⟩ := I.lstM hB
  refine PySem.P.add_list e e2 ?_ (by rw [List.size_toArray, List.size_toArray]; omega)
  have ea : its.toArray ++ its2.toArray = (its ++ its2).toArray := by simp
  rw [ea]
  exact ⟨.ref _, _, I.lnew (t' := s.toks) (r.append r2) (by rw [List.length_append]; omega), rfl, q _ I.fresh⟩
noncomputable def rRep : R2 := fun x y H Q => ∃ l k xs, x = .ref l ∧ y = .int k ∧ H l = some (.lst xs) ∧ -(2 ^ 63) ≤ k ∧ k < 2 ^ 63 ∧ xs.length * k.toNat ≤ sizeLine ∧
  ∀ p, H p = none → Q (.ref p) (upd H p (.lst (List.replicate k.toNat xs).flatten))
theorem len_rep {α : Type} (xs : List α) (k : Nat) : (List.replicate k xs).flatten.length = k * xs.length := by
  induction k with
  | zero => simp
  | succ k ih => rw [List.replicate_succ, List.flatten_cons, List.length_append, ih, Nat.succ_mul, Nat.add_comm]
theorem op_rep : OpR X (binaryOp .Mult) rRep := by
  intro pins s σ H x y v u Q I rx ry h
  obtain ⟨l, k, xs, rfl, rfl, hH, h1, h2, hz, q⟩ := h
  cases rx
  obtain ⟨t, rfl⟩ := ry
  obtain ⟨z, its, n, r, hl, e⟩ := I.lstM hH
  have hlen : its.toArray.size * k.toNat ≤ sizeLine := by rw [List.size_toArray, ← hl]; exact hz
  have hcap : ¬ its.toArray.size * k.toNat > (2 ^ 63 - 1) / 8 := by
    have : (sizeLine : Nat) ≤ (2 ^ 63 - 1) / 8 := by decide
    omega
  have hfit : ¬ (!Builtin.List.listFitsIndex k) = true := by
    rw [fitsIndex_both h1 h2]
    exact Bool.false_ne_true
  have hlong : ¬ Builtin.List.listTooLong (its.toArray.size * k.toNat) = true := by
    rw [notLongL hlen]
    exact Bool.false_ne_true
  have hnew : List.foldl (fun x1 x2 => x1 ++ x2) #[] (List.replicate (if its.toArray.isEmpty = true then 0 else k.toNat) its.toArray) = (List.replicate k.toNat its).flatten.toArray := by
    have f0 : ∀ m : Nat, List.foldl (fun x1 x2 => x1 ++ x2) #[] (List.replicate m its.toArray) = (List.replicate m its).flatten.toArray := fun m => by
      have := foldl_rep its m []
      rw [List.nil_append] at this
      exact this
    rw [f0]
    cases its with
    | nil => simp
    | cons a r' => rw [if_neg (by simp)]
  refine wpAny_binaryOp_repeat_ref (T := "list") (U := "int") (by decide) ⟨_, e, rfl⟩ (fun s' => typeIs_int s' k t) noFill_list_mul F.fills_int_mul F.slot_int_rmul repeat_list F.slot_int_index.lookup
    (call_meets F.slot_int_rmul (typeIs_int s k t) F.entry_int_rmul (F.args_int_rmul_2 _ _) (int___rmul___int_list k t l its.toArray n)
      ⟨e, rfl, ⟨_, e, rfl⟩, call_meets F.slot_list_mul ⟨_, e, rfl⟩ F.entry_list_mul (F.args_list_mul_2 _ _) (AutoListH.list___mul___list_int_3 l its.toArray n k t hfit hcap hlong) ⟨e, ?_⟩⟩)
  rw [hnew]
  exact ⟨.ref _, _, I.lnew (t' := s.toks) (r.rep k.toNat) (by rw [len_rep, Nat.mul_comm]; exact hz), rfl, q _ I.fresh⟩
end
end L2
namespace L2
open PySem PySem.Spec PyProof.Rows
section
variable {κ : Type} [DecidableEq κ]
noncomputable def valV (kvs : List (κ × V)) (k : κ) : Option V := (kvs.find? fun kv => decide (kv.1 = k)).map (·.2)
noncomputable def putK (kvs : List (κ × V)) (k : κ) (v : V) : List (κ × V) :=
  if (kvs.any fun kv => decide (kv.1 = k)) = true then kvs.map (fun kv => if kv.1 = k then (kv.1, v) else kv) else kvs ++ [(k, v)]
theorem valV_nil {k : κ} : valV ([] : List (κ × V)) k = none := rfl
theorem valV_pos {p : κ × V} {r : List (κ × V)} {k : κ} (e : p.1 = k) : valV (p :: r) k = some p.2 := by simp [valV, List.find?_cons, e]
theorem valV_neg {p : κ × V} {r : List (κ × V)} {k : κ} (e : ¬ p.1 = k) : valV (p :: r) k = valV r k := by simp [valV, List.find?_cons, e]
theorem valV_any (k : κ) : ∀ kvs : List (κ × V), (kvs.any fun kv => decide (kv.1 = k)) = (valV kvs k).isSome
  | [] => rfl
  | p :: r => by
    rw [List.any_cons]
    by_cases e : p.1 = k
    · simp only [valV_pos e, decide_eq_true e, Bool.true_or, Option.isSome_some]
    · rw [valV_neg e, decide_eq_false e, Bool.false_or]; exact valV_any k r
theorem length_putK (kvs : List (κ × V)) (k : κ) (v : V) : (putK kvs k v).length ≤ kvs.length + 1 := by
  unfold putK
  split
  · rw [List.length_map]; omega
  · rw [List.length_append, List.length_cons, List.length_nil]; omega
theorem putK_new {kvs : List (κ × V)} {k : κ} (v : V) (h : valV kvs k = none) : putK kvs k v = kvs ++ [(k, v)] := by
  unfold putK
  rw [valV_any, h]
  exact if_neg (by decide)
theorem RelO.isSome_eq {o : Option V} {u : Option Value} (r : RelO o u) : o.isSome = u.isSome := by
  cases o with
  | none => cases u with
    | none => rfl
    | some _ => exact (show False from r).elim
  | some _ => cases u with
    | none => exact (show False from r).elim
    | some _ => rfl
theorem KV.val {kvs : List (κ × V)} {vs : List (κ × Value)} (r : KV kvs vs) (k : κ) : RelO (valV kvs k) (valueAt vs k) := by
  unfold KV at r
  induction r with
  | nil => exact True.intro
  | @cons p q ps qs h t ih =>
    obtain ⟨h1, h2⟩ := h
    by_cases e : p.1 = k
    · have e' : q.1 = k := h1.symm.trans e
      have b : valueAt (q :: qs) k = some q.2 := by simp [valueAt, List.find?_cons, e']
      rw [valV_pos e, b]; exact h2
    · have e' : ¬ q.1 = k := fun z => e (h1.trans z)
      have b : valueAt (q :: qs) k = valueAt qs k := by simp [valueAt, List.find?_cons, e']
      rw [valV_neg e, b]; exact ih
theorem KV.any {kvs : List (κ × V)} {vs : List (κ × Value)} (r : KV kvs vs) (k : κ) : (kvs.any fun kv => decide (kv.1 = k)) = vs.any fun kv => decide (kv.1 = k) := by
  unfold KV at r
  induction r with
  | nil => rfl
  | cons h t ih => rw [List.any_cons, List.any_cons, ih, h.1]
theorem KV.repl {kvs : List (κ × V)} {vs : List (κ × Value)} (r : KV kvs vs) (k : κ) {y : V} {u : Value} (ry : RelV y u) :
    KV (kvs.map fun kv => if kv.1 = k then (kv.1, y) else kv) (vs.map fun kv => if kv.1 = k then (kv.1, u) else kv) := by
  unfold KV at r ⊢
  induction r with
  | nil => exact .nil
  | @cons p q ps qs h t ih =>
    rw [List.map_cons, List.map_cons]
    refine .cons ?_ ih
    obtain ⟨h1, h2⟩ := h
    by_cases e : p.1 = k
    · rw [if_pos e, if_pos (h1.symm.trans e)]; exact ⟨h1, ry⟩
    · rw [if_neg e, if_neg (fun z => e (h1.trans z))]; exact ⟨h1, h2⟩
theorem KV.put {kvs : List (κ × V)} {vs : List (κ × Value)} (r : KV kvs vs) (k : κ) {y : V} {u : Value} (ry : RelV y u) : KV (putK kvs k y) (stored vs k u) := by
  unfold putK stored
  rw [r.any k]
  by_cases e : (vs.any fun kv => decide (kv.1 = k)) = true
  · rw [if_pos e, if_pos e]; exact r.repl k ry
  · rw [if_neg e, if_neg e]; exact Paired.snoc r ⟨rfl, ry⟩
theorem KV.length {kvs : List (κ × V)} {vs : List (κ × Value)} (r : KV kvs vs) : kvs.length = vs.length := Paired.length r
end
theorem kV_is {P : Program} {w : World} {k : Key} {u : Value} (r : RelV (kV k) u) : (mixKind P w).is k u = true := by
  cases k with
  | inl i => obtain ⟨t, e⟩ := (show ∃ t, u = Value.int i t from r); subst e; exact mixKind_int P w i t
  | inr x => obtain ⟨t, e⟩ := (show ∃ t, u = Value.str x t from r); subst e; exact mixKind_str P w x t
theorem items_are {P : Program} {w : World} : ∀ {ks : List Key} {us : List Value}, Vals (ks.map kV) us → ItemsAre (mixKind P w) ks us
  | [], _, r => by rw [List.map_nil] at r; cases r; exact .nil
  | k :: ks, _, r => by
    rw [List.map_cons] at r
    cases r with
    | cons h t => exact .cons (kV_is h) (items_are t)
noncomputable abbrev KT (H : Hp) : List (List Key × V) → List (List Key × Addr × Value) → Prop := Paired fun p q => p.1 = q.1 ∧ H q.2.1 = some (.tup (p.1.map kV)) ∧ RelV p.2 q.2.2
theorem KT.val {H : Hp} {kvs : List (List Key × V)} {xs : List (List Key × Addr × Value)} (r : KT H kvs xs) (k : List Key) : RelO (valV kvs k) ((atKey xs k).map (·.2)) := by
  induction r with
  | nil => exact True.intro
  | @cons p q ps qs h t ih =>
    obtain ⟨h1, _, h2⟩ := h
    by_cases e : p.1 = k
    · have e' : q.1 = k := h1.symm.trans e
      have b : atKey (q :: qs) k = some q.2 := by simp [atKey, List.find?_cons, e']
      rw [valV_pos e, b]; exact h2
    · have e' : ¬ q.1 = k := fun z => e (h1.trans z)
      have b : atKey (q :: qs) k = atKey qs k := by simp [atKey, List.find?_cons, e']
      rw [valV_neg e, b]; exact ih
theorem KT.repl {H : Hp} {kvs : List (List Key × V)} {xs : List (List Key × Addr × Value)} (r : KT H kvs xs) (k : List Key) {y : V} {u : Value} (ry : RelV y u) :
    KT H (kvs.map fun kv => if kv.1 = k then (kv.1, y) else kv) (xs.map (putAt k u)) := by
  induction r with
  | nil => exact .nil
  | @cons p q ps qs h t ih =>
    rw [List.map_cons, List.map_cons]
    refine .cons ?_ ih
    obtain ⟨h1, h2, h3⟩ := h
    unfold putAt
    by_cases e : p.1 = k
    · rw [if_pos e, if_pos (h1.symm.trans e)]; exact ⟨h1, h2, ry⟩
    · rw [if_neg e, if_neg (fun z => e (h1.trans z))]; exact ⟨h1, h2, h3⟩
theorem KT.put {H : Hp} {kvs : List (List Key × V)} {xs : List (List Key × Addr × Value)} (r : KT H kvs xs) (k : List Key) {b : Addr} {y : V} {u : Value} (hb : H b = some (.tup (k.map kV))) (ry : RelV y u) :
    KT H (putK kvs k y) (storedH xs k b u) := by
  have e : (kvs.any fun kv => decide (kv.1 = k)) = (atKey xs k).isSome := by
    rw [valV_any, (r.val k).isSome_eq, Option.isSome_map]
  unfold putK storedH
  rw [e]
  by_cases q : (atKey xs k).isSome = true
  · rw [if_pos q, if_pos q]; exact r.repl k ry
  · rw [if_neg q, if_neg q]; exact Paired.snoc r ⟨rfl, hb, ry⟩
theorem KT.keeps {H H' : Hp} {kvs : List (List Key × V)} {xs : List (List Key × Addr × Value)} (r : KT H kvs xs) (ht : ∀ b ys, H b = some (.tup ys) → H' b = some (.tup ys)) : KT H' kvs xs :=
  Paired.mapP r fun _ _ z => ⟨z.1, ht _ _ z.2.1, z.2.2⟩
section
variable {P : Program} {w : World} {H : Hp} {h : Heap} {a : Addr}
theorem rd_of {u : HO} (ok : HOk P w H h) (e : Rd H a u) : ObjOk P w H h a u := e.ok ok
theorem dk_rd {kvs : List (Key × V)} (ok : HOk P w H h) (e : Rd H a (.dK kvs)) : kvs.length ≤ sizeLine ∧ (a == sysModules) = false ∧ ∃ vs, KV kvs vs ∧ h.DictOf (mixKind P w) a vs :=
  show ObjOk P w H h a (.dK kvs) from rd_of ok e
theorem dk_of {kvs : List (Key × V)} (ok : HOk P w H h) (e : H a = some (.dK kvs)) : kvs.length ≤ sizeLine ∧ (a == sysModules) = false ∧ ∃ vs, KV kvs vs ∧ h.DictOf (mixKind P w) a vs := dk_rd ok (.inl e)
theorem key_of {ks : List Key} (ok : HOk P w H h) (e : H a = some (.tup (ks.map kV))) : (tupleKind (mixKind P w)).is h ks a := by
  obtain ⟨_, its, r, o, h1, h2, n, h3⟩ := (show ObjOk P w H h a (.tup (ks.map kV)) from ok a _ e)
  exact ⟨o, its.toArray, n, h1, h2, h3, by simpa using items_are r⟩
theorem dt_rd {kvs : List (List Key × V)} (ok : HOk P w H h) (e : Rd H a (.dT kvs)) : kvs.length ≤ sizeLine ∧ (a == sysModules) = false ∧
    ∃ xs, KT H kvs xs ∧ h.DictOfH (tupleKind (mixKind P w)) a xs := by
  obtain ⟨z, y, xs, r, o, es, ep, h1, h2, h3, h4, h5⟩ := (show ObjOk P w H h a (.dT kvs) from rd_of ok e)
  refine ⟨z, y, xs, r, o, es, ep, h1, h2, h3, h4, fun x hx => ?_, h5⟩
  have all : ∀ {l : List (List Key × V)} {m : List (List Key × Addr × Value)}, KT H l m → ∀ x ∈ m, (tupleKind (mixKind P w)).is h x.1 x.2.1 := by
    intro l m q
    induction q with
    | nil => intro x hx; exact nomatch hx
    | @cons p q ps qs hq t ih =>
      intro x hx
      rcases List.mem_cons.mp hx with e | hx
      · subst e
        exact key_of ok (by rw [← hq.1]; exact hq.2.1)
      · exact ih x hx
  exact all r x hx
theorem dt_of {kvs : List (List Key × V)} (ok : HOk P w H h) (e : H a = some (.dT kvs)) : kvs.length ≤ sizeLine ∧ (a == sysModules) = false ∧
    ∃ xs, KT H kvs xs ∧ h.DictOfH (tupleKind (mixKind P w)) a xs := dt_rd ok (.inl e)
end
noncomputable def DGet (H : Hp) (a : Addr) (y : V) (r : Option V) : Prop :=
  (∃ kvs k, Rd H a (.dK kvs) ∧ y = kV k ∧ r = valV kvs k) ∨ ∃ kvs k b, Rd H a (.dT kvs) ∧ y = .ref b ∧ H b = some (.tup (k.map kV)) ∧ r = valV kvs k
noncomputable def DPut (H : Hp) (a : Addr) (y v : V) (H' : Hp) : Prop :=
  (∃ kvs k, H a = some (.dK kvs) ∧ y = kV k ∧ kvs.length < sizeLine ∧ H' = upd H a (.dK (putK kvs k v))) ∨
  ∃ kvs k b, H a = some (.dT kvs) ∧ y = .ref b ∧ H b = some (.tup (k.map kV)) ∧ kvs.length < sizeLine ∧ H' = upd H a (.dT (putK kvs k v))
section
variable {X : Cx} {pins : List (Addr × Obj)} {σ : St} {H : Hp} {s : Shared} {a : Addr} {y v : V} {u r : Value} {o : Option V} {A : Around} {E : Value → Shared → Prop}
theorem Inv.big (I : Inv X pins σ H s) : sysModules < s.heap.objs.size := by
  have h : mainGlobals < s.heap.objs.size := (I.mod.glob.keeps I.bk).lt
  exact Nat.lt_trans (by decide) h
theorem d_getItem {Q : Value → Shared → Prop} (hu : A.units + 1 < cLine) (I : Inv X pins σ H s) (g : DGet H a y (some v)) (ry : RelV y u) (h : ∀ w' s', Inv X pins σ H s' → RelV v w' → Q w' s') :
    wpAny (model X.prog X.w) A (getItem (.ref a) u) Q E s := by
  rcases g with ⟨kvs, k, e, ey, l⟩ | ⟨kvs, k, b, e, ey, eb, l⟩
  · subst ey
    obtain ⟨z, hd, vs, rel, dd⟩ := dk_rd I.hok e
    obtain ⟨w', hw, rw'⟩ := RelO.some_of (v := v) (o := valueAt vs k) (by rw [l]; exact rel.val k)
    exact wpAny_getItem_of (kV_is ry) dd.mapOf hw (h w' _ (I.tok _) rw')
  · subst ey
    cases (show u = Value.ref b from ry)
    obtain ⟨z, hd, xs, rel, dd⟩ := dt_rd I.hok e
    obtain ⟨w', hw, rw'⟩ := RelO.some_of (v := v) (o := (atKey xs k).map (·.2)) (by rw [l]; exact rel.val k)
    obtain ⟨p, hp, hp2⟩ := Option.map_eq_some_iff.mp hw
    refine wpAny_getItem_heap (tupleKind_room_in1 hu) (key_of I.hok eb) dd hp ?_
    rw [hp2]
    exact h w' _ (I.tok _) rw'
theorem d_write {h' : Heap} {t' : Nat} {ob : HO} (I : Inv X pins σ H s) (mu : Mut (H a)) (hs : Heap.SameBut a s.heap h') (he : ∃ q, h'.get? a = some q) (new : ObjOk X.prog X.w (upd H a ob) h' a ob) :
    Inv X pins σ (upd H a ob) { s with heap := h', toks := t' } :=
  I.write (x := a) (e := a) mu (.inl rfl) (fun b q hb z => (hs.2 b hb).trans z) he new
theorem dk_new {P : Program} {w : World} {H' : Hp} {h' : Heap} {kvs : List (Key × V)} {vs : List (Key × Value)} (z : kvs.length ≤ sizeLine) (hd : (a == sysModules) = false) (rel : KV kvs vs) (dd : h'.DictOf (mixKind P w) a vs) :
    ObjOk P w H' h' a (.dK kvs) := ⟨z, hd, vs, rel, dd⟩
theorem d_setItem {H' : Hp} {Q : Unit → Shared → Prop} (hu : A.units + 1 < cLine) (I : Inv X pins σ H s) (g : DPut H a y v H') (ry : RelV y u) (rv : RelV v r) (h : ∀ s', Inv X pins σ H' s' → Q () s') :
    wpAny (model X.prog X.w) A (setItem (.ref a) u r) Q E s := by
  rcases g with ⟨kvs, k, e, ey, l, eH⟩ | ⟨kvs, k, b, e, ey, eb, l, eH⟩
  · subst ey eH
    obtain ⟨z, hd, vs, rel, dd⟩ := dk_of I.hok e
    have hz : vs.length ≤ sizeLine := by rw [← rel.length]; exact z
    have hl : (putK kvs k v).length ≤ sizeLine := by have := length_putK kvs k v; omega
    refine wpAny_setItem_pairs (hsz := hz) (kV_is ry) dd fun h' dd' hs => h _ ?_
    have he : ∃ q, h'.get? a = some q := let ⟨q, _, _, hq, _⟩ := dd'; ⟨q, hq⟩
    exact d_write I (by rw [e]; exact True.intro) hs he (dk_new hl hd (rel.put k rv) dd')
  · subst ey eH
    cases (show u = Value.ref b from ry)
    obtain ⟨z, hd, xs, rel, dd⟩ := dt_of I.hok e
    have hz : xs.length ≤ sizeLine := by rw [← Paired.length rel]; exact z
    have hl : (putK kvs k v).length ≤ sizeLine := by have := length_putK kvs k v; omega
    refine wpAny_setItem_heap (hsz := hz) (tupleKind_room_in1 hu) (key_of I.hok eb) dd fun h' dd' hs => h _ ?_
    obtain ⟨q, es, ep, hq, h2, h3, h4, _, h5⟩ := dd'
    refine d_write I (by rw [e]; exact True.intro) hs ⟨q, hq⟩ ⟨hl, hd, _, (rel.put k eb rv).keeps fun c ys ec => ?_, q, es, ep, hq, h2, h3, h4, h5⟩
    rw [upd_ne (ne_of ec e (fun z => nomatch z))]
    exact ec
end
noncomputable def NoSl (i : Expr) : Prop := ∀ ov iv, subscripted i false ov iv = operate [ov, iv] (getItem ov iv)
theorem subD_of {prog : Program} {w : World} {A : Around} {E : Value → Shared → Prop} {s : Shared} {env : Env} {value slice : Expr} {pos : Pos} {T id : String} {Q : Value → Shared → Prop}
    (hl : typeLookup (.type T) "__getitem__" = pure (some (.builtin id))) (hs : NoSl slice)
    (h : wpAny (model prog w) A (eval value env) (fun o s₁ => wpAny (model prog w) A (eval slice env) (fun i s₂ => s₂.TypeIs o T ∧ wpAny (model prog w) A (getItem o i) Q E s₂) E s₁) E s) :
    wpAny (model prog w) A (eval (.Subscript value slice pos) env) Q E s := by
  refine Subscript_ (wpAny_mono h (fun o s₁ h₁ => wpAny_mono h₁ (fun i s₂ h₂ => ?_) fun _ _ x => x) fun _ _ x => x)
  obtain ⟨hT, h₂⟩ := h₂
  unfold subscriptTail
  refine wpAny_bind ?_
  rw [getitemInPython_of_ne hT.not_modules]
  refine wpAny_bind (wpAny_specialOf hT hl ?_)
  have fin : wpAny (model prog w) A (subscripted slice false o i) (fun r s₃ => wpAny (model prog w) A (letTemporaryGo value o r >>= fun _ => pure r) Q E s₃) E s₂ := by
    rw [hs o i]
    exact wpAny_operating (wpAny_mono h₂ (fun r s₃ h₃ => wpAny_bind (wpAny_letTemporaryGo (wpAny_pure h₃))) fun _ _ x => x)
  first
    | exact wpAny_pure (wpAny_bind fin)
    | exact wpAny_bind (wpAny_pure (wpAny_bind fin))
    | exact wpAny_bind fin
theorem dict_typeIs {X : Cx} {pins : List (Addr × Obj)} {σ : St} {H : Hp} {s : Shared} {a : Addr} {y : V} {o : Option V} (I : Inv X pins σ H s) (g : DGet H a y o) : s.TypeIs (.ref a) "dict" := by
  rcases g with ⟨kvs, k, e, _, _⟩ | ⟨kvs, k, b, e, _, _, _⟩
  · obtain ⟨_, _, vs, _, dd⟩ := dk_rd I.hok e
    exact dd.typeIs
  · obtain ⟨_, _, xs, _, dd⟩ := dt_rd I.hok e
    exact dd.typeIs
theorem dk_empty {P : Program} {w : World} {H : Hp} (h : Heap) (hb : sysModules < h.objs.size) : ObjOk P w H (h.push { cls := .type "dict", data := .dict #[] }) h.objs.size (.dK []) :=
  ⟨Nat.zero_le _, beq_eq_false_iff_ne.mpr (Ne.symm (Nat.ne_of_lt hb)), [], .nil, Heap.DictOf.new h⟩
noncomputable def tPairs : List (TE × TE) → St → Hp → (List (V × V) → Hp → Prop) → Prop
  | [], _, H, Q => Q [] H
  | (tk, tv) :: r, σ, H, Q => tk σ H fun x H1 => tv σ H1 fun y H2 => tPairs r σ H2 fun ps H3 => Q ((x, y) :: ps) H3
noncomputable abbrev VV : List (V × V) → List (Value × Value) → Prop := Paired fun p q => RelV p.1 q.1 ∧ RelV p.2 q.2
noncomputable def PPs (X : Cx) (pos : Pos) (keys : List (Option Expr)) (values : List Expr) (trs : List (TE × TE)) : Prop :=
  ∀ (pins : List (Addr × Obj)) (s : Shared) (σ : St) (H : Hp) (Q : List (V × V) → Hp → Prop), Inv X pins σ H s → tPairs trs σ H Q →
    wpAny (model X.prog X.w) X.A (evalPairs (pairTrees keys values X.env pos)) (fun vs s' => ∃ ps H', Inv X pins σ H' s' ∧ VV ps vs ∧ Q ps H') X.xe s
theorem pps_nil {X : Cx} {pos : Pos} : PPs X pos [] [] [] := fun pins s σ H Q I h => pairTrees_nil_walk ⟨[], H, I, .nil, h⟩
theorem pps_cons {X : Cx} {pos : Pos} {k v : Expr} {ks : List (Option Expr)} {vs : List Expr} {tk tv : TE} {trs : List (TE × TE)} (hk : PE X k tk) (hv : PE X v tv) (hr : PPs X pos ks vs trs) :
    PPs X pos (some k :: ks) (v :: vs) ((tk, tv) :: trs) := fun pins s σ H Q I h =>
  pairTrees_cons_walk (thn (hk pins s σ H _ I h) fun u s1 ⟨x, H1, I1, rx, q1⟩ => thn (hv pins s1 σ H1 _ I1 q1) fun w2 s2 ⟨y, H2, I2, ry, q2⟩ =>
    thn (hr pins s2 σ H2 _ I2 q2) fun ws s3 zq7 => by obtain ⟨ps, H3, I3, rel, q3⟩ := zq7; exact (⟨(x, y) :: ps, H3, I3, .cons ⟨rx, ry⟩ rel, q3⟩))
noncomputable def mergeK (kvs more : List (Key × V)) : List (Key × V) := more.foldl (fun acc kv => putK acc kv.1 kv.2) kvs
theorem KV.merge : ∀ {more : List (Key × V)} {rs : List (Key × Value)} {kvs : List (Key × V)} {vs : List (Key × Value)}, KV more rs → KV kvs vs → KV (mergeK kvs more) (merged vs rs) := by
  intro more rs kvs vs r
  unfold KV at r
  induction r generalizing kvs vs with
  | nil => intro q; exact q
  | @cons p q ps qs h t ih =>
    intro r0
    have e : KV (putK kvs p.1 p.2) (stored vs q.1 q.2) := by
      have := r0.put p.1 h.2
      rw [← h.1]; exact this
    exact ih e
theorem length_mergeK : ∀ (more kvs : List (Key × V)), (mergeK kvs more).length ≤ kvs.length + more.length
  | [], kvs => by show kvs.length ≤ kvs.length + 0; omega
  | p :: r, kvs => by
    have h1 := length_mergeK r (putK kvs p.1 p.2)
    have h2 := length_putK kvs p.1 p.2
    show (mergeK (putK kvs p.1 p.2) r).length ≤ _
    rw [List.length_cons]; omega
theorem carries_of {P : Program} {w : World} : ∀ {kvs : List (Key × V)} {ws : List (Value × Value)}, VV (kvs.map fun kv => (kV kv.1, kv.2)) ws → ∃ rs, Carries (mixKind P w) ws rs ∧ KV kvs rs
  | [], _, r => by rw [List.map_nil] at r; cases r; exact ⟨[], True.intro, .nil⟩
  | p :: kvs, _, r => by
    rw [List.map_cons] at r
    cases r with
    | @cons a b as bs h t =>
      obtain ⟨rs, c, q⟩ := carries_of (P := P) (w := w) t
      obtain ⟨b1, b2⟩ := b
      exact ⟨(p.1, b2) :: rs, ⟨kV_is h.1, rfl, c⟩, .cons ⟨rfl, h.2⟩ q⟩
noncomputable def tDisp (trs : List (TE × TE)) : TE := fun σ H Q => ∀ p, H p = none → tPairs trs σ (upd H p (.dK [])) fun ps H2 => H2 p = some (.dK []) ∧ ∃ kvs : List (Key × V), ps = kvs.map (fun kv => (kV kv.1, kv.2)) ∧ kvs.length ≤ 15 ∧ Q (.ref p) (upd H2 p (.dK (mergeK [] kvs)))
theorem pe_disp {X : Cx} {pos : Pos} {keys : List (Option Expr)} {values : List Expr} {trs : List (TE × TE)} (h : PPs X pos keys values trs) (hall : keys.all (·.isSome) = true) (hl : keys.length = values.length) (h0 : keys ≠ [])
    (h15 : keys.length ≤ 15) : PE X (.Dict keys values pos) (tDisp trs) := by
  intro pins s σ H Q I q
  have hn := I.hok.fresh (Nat.le_refl s.heap.objs.size)
  have I1 := I.laid (a := s.heap.objs.size) (o := .dK []) (h' := s.heap.push { cls := .type "dict", data := .dict #[] }) (t' := s.toks) (fun _ _ q => Heap.get?_push_of_some _ q) (Nat.le_refl _) (dk_empty s.heap I.big)
  refine wpAny_Dict_walk (knd := mixKind X.prog X.w) hall hl h0 h15 (thn (h pins _ σ _ _ I1 (q _ hn)) fun ws s2 zr3204 => ?_)
  obtain ⟨ps, H2, I2, rel, e, kvs, ep, lk, q2⟩ := zr3204
  subst ep
  obtain ⟨rs, c, rk⟩ := carries_of (P := X.prog) (w := X.w) rel
  obtain ⟨z, hd, vs0, r0, dd⟩ := dk_of I2.hok e
  cases r0
  refine ⟨rs, c, dd, fun h' dd' hs => ⟨.ref s.heap.objs.size, _, ?_, rfl, q2⟩⟩
  have hz : (mergeK [] kvs).length ≤ sizeLine := by
    have h1 := length_mergeK kvs []
    rw [List.length_nil] at h1
    rw [sizeLine_eq]; omega
  have he : ∃ q, h'.get? s.heap.objs.size = some q := let ⟨q, _, _, hq, _⟩ := dd'; ⟨q, hq⟩
  exact d_write I2 (by rw [e]; exact True.intro) hs he (dk_new hz hd (rk.merge .nil) dd')
end L2
namespace Att
open PySem PySem.W PySem.Calls PyProof.Rows
theorem ints_of_wellAll {P : Params} {h : Heap} : ∀ (ns : List Int) (vs : List Value), WellAll P h vs (ns.map WData.int) → IntsAre vs ns := by
  intro ns
  induction ns with
  | nil =>
    intro vs w
    rw [List.map_nil] at w
    cases w
    exact .nil
  | cons n ns ih =>
    intro vs w
    rw [List.map_cons] at w
    cases w with
    | cons a b =>
      cases a
      exact .cons _ _ (ih _ b)
theorem script_of {l : OpenLaw} {n : Nat} (hn : l.most = some n) {P : Params} {h : Heap} {args : List WData} {vals : List Value}
    (hpre : l.row.toRowW.claim.pre args = true) (hwl : WellAll P h vals args) :
    ∃ a vs ns, vals = [Value.ref a] ∧ args = [WData.list (ns.map WData.int)] ∧ h.get? a = some { cls := .type "list", data := .seq vs.toArray } ∧ IntsAre vs ns ∧ ns.length ≤ n := by
  have hsh : WShape.hasAll [] args [.list .int] = true := (pre_splitW hpre).1
  have hc : l.pre.holds [] { args := args } = true := (pre_splitW hpre).2
  obtain ⟨d, r, rfl, h1, h2⟩ := hasAllW_cons hsh
  obtain rfl := hasAllW_nil h2
  obtain ⟨xs, rfl, h3⟩ := hasW_list h1
  obtain ⟨ns, rfl⟩ := items_int h3
  have hlen : ns.length ≤ n := by
    unfold OpenLaw.pre at hc
    have h4 : (WTm.not (.lt (.lit (.int (n : Int))) (.len (.arg 0)))).holds [] { args := [.list (ns.map .int)] } = true := by
      have h4 := (holds_andW hc).1
      rw [hn] at h4
      exact h4
    have h5 := condW_of h4 (w_not (w_lt w_lit (w_len_list (w_arg rfl))))
    rw [List.length_map] at h5
    refine Nat.le_of_not_lt fun q => ?_
    have q' : (n : Int) < ((ns.length : Nat) : Int) := by omega
    first
      | (rw [decide_eq_true q'] at h5; exact absurd h5 (by decide))
      | (simp at h5; omega)
  cases hwl with
  | cons w1 w2 =>
    cases w2
    cases w1 with
    | list ho hall => exact ⟨_, _, ns, rfl, rfl, ho, ints_of_wellAll ns _ hall, hlen⟩
theorem post_true (l : OpenLaw) (args : List WData) : l.row.toRowW.claim.post args (.bool true) args = true :=
  postW_of (r := l.row.toRowW) (X := (true == true))
    (show WShape.has [] (.bool true) .bool = true by first | rfl | decide | simp [WShape.has, WShape.arms, WShape.armsAll])
    (show (WTm.eq .res (.lit (.bool true))).value [] { args := args, res := some (.bool true), after := args } = some (.bool (true == true)) from w_eq_bool (w_res rfl) w_lit) rfl
theorem attach_call {l : OpenLaw} {n : Nat} {q : Program} {loose : List Str} {XP : (Str → Option Value) → Heap → Prop} {YP : World → Heap → Prop} {d : DefRec}
    (hn : l.most = some n) (hdf : d.params.defaults = [])
    (call : ∀ (w : World) (s₀ s₁ : Shared) (mg mb : Str → Option Value) (fa : Addr) (o : Obj) (pm cd doc : Value) (a : Addr) (vs : List Value) (ns : List Int),
      Ground q loose [] XP w s₀ mg mb s₁.heap → YP w s₁.heap →
      s₁.heap.get? fa = some o → o.data = .func (docDef d.name d.params d.body d.scope pm cd doc) → s₁.heap.CodeRec cd d.name → mg d.name = some (.ref fa) →
      s₁.heap.get? a = some { cls := .type "list", data := .seq vs.toArray } → IntsAre vs ns → ns.length ≤ n → s₁.gens = #[] →
      codeAny (model l.prog w) callerA (.call (.ref fa) ⟨[.ref a], []⟩) (fun r s' => r = .ok (.ret (.bool true)) ∧ OldK s₁.heap s'.heap ∧ s'.os = s₁.os ∧ AllBare s'.gens) s₁) :
    WalkO q loose XP YP l.row.toRowW d [] (fun f vs => PySem.call f vs) := by
  intro w s₀ s₁ mg mb G Y fa o pm cd doc dV kV ho hd hcd hD hmg hg args vals as hpre hlay hrd hwl hlo
  obtain rfl : dV = .none := Dflts.none hD hdf
  obtain rfl : kV = .none := Dflts.noKw hD
  obtain ⟨a, vs, ns, rfl, rfl, hobj, hints, hlen⟩ := script_of hn hpre hwl
  refine enter_call (codeAny_mono (call w s₀ s₁ mg mb fa o pm cd doc a vs ns G Y ho (fd_plain hd) hcd hmg hobj hints hlen hg) fun r s' hq => ?_)
  obtain ⟨rfl, h2, h3, h4⟩ := hq
  exact ⟨.inl ⟨.bool true, .bool true, [], rfl, fun _ => rfl, .bool true, post_true l _, fun _ => ⟨List.Pairwise.nil, fun _ hm => (nomatch hm)⟩⟩, h2, h3, h4⟩
end Att
namespace L2
open PySem PySem.Spec PyProof.Rows
theorem vals_ints : ∀ {vs : List Value} {ns : List Int}, IntsAre vs ns → Vals (ns.map V.int) vs
  | _, _, .nil => .nil
  | _, _, .cons n t h => .cons ⟨t, rfl⟩ (vals_ints h)
noncomputable def Only (H : Hp) : Prop := ∀ b, H b = none ∨ ∃ o xs, H b = some (.frz o (.lst xs))
theorem law_call {P : Program} {w : World} {K : PySem.W.Frag} {mg mb : Str → Option Value} {CX : CXT} {k : Nat} {fa a : Addr} {fd : FuncData} {x : Str} {sp : Sp} {s₁ : Shared} {vs : List Value} {ns : List Int}
    (KX : K.In s₁.heap) (hns : s₁.heap.Ns mainGlobals mg) (hb : s₁.heap.Ns builtinsNs mb) (hbb : ∀ x : Str, x ≠ "__name__" → mb x = bootBuiltins x) (hlim : s₁.heap.NoLimit) (hg : s₁.gens = #[])
    (ha : s₁.heap.get? a = some { cls := .type "list", data := .seq vs.toArray }) (hi : IntsAre vs ns) (hl : ns.length ≤ sizeLine) (hr : Room k callerA)
    (F : ∀ base : Heap, K.In base → base.Ns mainGlobals mg → FnOk P w K mg base CX k fa fd [x] sp) (hbind : ∀ (s : Shared) (u : Value), BindsTo s fd ⟨[u], []⟩ [(x, u)])
    (hsp : ∀ H : Hp, Only H → SqL K H a (ns.map V.int) → sp [.ref a] H (fun v _ => v = .bl true) fun _ _ _ => False)
    (hCX : ∀ H e s', CX [] H s₁ (fun _ _ _ => False) e s' → False) :
    codeAny (model P w) callerA (.call (.ref fa) ⟨[.ref a], []⟩) (fun r s' => r = .ok (.ret (.bool true)) ∧ OldK s₁.heap s'.heap ∧ s'.os = s₁.os ∧ AllBare s'.gens) s₁ := by
  have rv := vals_ints hi
  have lenV := hi.length
  -- from an abstract heap in which nothing but the script may be tracked
  have core : ∀ H : Hp, Only H → SqL K H a (ns.map V.int) → HOk P w H s₁.heap → (∀ b, H b ≠ none → b = a) → (H a ≠ none → K.lookup a = none) →
      codeAny (model P w) callerA (.call (.ref fa) ⟨[.ref a], []⟩) (fun r s' => r = .ok (.ret (.bool true)) ∧ OldK s₁.heap s'.heap ∧ s'.os = s₁.os ∧ AllBare s'.gens) s₁ := by
    intro H hO hS hok hA hK
    have base_of : ∀ {b : Addr} {o : Obj}, s₁.heap.get? b = some o → H b = none → (hidT s₁.heap H).get? b = some o := fun e n => hidT_get e n
    have noA : ∀ {b : Addr} {o : Obj} {es : Array DictEntry} {ep : Nat}, s₁.heap.get? b = some o → o.data = .dict es ep → H b = none := fun {b o es ep} e d => by
      cases q : H b with
      | none => rfl
      | some u =>
        have e' : b = a := hA b (by rw [q]; simp)
        subst e'
        rw [ha] at e; cases e
        have d' : Data.seq vs.toArray _ = Data.dict es ep := d
        cases d'
    have nsK : ∀ {b : Addr} {m : Str → Option Value}, s₁.heap.Ns b m → (hidT s₁.heap H).Ns b m := fun {b m} zq8 => by obtain ⟨o, es, ep, e, d, r⟩ := zq8; exact (⟨o, es, ep, base_of e (noA e d), d, r⟩)
    have hKb : K.In (hidT s₁.heap H) := fun b o e => base_of (KX b o e) (by
      cases q : H b with
      | none => rfl
      | some u =>
        have e' : b = a := hA b (by rw [q]; simp)
        subst e'
        rw [hK (by rw [q]; simp)] at e; cases e)
    have hM : Mod K mg (hidT s₁.heap H) := ⟨hKb, nsK hns, ⟨mb, nsK hb, hbb⟩, let ⟨mc, h1, h2⟩ := hlim; ⟨mc, nsK h1, h2⟩⟩
    have e0 : Env0 P w K mg (hidT s₁.heap H) callerA [] s₁ H := ⟨rfl, hM, fun b o e => of_hidT e, Nat.le_of_eq (hidT_size _ _), trivial, fun b hb => absurd (show b ∈ ([] : List Addr) from hb) (by simp), hok, .of_eq hg⟩
    refine codeAny_mono ((F _ hKb (nsK hns)).run callerA [] s₁ H ⟨[.ref a], []⟩ [.ref a] [.ref a] _ _ hr e0 (hbind s₁ (.ref a)) (.cons rfl .nil) (hsp H hO hS)) fun r s' h => ?_
    cases r with
    | error e => exact (hCX H e s' h).elim
    | ok fl =>
      cases fl with
      | next => exact False.elim h
      | brk => exact False.elim h
      | cont => exact False.elim h
      | ret u =>
        obtain ⟨v, H', os, bare, un, hok', r', q⟩ := h
        have q' : v = .bl true := q
        subst q'
        obtain rfl : u = Value.bool true := r'
        refine ⟨rfl, OldK.of_keep fun b o e => ?_, os, bare⟩
        cases q : H b with
        | none => exact un.keep b o e q (by intro z; exact absurd (show b ∈ ([] : List Addr) from z) (by simp)) (by simp)
        | some u =>
          rcases hO b with z | ⟨ob, xs, z⟩
          · rw [q] at z; cases z
          · have z2 := un.frzs b ob _ z
            obtain ⟨e1, _⟩ := hok b _ z
            obtain ⟨e2, _⟩ := hok' b _ z2
            rw [e] at e1; cases e1
            exact e2
  cases hk : K.lookup a with
  | some o =>
    -- the script is one of the module's own objects
    have e := KX a o hk
    rw [ha] at e
    cases e
    refine core (fun _ => none) (fun _ => .inl rfl) (.inr ⟨_, vs.toArray, _, hk, rfl, rfl, rfl, by rw [List.size_toArray, lenV]; exact hl, by simpa using rv⟩) (fun b u z => by have z' : (none : Option HO) = some u := z; cases z') (fun b z => absurd rfl z) fun z => absurd rfl z
  | none =>
    refine core (fun b => if b = a then some (.frz { cls := .type "list", data := .seq vs.toArray } (.lst (ns.map V.int))) else none) (fun b => ?_) (.inl (.inr ⟨{ cls := .type "list", data := .seq vs.toArray }, if_pos rfl⟩)) (fun b u z => ?_) (fun b z => ?_) fun _ => hk
    · by_cases hb : b = a
      · exact .inr ⟨_, _, if_pos hb⟩
      · exact .inl (if_neg hb)
    · by_cases hb : b = a
      · have z' := (if_pos hb).symm.trans z
        cases z'
        subst hb
        exact ⟨ha, by rw [List.length_map]; exact hl, vs, _, rv, ha⟩
      · have z' := (if_neg hb).symm.trans z
        cases z'
    · by_cases hb : b = a
      · exact hb
      · exact absurd (if_neg hb) z
end L2
namespace L2
open PySem PySem.Spec PyProof.Rows
theorem walk_of {l : PySem.W.OpenLaw} {n k : Nat} {q : Program} {loose : List Str} {XP : (Str → Option Value) → Heap → Prop} {YP : World → Heap → Prop} {d : DefRec} {K : Params → PySem.W.Frag} {CX : World → CXT} {sp : World → Sp} {x : Str}
    (hn : l.most = some n) (hn2 : n ≤ sizeLine) (hdf : d.params.defaults = []) (hr : Room k callerA)
    (hY : ∀ (w : World) (h : Heap), YP w h → (K w.params).In h)
    (F : ∀ (w : World) (mg : Str → Option Value) (fa : Addr) (h : Heap), (K w.params).In h → h.Ns mainGlobals mg → mg d.name = some (.ref fa) →
      ∃ fd : FuncData, (∀ (s : Shared) (u : Value), BindsTo s fd ⟨[u], []⟩ [(x, u)]) ∧
        ∀ base : Heap, (K w.params).In base → base.Ns mainGlobals mg → FnOk l.prog w (K w.params) mg base (CX w) k fa fd [x] (sp w))
    (hsp : ∀ (w : World) (H : Hp) (a : Addr) (ns : List Int), ns.length ≤ n → Only H → SqL (K w.params) H a (ns.map V.int) → sp w [.ref a] H (fun v _ => v = .bl true) fun _ _ _ => False)
    (hCX : ∀ (w : World) (H : Hp) (s : Shared) (e : Value) (s' : Shared), CX w [] H s (fun _ _ _ => False) e s' → False) :
    PySem.W.WalkO q loose XP YP l.row.toRowW d [] (fun f vs => PySem.call f vs) := by
  refine Att.attach_call hn hdf fun w s₀ s₁ mg mb fa o pm cd doc a vs ns G Y ho hd hcd hmg hobj hints hlen hg => ?_
  have KX := hY w _ Y
  obtain ⟨fd, hb, hF⟩ := F w mg fa _ KX G.T.g hmg
  exact law_call KX G.T.g G.T.b G.T.builtins G.T.nolimit hg hobj hints (Nat.le_trans hlen hn2) hr hF hb (fun H hO hS => hsp w H a ns hlen hO hS) fun H e s' => hCX w H s₁ e s'
end L2
namespace L2
open PySem PySem.Spec PyProof.Rows
noncomputable def inClass (s : Stmt) (j : Nat) : Stmt := match s with
  | .ClassDef _ _ _ body _ _ _ _ _ _ _ => body.getD j (.Pass ⟨0, 0, 0, 0⟩)
  | _ => .Pass ⟨0, 0, 0, 0⟩
noncomputable def defArgs (s : Stmt) : Arguments := match s with
  | .FunctionDef _ a _ _ _ _ _ _ _ _ => a
  | _ => { posonlyargs := [], args := [], vararg := none, kwonlyargs := [], kw_defaults := [], kwarg := none, defaults := [] }
noncomputable def defBody (s : Stmt) : List Stmt := match s with
  | .FunctionDef _ _ b _ _ _ _ _ _ _ => b
  | _ => []
noncomputable def defScope (s : Stmt) : Scope := match s with
  | .FunctionDef _ _ _ _ _ _ sc _ _ _ => sc
  | _ => { kind := .function, names := [], isGenerator := false, isCoroutine := false }
noncomputable abbrev CX0 : CXT := fun _ _ _ _ _ _ => False
noncomputable abbrev E0 : XK := fun _ _ _ => False
theorem pass0 {X : Cx} : Passes CX0 X E0 := fun _ _ _ _ _ _ _ h => h.elim
structure Fun (K : PySem.W.Frag) (x qual : Str) (st : Stmt) (f : Addr) (fd : FuncData) : Prop where
  ex : ∃ (oc : Value) (od : Option Addr) (kV doc pm : Value) (an : Option Addr) (cdv ct : Value) (osl : Array (Option Value)),
    fd = PySem.W.fnOf x qual (defArgs st) (defBody st) (defScope st) .none kV doc pm an cdv ct ∧ K.lookup f = some ⟨oc, od, .func fd, osl⟩ ∧ PySem.W.codeIn K cdv qual = true
  kp : PySem.W.keepIn K (.ref f) = true
section
variable {P : Program} {w : World} {K : PySem.W.Frag} {mg : Str → Option Value} {base : Heap}
theorem Fun.ok {x qual : Str} {st : Stmt} {f : Addr} {fd : FuncData} {N ps : List Str} {k : Nat} {sp : Sp} (F : Fun K x qual st f fd) (S : FnScope N ps (defScope st)) (len : ∀ vs H Q E, sp vs H Q E → vs.length = ps.length)
    (hbody : ∀ (cdv : Value) (A : Around) (outer : List Env) (s : Shared) (H : Hp) (vs : List V) (Q : VK) (E : XK), Room k (A.deeper (envOfC qual (defScope st) s.heap.objs.size f cdv)) → sp vs H Q E →
      ∃ t, PSs (cxOf CX0 P w K mg base N qual (defScope st) f cdv A outer s H E).nox (defBody st) t ∧ t { nx := fun _ H' => Q .non H', rt := Q } (start N vs) H) : FnOk P w K mg base CX0 (k + 1) f fd ps sp := by
  obtain ⟨oc, od, kV, doc, pm, an, cdv, ct, osl, rfl, lk, hcd⟩ := F.ex
  refine fn_of lk hcd S len fun A outer s H vs Q E hr hsp => ?_
  obtain ⟨t, h, q⟩ := hbody cdv A outer s H vs Q E hr hsp
  exact ⟨t, h.nox, q⟩
theorem Fun.binds {x qual : Str} {st : Stmt} {f : Addr} {fd : FuncData} {ps : List Str} (F : Fun K x qual st f fd)
    (h : ∀ (kV doc pm : Value) (an : Option Addr) (cdv ct : Value) (us : List Value), us.length = ps.length → bindArgs (PySem.W.fnOf x qual (defArgs st) (defBody st) (defScope st) .none kV doc pm an cdv ct) ⟨us, []⟩ = pure (ps.zip us)) : Binds K fd ps [] := by
  obtain ⟨oc, od, kV, doc, pm, an, cdv, ct, osl, rfl, lk, hcd⟩ := F.ex
  exact .all (h kV doc pm an cdv ct)
theorem fun_mk {x qual : Str} {st : Stmt} {f : Addr} {oc : Value} {od an : Option Addr} {osl : Array (Option Value)} {kV doc pm cdv ct : Value} (l : K.lookup f = some ⟨oc, od, .func (PySem.W.fnOf x qual (defArgs st) (defBody st) (defScope st) .none kV doc pm an cdv ct), osl⟩)
    (c : PySem.W.codeIn K cdv qual = true) (k : PySem.W.keepIn K (.ref f) = true) : Fun K x qual st f (PySem.W.fnOf x qual (defArgs st) (defBody st) (defScope st) .none kV doc pm an cdv ct) := ⟨⟨oc, od, kV, doc, pm, an, cdv, ct, osl, rfl, l, c⟩, k⟩
end
theorem hu_of {A : Around} {k : Nat} (hr : Room k A) : A.units + 1 < cLine := Nat.lt_of_le_of_lt (Nat.add_le_add_left (by decide : 1 ≤ 64) _) hr.units
theorem small1000 {n : Nat} (h : n ≤ 1000) : n < sizeLine := Nat.lt_of_le_of_lt h (by decide)
theorem ite2 {c A B : Prop} [Decidable c] (h1 : c → A) (h2 : ¬ c → B) : if c then A else B := by
  by_cases h : c
  · rw [if_pos h]
    exact h1 h
  · rw [if_neg h]
    exact h2 h
noncomputable def Same (H H' : Hp) : Prop := ∀ b o, H b = some o → H' b = some o
theorem Same.refl (H : Hp) : Same H H := fun _ _ h => h
theorem Same.trans {H H1 H2 : Hp} (a : Same H H1) (b : Same H1 H2) : Same H H2 := fun c o h => b c o (a c o h)
theorem Same.free {H H' : Hp} (e : Same H H') {l : Addr} (h : H' l = Option.none) : H l = Option.none := by
  cases q : H l with
  | none => rfl
  | some o =>
    rw [e l o q] at h
    cases h
theorem Same.seq {K : PySem.W.Frag} {H H' : Hp} {a : Addr} {xs : List V} (e : Same H H') (h : SqL K H a xs) : SqL K H' a xs := by
  rcases h with (h | ⟨o, h⟩) | h
  · exact .inl (.inl (e _ _ h))
  · exact .inl (.inr ⟨o, e _ _ h⟩)
  · exact .inr h
end L2
namespace L2
open PySem PySem.Spec PyProof.Rows
theorem compLoop_any {prog : Program} {w : World} {A : Around} {R : Result → Shared → Prop} {s : Shared} {elt target iter : Expr} {ifs : List Expr} {scope : Scope} {pos : Pos} {it acc : Value} {env : Env} (I : Nat → Shared → Prop)
    (turn : ∀ n s, I n s → wpAny (model prog w) A (pyNext it) (fun r s₁ => match r with
      | none => R (.ok .next) s₁
      | some v => wpAny (model prog w) A (letOwnedTupleGo target it v) (fun _ s₁ => wpAny (model prog w) A (assign target env v) (fun _ s₂ =>
          wpAny (model prog w) A (forIn ifs true fun c r => if r = true then do let ok ← isTrue c env (eval c env); pure (ForInStep.yield ok) else pure (ForInStep.yield r)) (fun ok s₃ =>
            if ok = true then wpAny (model prog w) A (eval elt env) (fun x s₄ =>
              wpAny (model prog w) A (call (.builtin "list.append") [acc, x]) (fun _ s₅ => ∃ m, m < n ∧ I m s₅) (notedBy (model prog w) A env fun e s' => R (.error e) s') s₄) (notedBy (model prog w) A env fun e s' => R (.error e) s') s₃
            else ∃ m, m < n ∧ I m s₃) (notedBy (model prog w) A env fun e s' => R (.error e) s') s₂) (notedBy (model prog w) A env fun e s' => R (.error e) s') s₁) (notedBy (model prog w) A env fun e s' => R (.error e) s') s₁) (notedBy (model prog w) A env fun e s' => R (.error e) s') s)
    (n : Nat) (h : I n s) :
    codeAny (model prog w) A (.compLoop (.ListComp elt [⟨target, iter, ifs, 0⟩] scope pos) 0 it acc env) R s := by
  refine codeAny_loop rfl I (fun n s hI => ?_) n h
  show wpAny _ A ((compTurn (.ListComp elt [⟨target, iter, ifs, 0⟩] scope pos) 0 it acc env).onRaise (fun x => do noteFrame x env; theTreesLotGoes x)) _ _ s
  refine wpAny_noted ?_
  rw [compTurn_list]
  refine wpAny_bind (wpAny_standAt (wpAny_bind (wpAny_mono (turn n s hI) (fun r s₁ h₁ => ?_) fun _ _ h' => h')))
  cases r with
  | none => exact wpAny_pure h₁
  | some v =>
    refine wpAny_bind (wpAny_mono h₁ (fun _ s₁ h₁ => ?_) fun _ _ h' => h')
    refine wpAny_bind (wpAny_mono h₁ (fun _ s₂ h₂ => wpAny_bind (wpAny_mono h₂ (fun ok s₃ h₃ => ?_) fun _ _ h' => h')) fun _ _ h' => h')
    cases ok with
    | false => exact wpAny_pure ⟨rfl, h₃⟩
    | true =>
      exact wpAny_bind (wpAny_bind (wpAny_mono h₃ (fun x s₄ h₄ => wpAny_bind (wpAny_mono h₄ (fun _ s₅ h₅ => wpAny_pure (wpAny_pure ⟨rfl, h₅⟩)) fun _ _ h' => h')) fun _ _ h' => h'))
noncomputable def PTs (X : Cx) (ifs : List Expr) (t : TT) : Prop :=
  ∀ (pins : List (Addr × Obj)) (s : Shared) (σ : St) (H : Hp) (Q : Bool → Hp → Prop), Inv X pins σ H s → t σ H Q →
    wpAny (model X.prog X.w) X.A (forIn ifs true fun c r => if r = true then do let ok ← isTrue c X.env (eval c X.env); pure (ForInStep.yield ok) else pure (ForInStep.yield r)) (TP X pins σ Q) X.xe s
noncomputable def tYes : TT := fun _ H Q => Q true H
theorem pts_nil {X : Cx} : PTs X [] tYes := fun _ _ _ H _ I h => wpAny_tests_nil ⟨H, I, h⟩
theorem pts_one {X : Cx} {c : Expr} {t : TT} (hc : PT X c t) : PTs X [c] t := fun pins s σ H Q I h => wpAny_tests_one (hc pins s σ H Q I h)
theorem closure_of {env : Env} : ∀ (names : List (Str × NameKind)) (acc : List (Str × Addr)), (∀ x ∈ names, x.2 = .free → ∃ c, env.cells.lookup x.1 = some c) →
    ∃ cl, (forIn (m := Sem) names acc fun x r => match x with
      | (name, kind) => if (kind == NameKind.free) = true then do let c ← cellOf env name; pure (ForInStep.yield ((name, c) :: r)) else pure (ForInStep.yield r)) = pure cl ∧
      (∀ x c, cl.lookup x = some c → acc.lookup x = some c ∨ env.cells.lookup x = some c) ∧ (∀ x, (acc.lookup x).isSome = true → (cl.lookup x).isSome = true) ∧ (∀ x, (x, NameKind.free) ∈ names → (cl.lookup x).isSome = true)
  | [], acc, _ => ⟨acc, rfl, fun x c h => .inl h, fun x h => h, fun x h => nomatch h⟩
  | (n, k) :: r, acc, h => by
    by_cases hk : k = .free
    · subst hk
      obtain ⟨c, hc⟩ := h (n, .free) List.mem_cons_self rfl
      obtain ⟨cl, e, h1, h2, h3⟩ := closure_of r ((n, c) :: acc) (fun x hx => h x (List.mem_cons_of_mem _ hx))
      refine ⟨cl, ?_, fun x d hd => ?_, fun x hx => h2 x ?_, fun x hx => ?_⟩
      · simp only [List.forIn_cons, beq_self_eq_true, if_true, cellOf, hc]
        exact e
      · rcases h1 x d hd with q | q
        · simp only [List.lookup_cons] at q
          split at q
          · rename_i hb
            have : x = n := by simpa using hb
            subst this
            cases q
            exact .inr hc
          · exact .inl q
        · exact .inr q
      · simp only [List.lookup_cons]
        split
        · rfl
        · exact hx
      · rcases List.mem_cons.mp hx with q | q
        · cases q
          exact h2 n (by simp)
        · exact h3 x q
    · obtain ⟨cl, e, h1, h2, h3⟩ := closure_of r acc (fun x hx => h x (List.mem_cons_of_mem _ hx))
      refine ⟨cl, ?_, h1, h2, fun x hx => ?_⟩
      · have : (k == NameKind.free) = false := by simpa using hk
        simp only [List.forIn_cons, this, Bool.false_eq_true, if_false]
        exact e
      · rcases List.mem_cons.mp hx with q | q
        · cases q
          exact absurd rfl hk
        · exact h3 x q
noncomputable def compCx (X : Cx) (scope : Scope) (N : List Str) (cl : List (Str × Addr)) (C : Addr) (fp : List Addr) (s : Shared) (H : Hp) (xe : Value → Shared → Prop) : Cx where
  prog := X.prog
  w := X.w
  K := X.K
  mg := X.mg
  base := X.base
  A := X.A
  N := N
  s₀ := s
  H₀ := H
  env := compEnvC scope cl C X.env
  outer := X.stack
  stack := X.stack
  ex := fp
  fn := fun _ => false
  calm := X.calm
  pn := []
  xe := xe
noncomputable def inner (nt : Nat) (js : List Nat) (σ : St) : St := List.replicate nt none ++ js.map fun j => (σ[j]?).join
noncomputable def Wk (σ0 σ2 : St) : Prop := σ0.length = σ2.length ∧ ∀ (i : Nat) v, σ0[i]? = some (some v) → σ2[i]? = some (some v)
noncomputable def TgOk (g : TG) (nt : Nat) : Prop := ∀ (x : V) (σ0 : St) (H : Hp) (Q : St → Hp → Prop), (∀ i, i < nt → σ0[i]? = some none) → g x σ0 H Q → g x σ0 H fun σ2 H2 => Wk σ0 σ2 ∧ Q σ2 H2
theorem Wk.set {σ0 : St} {i : Nat} {v : V} (h : σ0[i]? = some none) : Wk σ0 (σ0.set i (some v)) := by
  refine ⟨by simp, fun j w e => ?_⟩
  by_cases hj : j = i
  · subst hj; rw [h] at e; cases e
  · rw [List.getElem?_set_ne (Ne.symm hj)]; exact e
theorem tgOk_name {i nt : Nat} (hi : i < nt) : TgOk (gName i) nt := fun x σ0 H Q h q => ⟨Wk.set (h i hi), q⟩
theorem inner_none {nt : Nat} {js : List Nat} {σ : St} : ∀ i, i < nt → (inner nt js σ)[i]? = some none := fun i hi => by
  unfold inner
  rw [List.getElem?_append_left (by simpa using hi)]
  simp [hi]
noncomputable def tComp (nt : Nat) (js : List Nat) (wi : TI) (g : TG) (tc : TT) (te : TE) : TE := fun σ H Q => wi σ H fun J H1 => ∀ D, H1 D = none → ∃ W : Nat → Nat → List V → Hp → Prop, (∃ m, W 0 m [] (upd H1 D (.lst []))) ∧
  ∀ i m ys H2, W i m ys H2 → (J.stop i H2 ∧ Q (.ref D) H2) ∨ (J.go i H2 ∧ ∃ N : List V → Hp → Prop, (∀ ys' H', N ys' H' → ∃ m', m' < m ∧ W (i + 1) m' ys' H') ∧
    ∀ x H', J.yld i H2 x H' → g x (inner nt js σ) H' fun σ2 H3 => tc σ2 H3 fun b H4 => if b = true then te σ2 H4 fun y H5 => H5 D = some (.lst ys) ∧ ys.length < sizeLine ∧ N (ys ++ [y]) (upd H5 D (.lst (ys ++ [y]))) else N ys H4)
section
variable {X : Cx}
structure CompOk (X : Cx) (scope : Scope) (N : List Str) (nt : Nat) (js : List Nat) : Prop where
  kind : scope.kind = .function
  nd : N.Nodup
  len : N.length = nt + js.length
  /-- each name of around: its slot there, where it is a cell or free -/
  at_ : ∀ (k : Nat) (j : Nat) (x : Str), js[k]? = some j → N[nt + k]? = some x → X.N[j]? = some x ∧ (X.env.scope.names.lookup x = some .cell ∨ X.env.scope.names.lookup x = some .free)
  frl : ∀ (k : Nat) (x : Str), N[nt + k]? = some x → scope.names.lookup x = some .free
  own : ∀ y ∈ scope.names, y.2 ≠ .cell
  loc : ∀ y ∈ scope.names, y.2 = .local → scope.names.lookup y.1 = some .local
  free : ∀ y ∈ scope.names, y.2 = .free → X.env.scope.names.lookup y.1 = some .cell ∨ X.env.scope.names.lookup y.1 = some .free
theorem relabel_free {env : Env} : ∀ {names : List (Str × NameKind)} {x : Str}, ((names.map fun (n, k) => if (k == NameKind.free && env.scope.kind == .function && env.kindOf n == some .cell) then (n, NameKind.cell) else (n, k)).lookup x = some .cell ∨ (names.map fun (n, k) => if (k == NameKind.free && env.scope.kind == .function && env.kindOf n == some .cell) then (n, NameKind.cell) else (n, k)).lookup x = some .free) →
    (∀ y ∈ names, y.2 ≠ .cell) → (x, NameKind.free) ∈ names
  | [], x, h, _ => by rcases h with h | h <;> simp at h
  | (n, k) :: r, x, h, hc => by
    have ih := @relabel_free env r x
    have hr : ∀ y ∈ r, y.2 ≠ .cell := fun y hy => hc y (List.mem_cons_of_mem _ hy)
    cases hx : x == n with
    | true =>
      have e : x = n := by simpa using hx
      subst e
      have kf : k = .free := by
        simp only [List.map_cons] at h
        by_cases q : (k == NameKind.free && env.scope.kind == .function && env.kindOf x == some .cell) = true
        · simp only [Bool.and_eq_true, beq_iff_eq] at q
          exact q.1.1
        · rw [if_neg q] at h
          simp only [List.lookup_cons, beq_self_eq_true] at h
          rcases h with h | h
          · cases h
            exact absurd rfl (hc _ List.mem_cons_self)
          · exact Option.some.inj h
      subst kf
      exact List.mem_cons_self
    | false =>
      refine List.mem_cons_of_mem _ (ih ?_ hr)
      simp only [List.map_cons] at h
      by_cases q : (k == NameKind.free && env.scope.kind == .function && env.kindOf n == some .cell) = true
      · rw [if_pos q] at h; simpa only [List.lookup_cons, hx] using h
      · rw [if_neg q] at h; simpa only [List.lookup_cons, hx] using h
theorem lookup_relabel_free {env : Env} : ∀ {names : List (Str × NameKind)} {x : Str}, names.lookup x = some .free →
    ((names.map fun (n, k) => if (k == NameKind.free && env.scope.kind == .function && env.kindOf n == some .cell) then (n, NameKind.cell) else (n, k)).lookup x = some .cell ∨ (names.map fun (n, k) => if (k == NameKind.free && env.scope.kind == .function && env.kindOf n == some .cell) then (n, NameKind.cell) else (n, k)).lookup x = some .free)
  | [], _, h => by simp at h
  | (n, k) :: r, x, h => by
    have ih := @lookup_relabel_free env r x
    simp only [List.map_cons]
    cases hx : x == n with
    | true =>
      simp only [List.lookup_cons, hx] at h
      cases h
      by_cases q : (NameKind.free == NameKind.free && env.scope.kind == .function && env.kindOf n == some .cell) = true
      · rw [if_pos q]; simp only [List.lookup_cons, hx]; simp
      · rw [if_neg q]; simp only [List.lookup_cons, hx]; simp
    | false =>
      simp only [List.lookup_cons, hx] at h
      by_cases q : (k == NameKind.free && env.scope.kind == .function && env.kindOf n == some .cell) = true
      · rw [if_pos q]; simp only [List.lookup_cons, hx]; exact ih h
      · rw [if_neg q]; simp only [List.lookup_cons, hx]; exact ih h
theorem comp_start {scope : Scope} {N : List Str} {nt : Nat} {js : List Nat} {cl : List (Str × Addr)} {fp : List Addr} {pins : List (Addr × Obj)} {σ : St} {H H1 : Hp} {s : Shared} {h' : Heap} {C : Addr} {tk : Nat} {xe : Value → Shared → Prop} {m : Str → Option Value}
    (S : CompOk X scope N nt js) (I : Inv X pins σ H s) (hf : ∀ b ∈ fp, FpOk X pins H b) (hcl : ∀ x c, cl.lookup x = some c → X.env.cells.lookup x = some c) (hcl2 : ∀ x, (x, NameKind.free) ∈ scope.names → (cl.lookup x).isSome = true)
    (hfp : ∀ b ∈ fp, b < s.heap.objs.size) (hC : s.heap.objs.size ≤ C) (k : ∀ b o, s.heap.get? b = some o → h'.get? b = some o) (hs : ∀ b o, H b = some o → H1 b = some o) (hs2 : ∀ b, H b = none → b < s.heap.objs.size → H1 b = none) (hok : HOk X.prog X.w H1 h') (hn : h'.Ns C m) (hC0 : H1 C = none)
    (hm : ∀ x, m x = none) :
    Inv (compCx X scope N cl C fp s H xe) [] (inner nt js σ) H1 { s with heap := h', toks := tk } := by
  have hfs : ∀ b ∈ fp, b ∉ frs X.stack := fun b hb z => by
    obtain ⟨f0, f1, f2, _⟩ := hf b hb
    rcases List.mem_cons.mp (I.stkSub b z) with q | q
    · exact f1 q
    · exact f2 q
  refine ⟨⟨I.ok.mod, S.kind, I.ok.glob, I.ok.blt, hC, fun x y c h1 h2 => I.ok.inj x y c (hcl x c h1) (hcl y c h2), fun x hx => ?_, fun x c z => (Bool.false_ne_true z).elim, I.ok.hd, I.ok.frames, .inl rfl, fun b hb => ?_, I.bs, Nat.le_trans I.ok.bsz I.sz, fun b o e hb => ?_, hfs, I.stack, I.stkFree⟩,
    rfl, I.bare, ?_, ⟨m, hn, fun i x v h1 h2 h3 => ?_⟩, fun x c e => ?_, hC0, fun x c e => ?_, fun p hp => absurd (show p ∈ ([] : List (Addr × Obj)) from hp) (by simp), hok, ?_⟩
  · have q : (x, NameKind.free) ∈ scope.names := relabel_free (env := X.env) hx S.own
    exact Option.isSome_iff_exists.mp (hcl2 x q)
  · obtain ⟨f0, f1, f2, f3, f4, f5⟩ := hf b hb
    refine ⟨Nat.ne_of_lt (Nat.lt_of_lt_of_le (hfp b hb) hC), fun x c e => f4 x c (hcl x c e)⟩
  · have := hf b hb
    obtain ⟨f0, f1, f2, f3, f4, f5⟩ := this
    rcases f3 with f3 | f3
    · exact I.ok.noex b o e f3
    · exact absurd (Nat.lt_of_lt_of_le (Heap.lt_size e) (Nat.le_trans I.ok.bsz f3)) (Nat.lt_irrefl _)
  · refine ⟨fun b o e n _ _ => k b o e, fun b o e n _ _ => ⟨o.slots, k b o e⟩, fun b o e n _ => hs2 b n (Heap.lt_size e), fun b o e _ => ⟨o, k b o e⟩, fun b xs e => hs b _ e, fun b o u e => hs b _ e, fun b ps e => ⟨#[], by rw [hs b _ e]; simp⟩⟩
  · by_cases hi : i < nt
    · rw [inner_none i hi] at h2; cases h2
    · obtain ⟨k', rfl⟩ : ∃ k', i = nt + k' := ⟨i - nt, by omega⟩
      unfold inner at h2
      rw [List.getElem?_append_right (by simp)] at h2
      simp only [List.length_replicate, Nat.add_sub_cancel_left, List.getElem?_map] at h2
      cases ej : js[k']? with
      | none => rw [ej] at h2; cases h2
      | some j =>
        rw [ej] at h2
        simp only [Option.map_some, Option.some.injEq] at h2
        obtain ⟨hN, hk⟩ := S.at_ k' j x ej h1
        have hσ : σ[j]? = some (some v) := by
          cases q : σ[j]? with
          | none => rw [q] at h2; cases h2
          | some z => rw [q] at h2; simp only [Option.join] at h2; rw [← h2]; rfl
        have vis : Vis X.env.scope x := by rcases hk with q | q; exact .inr (.inl q); exact .inr (.inr q)
        obtain ⟨m0, hn0, hl0⟩ := I.loc
        obtain ⟨u, r, l⟩ := hl0 j x v hN hσ vis
        refine ⟨u, r, ?_⟩
        rcases l with ⟨q, _⟩ | ⟨q, c, e, z⟩
        · have q' : X.env.scope.names.lookup x = some .local := q
          rw [q'] at hk
          rcases hk with hk | hk <;> cases hk
        · have hv : (relabel scope X.env).names.lookup x = some .cell ∨ (relabel scope X.env).names.lookup x = some .free := lookup_relabel_free (env := X.env) (S.frl k' x h1)
          have q : (x, NameKind.free) ∈ scope.names := relabel_free (env := X.env) hv S.own
          obtain ⟨c', e'⟩ := Option.isSome_iff_exists.mp (hcl2 x q)
          have e2 := hcl x c' e'
          rw [e] at e2; cases e2
          obtain ⟨oc, hoc, hd⟩ := z
          exact .inr ⟨hv, c, e', oc, k _ _ hoc, hd⟩
  · obtain ⟨v, oc, hoc, hd⟩ := I.cell x c (hcl x c e)
    exact ⟨v, oc, k _ _ hoc, hd⟩
  · have e2 := hcl x c e
    obtain ⟨v, oc, hoc, hd⟩ := I.cell x c e2
    exact hs2 c (I.freeC x c e2) (Heap.lt_size hoc)
  · unfold inner
    show _ = N.length
    rw [S.len]
    simp
theorem Inv.wk {Y : Cx} {pins : List (Addr × Obj)} {σ0 σ2 : St} {H : Hp} {s : Shared} (I : Inv Y pins σ2 H s) (h : Wk σ0 σ2) : Inv Y pins σ0 H s := I.weak h.1 h.2
theorem pe_comp {elt tg iter : Expr} {ifs : List Expr} {scope : Scope} {pos : Pos} {N : List Str} {nt : Nat} {js : List Nat} {wi : TI} {g : TG} {tc : TT} {te : TE}
    (hca : X.calm = true) (S : CompOk X scope N nt js) (hi : PI X tg iter wi)
    (hg : ∀ cl C fp s H xe, PG (compCx X scope N cl C fp s H xe) tg g) (hgo : TgOk g nt)
    (hc : ∀ cl C fp s H xe, PTs (compCx X scope N cl C fp s H xe) ifs tc)
    (he : ∀ cl C fp s H xe, PE (compCx X scope N cl C fp s H xe) elt te)
    (hs : ∀ x, foldedSetIterable iter X.env x = pure x := by intro _; rfl) :
    PE X (.ListComp elt [⟨tg, iter, ifs, 0⟩] scope pos) (tComp nt js wi g tc te) := by
  intro pins s σ H Q I h
  obtain ⟨cl, hclos, hcl1, _, hcl2⟩ := closure_of (env := X.env) scope.names [] (fun x hx hk => I.ok.has x.1 (S.free x hx hk))
  have hcl : ∀ x c, cl.lookup x = some c → X.env.cells.lookup x = some c := fun x c e => (hcl1 x c e).elim (fun z => by simp at z) fun z => z
  have hclos' : closureFor scope X.env = pure cl := by
    unfold closureFor
    simp only []
    rw [hclos]
    rfl
  rw [eval_ListComp]
  refine wpAny_comprehension_free (use := none) rfl hs hclos' S.kind S.loc (thn (hi pins s σ H _ I h) fun v s1 h1 => thn h1 fun itv s2 h2 => ?_)
  obtain ⟨it, fp, tn, J, H2, e, I2, T, st2, f2, q2⟩ := h2
  subst e
  have hfresh : H2 s2.heap.objs.size = none := I2.hok.fresh (Nat.le_refl _)
  obtain ⟨W, ⟨m0, w0⟩, turn⟩ := q2 s2.heap.objs.size hfresh
  refine wpAny_newObj_type (wpAny_newFunctionEnv S.own (by intro y hy; simp at hy) (fun h₁ hns₁ hsb₁ => ?_) S.kind)
  dsimp only at hns₁ hsb₁ ⊢
  generalize hG : s2.heap.push { cls := .type "list", dict := none, data := .seq ([] : List Value).toArray } = G at hns₁ hsb₁ ⊢
  have hGs : G.objs.size = s2.heap.objs.size + 1 := by rw [← hG, Heap.size_push]
  have kold : ∀ b o, s2.heap.get? b = some o → h₁.get? b = some o := fun b o e =>
    hsb₁.extBut b o (by rw [hGs]; exact Nat.ne_of_lt (Nat.lt_succ_of_lt (Heap.lt_size e))) (Heap.get?_push_of_some _ (hG ▸ Heap.get?_push_of_some _ e))
  have kD : h₁.get? s2.heap.objs.size = some { cls := .type "list", dict := none, data := .seq ([] : List Value).toArray } :=
    hsb₁.extBut _ _ (by rw [hGs]; exact Nat.ne_of_lt (Nat.lt_succ_self _)) (Heap.get?_push_of_some _ (hG ▸ Heap.get?_push_size _ rfl))
  have hok1 : HOk X.prog X.w (upd H2 s2.heap.objs.size (.lst [])) h₁ := I2.hok.laid kold (Nat.le_refl _) ⟨Nat.zero_le _, [], 0, .nil, kD⟩
  have hfpl : ∀ b ∈ fp, b < s2.heap.objs.size := fun b hb => by
    obtain ⟨o, e, _⟩ := T.obj _ _ st2 b hb
    exact Heap.lt_size e
  have hC0 : (upd H2 s2.heap.objs.size (.lst [])) G.objs.size = none := by
    rw [upd_ne (by rw [hGs]; exact Nat.ne_of_gt (Nat.lt_succ_self _))]
    exact I2.hok.fresh (by rw [hGs]; exact Nat.le_succ _)
  generalize hRR : (compPost (model X.prog X.w) X.A X.xe none (EP X pins σ Q) (.ref s2.heap.objs.size) G.objs.size) = RR
  have stat : ∀ {H' : Hp}, (∀ b ∈ fp, H' b = none) → ∀ b ∈ fp, FpOk (compCx X scope N cl G.objs.size fp s2 H2 (notedBy (model X.prog X.w) X.A (compEnvC scope cl G.objs.size X.env) fun e s' => RR (.error e) s')) [] H' b := fun {H'} hn b hb => by
    obtain ⟨f0, f1, f2', f3, f4, f5⟩ := f2 b hb
    refine ⟨hn b hb, Nat.ne_of_lt (Nat.lt_of_lt_of_le (hfpl b hb) (by show _ ≤ G.objs.size; rw [hGs]; exact Nat.le_succ _)), fun z => ?_, .inl hb, fun x c e => f4 x c (hcl x c e), fun p hp => absurd (show p ∈ ([] : List (Addr × Obj)) from hp) (by simp)⟩
    rcases List.mem_cons.mp (I2.stkSub b z) with q | q
    · exact f1 q
    · exact f2' q
  have I3 : ∀ tk, Inv (compCx X scope N cl G.objs.size fp s2 H2 (notedBy (model X.prog X.w) X.A (compEnvC scope cl G.objs.size X.env) fun e s' => RR (.error e) s')) [] (inner nt js σ) (upd H2 s2.heap.objs.size (.lst [])) { s2 with heap := h₁, toks := tk } := fun tk =>
    comp_start S I2 f2 hcl hcl2 hfpl (by rw [hGs]; exact Nat.le_succ _) kold (fun b o e => by rw [upd_ne (ne_of_none e hfresh)]; exact e) (fun b n hb => by rw [upd_ne (Nat.ne_of_lt hb)]; exact n) hok1 hns₁ hC0 (fun _ => rfl)
  have loop : ∀ s₃ : Shared, s₃ = { s2 with heap := h₁, toks := s2.toks + ([] : List (Str × Value)).length } →
      codeAny (model X.prog X.w) X.A (.compLoop (.ListComp elt [⟨tg, iter, ifs, 0⟩] scope pos) 0 (.ref it) (.ref s2.heap.objs.size) (compEnvC scope cl G.objs.size X.env)) RR s₃ := by
    rintro s₃ rfl
    refine compLoop_any (fun n s' => ∃ i ys H', Inv (compCx X scope N cl G.objs.size fp s2 H2 (notedBy (model X.prog X.w) X.A (compEnvC scope cl G.objs.size X.env) fun e s' => RR (.error e) s')) [] (inner nt js σ) H' s' ∧ tn i s'.heap ∧ (∀ b ∈ fp, H' b = none) ∧ W i n ys H') ?_ m0
      ⟨0, [], _, I3 _, T.keep _ _ _ st2 fun b hb o e => kold b o e, fun b hb => by rw [upd_ne (Nat.ne_of_lt (hfpl b hb))]; exact (f2 b hb).1, w0⟩
    rintro n s3 ⟨i, ys, H3, J3, st3, fr3, w3⟩
    rcases turn i n ys H3 w3 with ⟨stop, qn⟩ | ⟨go, NN, hN, step⟩
    · refine thn (T.done (compCx X scope N cl G.objs.size fp s2 H2 (notedBy (model X.prog X.w) X.A (compEnvC scope cl G.objs.size X.env) fun e s' => RR (.error e) s')) rfl rfl rfl hca i [] s3 (inner nt js σ) H3 _ J3 (stat fr3) st3 stop) fun r s4 zr3723 => ?_
      obtain ⟨hr, I4⟩ := zr3723
      subst hr
      show RR (.ok .next) s4
      rw [← hRR]
      obtain ⟨mC, hnC, _⟩ := id I4.loc
      refine ⟨mC, hnC, fun h'' hs'' => ?_⟩
      have keepC : ∀ b o, b ≠ G.objs.size → s4.heap.get? b = some o → h''.get? b = some o := fun b o hb e => hs''.extBut b o hb e
      have un : Un (frs X.stack) fp H2 H3 s2.heap h'' := by
        have u := I4.base
        refine ⟨fun b o e n hb hx => keepC b o ?_ (u.keep b o e n hb hx), fun b o e n hb hx => ?_, u.free, fun b o e hx => ?_, u.tups, u.frzs, u.tbls⟩
        · exact Nat.ne_of_lt (Nat.lt_of_lt_of_le (Heap.lt_size e) (by rw [hGs]; exact Nat.le_succ _))
        · obtain ⟨sl, e1⟩ := u.slot b o e n hb hx
          exact ⟨sl, keepC b _ (Nat.ne_of_lt (Nat.lt_of_lt_of_le (Heap.lt_size e) (by rw [hGs]; exact Nat.le_succ _))) e1⟩
        · obtain ⟨o', e1⟩ := u.there b o e hx
          exact ⟨o', keepC b _ (Nat.ne_of_lt (Nat.lt_of_lt_of_le (Heap.lt_size e) (by rw [hGs]; exact Nat.le_succ _))) e1⟩
      have hok' : HOk X.prog X.w H3 h'' := fun b u e => (I4.hok b u e).stay (fun c v hc q => keepC c v (by
          have cf : H3 G.objs.size = none := I4.free
          rintro rfl
          rcases hc with z | z
          · rw [z] at cf; rw [cf] at e; cases e
          · rw [cf] at z; cases z) q) (fun _ q => q) fun _ _ q => q
      exact ⟨.ref s2.heap.objs.size, H3, I2.call' (s' := { s4 with heap := h'' }) I4.os un hok' I4.bare (fun b hb => by
        obtain ⟨f0, f1, f2', f3, f4, f5⟩ := f2 b hb
        exact ⟨f3, f1, f4, f5⟩), rfl, qn⟩
    · refine thn (T.item (compCx X scope N cl G.objs.size fp s2 H2 (notedBy (model X.prog X.w) X.A (compEnvC scope cl G.objs.size X.env) fun e s' => RR (.error e) s')) rfl rfl rfl hca i [] s3 (inner nt js σ) H3 _ J3 (stat fr3) st3 go) fun r s4 zr3747 => ?_
      obtain ⟨u, hr, h4⟩ := zr3747
      subst hr
      refine thn h4 fun _ s5 zr3749 => ?_
      obtain ⟨x, H5, I5, r5, y5, st5, fr5⟩ := zr3749
      have I5' := I5.pinned (stat fr5) (T.obj _ _ st5)
      have g5 := hgo x (inner nt js σ) H5 _ inner_none (step x H5 y5)
      refine thn (hg cl G.objs.size fp s2 H2 _ _ s5 _ H5 x u _ I5' r5 g5) fun _ s6 zr3752 => ?_
      obtain ⟨σ6, H6, I6, wk6, q6⟩ := zr3752
      refine thn (hc cl G.objs.size fp s2 H2 _ _ s6 σ6 H6 _ I6 q6) fun ok s7 zr3753 => ?_
      obtain ⟨H7, I7, q7⟩ := zr3753
      have again : ∀ {s8 : Shared} {H8 : Hp} {ys' : List V}, Inv (compCx X scope N cl G.objs.size fp s2 H2 (notedBy (model X.prog X.w) X.A (compEnvC scope cl G.objs.size X.env) fun e s' => RR (.error e) s')) ([] ++ pinsAt fp s5.heap) σ6 H8 s8 → NN ys' H8 →
          ∃ m, m < n ∧ ∃ i ys H', Inv (compCx X scope N cl G.objs.size fp s2 H2 (notedBy (model X.prog X.w) X.A (compEnvC scope cl G.objs.size X.env) fun e s' => RR (.error e) s')) [] (inner nt js σ) H' s8 ∧ tn i s8.heap ∧ (∀ b ∈ fp, H' b = none) ∧ W i m ys H' := fun {s8 H8 ys'} I8 n8 => by
        obtain ⟨m', hm, w8⟩ := hN ys' H8 n8
        refine ⟨m', hm, i + 1, ys', H8, (I8.unpinned).wk wk6, T.keep _ _ _ st5 fun b hb o e => (I8.pin (b, o) (List.mem_append_right _ (List.mem_append_right _ (mem_pinsAt hb e)))).1, fun b hb => ?_, w8⟩
        obtain ⟨o, e, d⟩ := T.obj _ _ st5 b hb
        exact (I8.pin (b, o) (List.mem_append_right _ (List.mem_append_right _ (mem_pinsAt hb e)))).2.1
      cases ok with
      | false =>
        rw [if_neg Bool.false_ne_true] at q7 ⊢
        exact again I7 q7
      | true =>
        rw [if_pos rfl] at q7 ⊢
        refine thn (he cl G.objs.size fp s2 H2 _ _ s7 σ6 H7 _ I7 q7) fun y s8 zr3766 => ?_
        obtain ⟨yv, H8, I8, r8, hD8, hl8, q8⟩ := zr3766
        refine thn (mt_append (X := compCx X scope N cl G.objs.size fp s2 H2 (notedBy (model X.prog X.w) X.A (compEnvC scope cl G.objs.size X.env) fun e s' => RR (.error e) s')) _ s8 σ6 H8 (.ref s2.heap.objs.size) [yv] (.ref s2.heap.objs.size) [y] (fun _ H9 => NN (ys ++ [yv]) H9) I8 rfl (.cons r8 .nil) ⟨_, ys, yv, rfl, rfl, hD8, hl8, q8⟩) fun v9 s9 zr3767 => ?_
        obtain ⟨x9, H9, I9, r9, q9⟩ := zr3767
        exact again I9 q9
  subst hRR
  exact codeAny_compStart_list (loop _ rfl) (T.self _ 0 _ _ _ (T.keep _ _ _ st2 fun b hb o e => kold b o e) (loop _ rfl))
end
end L2
namespace PySem
theorem lri_nolen : typeLookup (.type "list_reverseiterator") "__len__" = pure none := by rw [typeLookup_type, builtinLookup_eq_fast]; kernel_rfl
theorem lri_hint : typeLookup (.type "list_reverseiterator") "__length_hint__" = pure (some (.builtin "list_reverseiterator.__length_hint__")) := by rw [typeLookup_type, builtinLookup_eq_fast]; kernel_rfl
section
variable {prog : Program} {w : World} {A : Around} {E : Value → Shared → Prop} {s : Shared}
theorem extend_rev {R : Result → Shared → Prop} (hh : A.handled = none) (S : Addr) (res : Value) (c₀ : Nat) (hS : s.heap.get? S = some { cls := .type "list", data := .seq #[] c₀ })
    {I l : Addr} {items : Array Value} (hi : s.heap.IsRevIter I l ((items.size : Int) - 1)) (hl : s.heap.IsList l items) (hIl : l ≠ I) (hSI : S ≠ I) (hSl : S ≠ l)
    (hR : ∀ h' tk acc' c', (∀ b o, b ≠ S → b ≠ I → s.heap.get? b = some o → h'.get? b = some o) → h'.get? S = some { cls := .type "list", dict := none, data := .seq acc' c', slots := #[] } →
      ItemsOf (fun i v => items[items.size - 1 - i]? = some v) acc' items.size → R (.ok (.ret res)) { s with heap := h', toks := tk }) (hn : items.size ≤ sizeLine) :
    wpAny (model prog w) A.in1 (Builtin.List.listExtendWith (.ref S) (.ref I) res)
      (fun fin s' => match fin with | .done f => R (.ok f) s' | .again c' => c'.quiet = true ∧ codeAny (model prog w) A c' R s') (fun e s' => R (.error e) s') s := by
  have W := (Walks.listRev (prog := prog) (w := w) (A := A.in1) hh I l hIl items)
  have hSf : S ∉ [I, l] := fun hm => by
    rcases List.mem_cons.mp hm with e | e
    · exact hSI e
    · exact hSl (List.mem_singleton.mp e)
  have hst : 0 ≤ items.size ∧ s.heap.IsRevIter I l ((items.size : Int) - 1 - ((0 : Nat) : Int)) ∧ s.heap.IsList l items := ⟨Nat.zero_le _, by simpa using hi, hl⟩
  unfold Builtin.List.listExtendWith
  refine wpAny_bind (wpAny_typeOf hi.typeIs ?_)
  have h1 : Builtin.List.listSameRef (.ref S) (.ref I) = false := by simp [Builtin.List.listSameRef, hSI]
  have h2 : (Value.type "list_reverseiterator" == Value.type "list") = false := by decide
  have h3 : (Value.type "list_reverseiterator" == Value.type "tuple") = false := by decide
  simp only [h1, h2, h3, Bool.or_false, Bool.false_eq_true, if_false]
  refine wpAny_bind (W.self 0 _ _ _ hst ?_)
  refine wpAny_bind (wpAny_holding ?_)
  unfold Builtin.List.listLengthHint
  refine wpAny_bind (wpAny_specialOf hi.typeIs lri_nolen ?_)
  show wpAny _ A.in1 (specialOf (Value.ref I) (Str.ofString "__length_hint__") >>= _) _ _ _
  refine wpAny_bind (wpAny_specialOf hi.typeIs lri_hint ?_)
  (generalize hid : ("list_reverseiterator.__length_hint__" : String) = id0; (fail_if_success (clear hid id0)); wp_delta; rw [show splitId id0 = some ("list_reverseiterator", "__length_hint__") from by subst hid; decide +kernel]; subst hid)
  refine wpAny_bind (wpAny_isInstance (b := true) hi.typeIs (by rw [isSubtype_type]; kernel_rfl) ?_)
  refine wpAny_pure ?_
  rw [if_neg (by decide)]
  refine wpAny_pure ⟨plainId_quiet F.plain_extend_loop _, codeAny_extend_loopS W.toS hn _ hSf _ items.size 0 _ _ _ rfl (Nat.zero_le _) hst hS (ItemsOf.nil _) fun s' acc' c' hm hS' hacc => ?_⟩
  rw [Moved.eq_with hm]
  refine hR s'.heap s'.toks acc' c' (fun b ob hb hbI e => hm.heap b ob (fun hmem => ?_) e) hS' hacc
  rcases List.mem_cons.mp hmem with e' | hmem
  · exact hb e'
  · exact hbI (List.mem_singleton.mp hmem)
theorem list_init_rev {R : Result → Shared → Prop} (hh : A.handled = none) (S : Addr) (hS : s.heap.get? S = some { cls := .type "list", data := .seq #[] })
    {I l : Addr} {items : Array Value} (hi : s.heap.IsRevIter I l ((items.size : Int) - 1)) (hl : s.heap.IsList l items) (hIl : l ≠ I) (hSI : S ≠ I) (hSl : S ≠ l)
    (hR : ∀ h' tk acc' c', (∀ b o, b ≠ S → b ≠ I → s.heap.get? b = some o → h'.get? b = some o) → h'.get? S = some { cls := .type "list", dict := none, data := .seq acc' c', slots := #[] } →
      ItemsOf (fun i v => items[items.size - 1 - i]? = some v) acc' items.size → R (.ok (.ret .none)) { s with heap := h', toks := tk }) (hn : items.size ≤ sizeLine) :
    wpAny (model prog w) A.in1 (Builtin.«list.__init__» ⟨[.ref S, .ref I], []⟩)
      (fun fin s' => match fin with | .done f => R (.ok f) s' | .again c' => c'.quiet = true ∧ codeAny (model prog w) A c' R s') (fun e s' => R (.error e) s') s := by
  show wpAny _ _ (do let old ← Builtin.List.listItems (.ref S); Builtin.List.listUpdate (.ref S) (fun _ => #[]); letGo old.toList.reverse; Builtin.List.listExtendWith (.ref S) (.ref I) .none) _ _ s
  refine wpAny_bind ?_
  unfold Builtin.List.listItems
  refine wpAny_bind (wpAny_seqItems hS rfl (wpAny_pure ?_))
  show wpAny _ _ (updateSeq S (fun _ => #[]) >>= fun _ => letGo (#[] : Array Value).toList.reverse >>= fun _ => Builtin.List.listExtendWith (.ref S) (.ref I) .none) _ _ s
  refine wpAny_bind (wpAny_updateSeq hS rfl ?_)
  have hS₂ := Heap.get?_update_self (Obj.mapSeq (fun _ => (#[] : Array Value))) hS rfl
  have oth : ∀ b o, b ≠ S → s.heap.get? b = some o → (s.heap.update S (Obj.mapSeq (fun _ => (#[] : Array Value)))).get? b = some o :=
    fun b o hb e => (Heap.get?_update_other _ _ (Ne.symm hb)).trans e
  refine wpAny_bind (wpAny_letGo ?_)
  refine extend_rev (s := { s with heap := s.heap.update S (Obj.mapSeq (fun _ => (#[] : Array Value))) }) hh S .none _ hS₂ (hi.at fun o e => oth _ o (Ne.symm hSI) e) (hl.at fun o e => oth _ o (Ne.symm hSl) e) hIl hSI hSl (fun h' tk acc' c' hk hS' hacc => ?_) hn
  exact hR h' tk acc' c' (fun b o hb hbI e => hk b o hb hbI (oth b o hb e)) hS' hacc
theorem call_list_rev {Q : Value → Shared → Prop} (hh : A.handled = none) {I l : Addr} {items : Array Value} (hi : s.heap.IsRevIter I l ((items.size : Int) - 1)) (hl : s.heap.IsList l items) (hIl : l ≠ I)
    (hQ : ∀ h' tk acc' c', (∀ b o, b ≠ I → s.heap.get? b = some o → h'.get? b = some o) →
      h'.get? s.heap.objs.size = some { cls := .type "list", dict := none, data := .seq acc' c', slots := #[] } → ItemsOf (fun i v => items[items.size - 1 - i]? = some v) acc' items.size → Q (.ref s.heap.objs.size) { s with heap := h', toks := tk }) (hn : items.size ≤ sizeLine) :
    wpAny (model prog w) A (call (.type "list") [.ref I]) Q E s := by
  refine callType_codes (Q₁ := fun obj s₁ => obj = .ref s.heap.objs.size ∧ s₁ = { s with heap := s.heap.push { cls := .type "list", data := .seq #[] } }) F.called_list (F.typeCall_list_1 _) F.entry_list_init
    (code_list_new _ ⟨rfl, rfl⟩) fun obj s₁ h₁ => ?_
  obtain ⟨rfl, rfl⟩ := h₁
  have hS : (s.heap.push { cls := .type "list", data := .seq #[] }).get? s.heap.objs.size = some { cls := .type "list", data := .seq #[] } := Heap.get?_push_size _ rfl
  have up : ∀ b o, s.heap.get? b = some o → (s.heap.push { cls := .type "list", data := .seq #[] }).get? b = some o := fun b o e => Heap.get?_push_of_some _ e
  obtain ⟨oi, hoi, _⟩ := id hi
  obtain ⟨ol, hol, _⟩ := id hl
  refine ⟨⟨_, hS, rfl⟩, F.args_list_init_2 _ _, list_init_rev (s := { s with heap := s.heap.push { cls := .type "list", data := .seq #[] } }) (A := A.in1) hh _ hS (hi.at fun o e => up _ o e) (hl.at fun o e => up _ o e) hIl (Nat.ne_of_gt (Heap.lt_size hoi)) (Nat.ne_of_gt (Heap.lt_size hol)) (fun h' tk acc' c' hk hS' hacc => ?_) hn⟩
  exact ⟨rfl, hQ h' tk acc' c' (fun b o hb e => hk b o (Nat.ne_of_lt (Heap.lt_size e)) hb (up b o e)) hS' hacc⟩
end
end PySem
namespace L2
open PySem PySem.Spec PyProof.Rows
mutual
inductive Rep (K : PySem.W.Frag) (H : Hp) : V → PyData → Prop
  | non : Rep K H .non .none
  | bl (b : Bool) : Rep K H (.bl b) (.bool b)
  | int (i : Int) : Rep K H (.int i) (.int i)
  | str (x : Str) : Rep K H (.str x) (.str x)
  | tup {a : Addr} {vs : List V} {ds : List PyData} : SqT K H a vs → Reps K H vs ds → Rep K H (.ref a) (.tuple ds)
  | lst {a : Addr} {vs : List V} {ds : List PyData} : SqL K H a vs → Reps K H vs ds → Rep K H (.ref a) (.list ds)
inductive Reps (K : PySem.W.Frag) (H : Hp) : List V → List PyData → Prop
  | nil : Reps K H [] []
  | cons {v : V} {vs : List V} {d : PyData} {ds : List PyData} : Rep K H v d → Reps K H vs ds → Reps K H (v :: vs) (d :: ds)
end
theorem Same.seqT {K : PySem.W.Frag} {H H' : Hp} {a : Addr} {xs : List V} (e : Same H H') (h : SqT K H a xs) : SqT K H' a xs := by
  rcases h with (h | ⟨o, h⟩) | h
  · exact .inl (.inl (e _ _ h))
  · exact .inl (.inr ⟨o, e _ _ h⟩)
  · exact .inr h
section
variable {X : Cx} {pins : List (Addr × Obj)} {σ : St} {H : Hp} {s : Shared}
mutual
theorem Inv.reads (I : Inv X pins σ H s) : ∀ {v : V} {d : PyData} {u : Value}, Rep X.K H v d → RelV v u → ∃ as, Reads s.heap u d as
  | _, _, _, .non, r => by cases r; exact ⟨_, .none⟩
  | _, _, _, .bl b, r => by cases r; exact ⟨_, .bool b⟩
  | _, _, _, .int b, r => by obtain ⟨t, rfl⟩ := r; exact ⟨_, .int b t⟩
  | _, _, _, .str b, r => by obtain ⟨t, rfl⟩ := r; exact ⟨_, .str b t⟩
  | _, _, _, .tup h q, r => by
    cases r
    obtain ⟨its, rv, ⟨o, ho, hc, n, hd⟩, _⟩ := I.tuple h
    obtain ⟨as, ra⟩ := Inv.readsAll I q rv
    exact ⟨_, .tuple ho hc hd (by simpa using ra)⟩
  | _, _, _, .lst h q, r => by
    cases r
    obtain ⟨its, rv, ⟨o, n, ho, hc, _, hd⟩, _⟩ := I.list h
    obtain ⟨as, ra⟩ := Inv.readsAll I q rv
    exact ⟨_, .list ho hc hd (by simpa using ra)⟩
theorem Inv.readsAll (I : Inv X pins σ H s) : ∀ {v : List V} {d : List PyData} {u : List Value}, Reps X.K H v d → Vals v u → ∃ as, ReadsAll s.heap u d as
  | _, _, _, .nil, r => by cases r; exact ⟨_, .nil⟩
  | _, _, _, .cons h q, r => by
    cases r with
    | cons r1 r2 =>
      obtain ⟨as, ra⟩ := Inv.reads I h r1
      obtain ⟨bs, rb⟩ := Inv.readsAll I q r2
      exact ⟨_, .cons ra rb⟩
end
end
section
variable {X : Cx} {a b c : Expr} {ta tb tc : TE} {pos : Pos}
noncomputable def rEqD (K : PySem.W.Frag) : R2 := fun x y H Q => ∃ dx dy, Rep K H x dx ∧ Rep K H y dy ∧ dx.canLay0 = true ∧ dy.canLay0 = true ∧ dx.depth ≤ 100 ∧ Q (.bl (PyData.eqv dx dy)) H
theorem op_eqD (hu : X.A.units + 100 < cLine) : OpR X (compareOp .Eq) (rEqD X.K) := by
  intro pins s σ H x y v u Q I rx ry h
  obtain ⟨dx, dy, h1, h2, h3, h4, h5, q⟩ := h
  obtain ⟨as, r1⟩ := I.reads h1 rx
  obtain ⟨bs, r2⟩ := I.reads h2 ry
  exact PySem.SeqAt.compareEq_reads r1 r2 h3 h4 (by omega) ⟨.bl _, H, I, rfl, q⟩
theorem op_le_str : OpR X (compareOp .LtE) (fun x y H Q => ∃ i j, x = .str i ∧ y = .str j ∧ Q (.bl (!decide (j.cps.toList < i.cps.toList))) H) := by
  intro pins s σ H x y v u Q I rx ry h
  obtain ⟨i, j, rfl, rfl, q⟩ := h
  obtain ⟨t, rfl⟩ := rx
  obtain ⟨t', rfl⟩ := ry
  exact PySem.P.le_str (fin_bl I q rfl)
noncomputable def rIsI (K : PySem.W.Frag) : List V → Hp → VK → Prop := fun xs H Q => ∃ x t T k, xs = [x, .ty T] ∧ TyOf K H x t ∧ PySem.W.kitOne K t (.type T) = some k ∧ Q (.bl k) H
theorem call_isi : CallR X (.builtin "isinstance") (rIsI X.K) := by
  intro pins s σ H xs us Q I r h
  obtain ⟨x, t, T, k, rfl, ty, e, q⟩ := h
  obtain ⟨u, w', rfl, r1, r2⟩ := vals2 r
  cases r2
  exact isinst_ok I r1 ty e fun tk => ⟨.bl k, H, I.tok tk, rfl, q⟩
theorem pe_ty {x : Str} {T : String} (hg : Gl X x) (hm : X.mg x = none) (hv : bootBuiltins x = some (.type T)) (hn : x ≠ "__name__" := by decide) (hd : (x == ("__debug__" : Str)) = false := by decide) : PE X (.Name x pos) (tC (.ty T)) :=
  pe_bltn hg hm hv rfl hn hd
theorem truth_of_bools {prog : Program} {w : World} {A : Around} {its : Array Value} {bs : List Bool} (h : Vals (bs.map V.bl) its.toList) : TruthOf prog w A (fun i v => its[i]? = some v) (fun i => bs.getD i true) := by
  intro i v s Q E hP hq
  have h1 : its.toList[i]? = some v := by simpa using hP
  have hlt : i < its.toList.length := (List.getElem?_eq_some_iff.mp h1).1
  have hl := h.length
  have hb : i < bs.length := by rw [← hl] at hlt; simpa using hlt
  obtain ⟨u, hu, ru⟩ := h.get (i := i) (x := V.bl bs[i]) (by simp [hb])
  rw [h1] at hu; cases hu
  cases ru
  refine wpAny_truthy_bool ?_
  have e : bs.getD i true = bs[i] := by simp [List.getD, hb]
  show Q bs[i] s
  have hq : Q (bs.getD i true) s := hq
  rw [e] at hq
  exact hq
theorem range_all (bs : List Bool) : (List.range bs.length).all (fun i => bs.getD i true) = bs.all id := by
  rw [Bool.eq_iff_iff]
  simp only [List.all_eq_true, List.mem_range]
  constructor
  · intro h b hb
    obtain ⟨i, hi, e⟩ := List.getElem_of_mem hb
    have := h i hi
    simp [List.getD, hi, e] at this
    simpa using this
  · intro h i hi
    have := h bs[i] (List.getElem_mem hi)
    simpa [List.getD, hi] using this
noncomputable def rAll (K : PySem.W.Frag) : List V → Hp → VK → Prop := fun xs H Q => ∃ (p : Addr) (bs : List Bool), xs = [.ref p] ∧ SqL K H p (bs.map V.bl) ∧ Q (.bl (bs.all id)) H
theorem call_all_l (hc : X.calm = true) : CallR X (.builtin "all") (rAll X.K) := by
  intro pins s σ H xs us Q I r h
  obtain ⟨p, bs, rfl, hq, q⟩ := h
  obtain ⟨u, rfl, rx⟩ := vals1 r
  cases rx
  obtain ⟨its, rv, pl, hz⟩ := I.list hq
  refine call_all_walk (wpAny_pyIter_list pl.isList ?_)
  have hne : p ≠ s.heap.objs.size := by
    obtain ⟨o, n, ho, _⟩ := pl
    exact Nat.ne_of_lt (Heap.lt_size ho)
  refine ⟨_, _, _, _, _, _, fun i => bs.getD i true, rfl, Walks.list (A := X.A.in1) (I.ok.hd hc) _ p hne its.toArray, ⟨⟨_, Heap.get?_push_size _ rfl, rfl, rfl⟩, pl.isList.at fun o e => Heap.get?_push_of_some _ e⟩, truth_of_bools (by simpa using rv), fun h' tk hk => ?_⟩
  have hl : its.toArray.size = bs.length := by have := rv.length; simp at this ⊢; omega
  rw [hl, range_all]
  exact ⟨.bl (bs.all id), H, I.kept fun b o e => hk b o (by simp; exact Nat.ne_of_lt (Heap.lt_size e)) (Heap.get?_push_of_some _ e), rfl, q⟩
theorem preSum_take (ns : List Int) : ∀ n, n ≤ ns.length → preSum (fun i => ns.getD i 0) n = (ns.take n).sum
  | 0, _ => by simp [preSum]
  | n + 1, h => by
    have ih := preSum_take ns n (by omega)
    have e : ns[n]? = some (ns[n]'(by omega)) := by simp
    show preSum (fun i => ns.getD i 0) n + ns.getD n 0 = _
    rw [ih, List.take_add_one, e, List.sum_append, List.getD, e]
    simp
theorem preSum_list (ns : List Int) : preSum (fun i => ns.getD i 0) ns.length = ns.sum := by
  rw [preSum_take ns _ (Nat.le_refl _), List.take_length]
noncomputable def rSum (K : PySem.W.Frag) : List V → Hp → VK → Prop := fun xs H Q => ∃ (p : Addr) (ns : List Int), xs = [.ref p] ∧ SqL K H p (ns.map V.int) ∧ Q (.int ns.sum) H
theorem call_sum_l (hc : X.calm = true) : CallR X (.builtin "sum") (rSum X.K) := by
  intro pins s σ H xs us Q I r h
  obtain ⟨p, ns, rfl, hq, q⟩ := h
  obtain ⟨u, rfl, rx⟩ := vals1 r
  cases rx
  obtain ⟨its, rv, pl, hz⟩ := I.list hq
  refine call_sum_walkG (wpAny_pyIter_list pl.isList ?_)
  have hne : p ≠ s.heap.objs.size := by
    obtain ⟨o, n, ho, _⟩ := pl
    exact Nat.ne_of_lt (Heap.lt_size ho)
  refine ⟨_, _, _, _, _, _, fun i => ns.getD i 0, rfl, Walks.list (A := X.A.in1) (I.ok.hd hc) _ p hne its.toArray, ⟨⟨_, Heap.get?_push_size _ rfl, rfl, rfl⟩, pl.isList.at fun o e => Heap.get?_push_of_some _ e⟩, fun b hb => ?_, fun i v hv => ?_, fun h' tk t' hk => ?_⟩
  · obtain ⟨o, n, ho, _⟩ := pl
    rcases List.mem_cons.mp hb with e | e
    · rw [e]; exact Nat.lt_of_lt_of_le (Nat.lt_succ_self _) (by simp)
    · rw [List.mem_singleton.mp e]; exact Nat.lt_of_lt_of_le (Heap.lt_size ho) (by simp)
  · have h1 : its[i]? = some v := by simpa using hv
    have hlt : i < its.length := (List.getElem?_eq_some_iff.mp h1).1
    have hl := rv.length
    have hb : i < ns.length := by rw [← hl] at hlt; simpa using hlt
    obtain ⟨u, hu, t, ru⟩ := rv.get (i := i) (x := V.int ns[i]) (by simp [hb])
    rw [h1] at hu; cases hu
    exact ⟨t, by rw [ru]; simp [List.getD, hb]⟩
  · have hl : its.toArray.size = ns.length := by have := rv.length; simp at this ⊢; omega
    rw [hl, preSum_list]
    exact ⟨.int ns.sum, H, I.kept fun b o e => hk b o (by simp; exact Nat.ne_of_lt (Heap.lt_size e)) (Heap.get?_push_of_some _ e), ⟨t', rfl⟩, q⟩
noncomputable def tListRev (t : TE) : TE := fun σ H Q => t σ H fun x H1 => ∃ p, x = .ref p ∧ ∃ ys, H1 p = some (.lst ys) ∧ ∀ l, H1 l = none → Q (.ref l) (upd H1 l (.lst ys.reverse))
end
end L2
namespace L2
open PySem PySem.Spec PyProof.Rows
section
variable {X : Cx} {a b c e : Expr} {ta tb tc te : TE} {pos p p2 pos2 : Pos} {tg : Expr}
theorem pe_listrev (hc : X.calm = true) (hg : Gl X "list") (hm : X.mg "list" = none) (hg2 : Gl X "reversed") (hm2 : X.mg "reversed" = none) (he : PE X e te) (hse : starEach [e] X.env = [(false, eval e X.env)] := by rfl) :
    PE X (.Call (.Name "list" p) [.Call (.Name "reversed" p2) [e] [] pos2] [] pos) (tListRev te) := by
  intro pins s σ H Q I h
  refine wpAny_Call_Name_kw (ld_blt I hg hm (by decide +kernel : bootBuiltins "list" = some (.type "list")) ?_)
  refine PyProof.Rows.callWith_type1 (Calls.spliced_cons ?_) rfl rfl
  refine wpAny_Call_Name_kw (ld_blt I hg2 hm2 boot_reversed ?_)
  refine PyProof.Rows.callWith_type1 (Q := _) ?_ hse rfl
  rw [hse]
  refine Calls.spliced_cons (thn (he pins s σ H _ I h) fun u s1 ⟨x, H1, I1, r1, pp, e1, ys, hq', q⟩ => Calls.spliced_nil ?_)
  subst e1
  cases r1
  have hq : SqL X.K H1 pp ys := .of hq'
  obtain ⟨its, rv, pl, hz⟩ := I1.list hq
  have hlen := rv.length
  refine call_reversed_list pl.isList ?_
  have hlt : pp < s1.heap.objs.size := by
    obtain ⟨o, n, ho, _⟩ := pl
    exact Heap.lt_size ho
  refine Calls.spliced_nil (call_list_rev (I.ok.hd hc) (I := s1.heap.objs.size) (l := pp) (items := its.toArray) ⟨_, Heap.get?_push_size _ rfl, rfl, rfl⟩ (pl.isList.at fun o e => Heap.get?_push_of_some _ e) (Nat.ne_of_lt hlt) (fun h' tk acc' c' hk hS hacc => ?_) (by simp only [List.size_toArray]; omega))
  have kp : ∀ b o, s1.heap.get? b = some o → h'.get? b = some o := fun b o e => hk b o (Nat.ne_of_lt (Heap.lt_size e)) (Heap.get?_push_of_some _ e)
  have hrev : acc' = its.reverse.toArray := by
    apply Array.ext_getElem?
    intro i
    have hs1 := hacc.1
    simp only [List.size_toArray] at hs1
    by_cases hi : i < its.length
    · have h1 : acc'[i]? = some (acc'[i]'(by omega)) := by simp [hs1, hi]
      have h2 := hacc.2 i _ h1
      rw [h1, ← h2]
      simp only [List.size_toArray, List.getElem?_toArray]
      rw [List.getElem?_reverse hi]
    · simp only [List.getElem?_toArray]
      rw [Array.getElem?_eq_none (by omega), List.getElem?_eq_none (by simp; omega)]
  subst hrev
  have hsz : s1.heap.objs.size ≤ (s1.heap.push (revObj pp ((its.toArray.size : Int) - 1))).objs.size := by rw [Heap.size_push]; exact Nat.le_succ _
  exact ⟨.ref (s1.heap.push (revObj pp ((its.toArray.size : Int) - 1))).objs.size, upd H1 _ (.lst ys.reverse), I1.laid (t' := tk) kp hsz ⟨by simp; omega, its.reverse, c', rv.reverse, hS⟩, rfl, q _ (I1.hok.fresh hsz)⟩
noncomputable def Its (x : Str) : It := ⟨fun i _ => i < x.length, fun i H v H' => H' = H ∧ ∃ c, x.cps[i]? = some c ∧ v = .str ⟨#[c]⟩, fun i _ => x.length ≤ i⟩
theorem turn_strA {P : Program} {w : World} {K : PySem.W.Frag} {tg : Expr} (it : Addr) (x : Str) (t : Tok) : Turn P w K tg (Its x) [it] it (fun i h => h.IsStrIter it "str_ascii_iterator" x t i) where
  mem := by simp
  obj := fun i h st b hb => by
    have e : b = it := by simpa using hb
    subst e
    obtain ⟨o, e, c, d⟩ := st
    exact ⟨o, e, fun v z => by rw [d] at z; cases z⟩
  keep := fun i h h' st k => let ⟨o, ho, r⟩ := st; ⟨o, k it (by simp) o ho, r⟩
  item := by
    intro X hP hw hK hc i pins s σ H E I hf st hg
    subst hP hw hK
    obtain ⟨f0, f1, f2, f3, f4, f5⟩ := hf it (by simp)
    have hg : i < x.cps.size := hg
    refine wpAny_pyNext_ascii_item st (c := x.cps[i]'hg) (by simp) fun h' st' sb => ?_
    have I1 : Inv X pins σ H { s with heap := h', toks := s.toks + 1 } := I.turned (fun b o hb e => (sb.2 b hb).trans e) f0 f1 f3 f4 f5
    obtain ⟨o, e, c, d⟩ := id st'
    exact ⟨_, rfl, go_of (s := { s with heap := h', toks := s.toks + 1 }) e c d (by decide) ⟨.str ⟨#[x.cps[i]'hg]⟩, H, I1, ⟨_, rfl⟩, ⟨rfl, _, by simp, rfl⟩, st', fun b hb => (hf b hb).1⟩⟩
  done := by
    intro X hP hw hK hc i pins s σ H E I hf st hg
    subst hP hw hK
    have hg : x.cps.size ≤ i := hg
    obtain ⟨f0, f1, f2, f3, f4, f5⟩ := hf it (by simp)
    exact wpAny_pyNext_ascii_end (I.ok.hd hc) st (Array.getElem?_eq_none hg) fun h' eb => ⟨rfl, I.turned (t' := s.toks) (fun b o hb e => eb b o hb e) f0 f1 f3 f4 f5⟩
  self := fun _ _ _ _ _ st h => wpAny_pyIter_striter_ascii st h
theorem turn_strW {P : Program} {w : World} {K : PySem.W.Frag} {tg : Expr} (it : Addr) (x : Str) (t : Tok) : Turn P w K tg (Its x) [it] it (fun i h => h.IsStrIter it "str_iterator" x t i) where
  mem := by simp
  obj := fun i h st b hb => by
    have e : b = it := by simpa using hb
    subst e
    obtain ⟨o, e, c, d⟩ := st
    exact ⟨o, e, fun v z => by rw [d] at z; cases z⟩
  keep := fun i h h' st k => let ⟨o, ho, r⟩ := st; ⟨o, k it (by simp) o ho, r⟩
  item := by
    intro X hP hw hK hc i pins s σ H E I hf st hg
    subst hP hw hK
    obtain ⟨f0, f1, f2, f3, f4, f5⟩ := hf it (by simp)
    have hg : i < x.cps.size := hg
    refine wpAny_pyNext_wide_item st (c := x.cps[i]'hg) (by simp) fun h' st' sb => ?_
    have I1 : Inv X pins σ H { s with heap := h', toks := s.toks + 1 } := I.turned (fun b o hb e => (sb.2 b hb).trans e) f0 f1 f3 f4 f5
    obtain ⟨o, e, c, d⟩ := id st'
    exact ⟨_, rfl, go_of (s := { s with heap := h', toks := s.toks + 1 }) e c d (by decide) ⟨.str ⟨#[x.cps[i]'hg]⟩, H, I1, ⟨_, rfl⟩, ⟨rfl, _, by simp, rfl⟩, st', fun b hb => (hf b hb).1⟩⟩
  done := by
    intro X hP hw hK hc i pins s σ H E I hf st hg
    subst hP hw hK
    have hg : x.cps.size ≤ i := hg
    obtain ⟨f0, f1, f2, f3, f4, f5⟩ := hf it (by simp)
    exact wpAny_pyNext_wide_end (I.ok.hd hc) st (Array.getElem?_eq_none hg) fun h' eb => ⟨rfl, I.turned (t' := s.toks) (fun b o hb e => eb b o hb e) f0 f1 f3 f4 f5⟩
  self := fun _ _ _ _ _ st h => wpAny_pyIter_striter_wide st h
noncomputable def iStr (tl : TE) : TI := fun σ H R => tl σ H fun x H1 => ∃ z, x = .str z ∧ R (Its z) H1
theorem pi_str {l : Expr} {tl : TE} (hl : PE X l tl) : PI X tg l (iStr tl) := by
  intro pins s σ H R I h
  refine thn (hl pins s σ H _ I h) fun v s1 zr4089 => ?_
  obtain ⟨x, H1, I1, r1, q1⟩ := zr4089
  obtain ⟨z, e, q⟩ := q1
  subst e
  obtain ⟨t, rfl⟩ := r1
  cases ha : z.cps.all (· < 128)
  · refine wpAny_pyIter_wide ha ?_
    refine ⟨s1.heap.objs.size, [s1.heap.objs.size], _, _, H1, rfl, I1.kept (t' := s1.toks) fun b o e => Heap.get?_push_of_some _ e, turn_strW _ z t, ⟨_, Heap.get?_push_size _ rfl, rfl, rfl⟩, fun b hb => ?_, q⟩
    have e : b = s1.heap.objs.size := by simpa using hb
    subst e
    exact I1.fpOk (Nat.le_refl _) (I1.hok.fresh (Nat.le_refl _))
  · refine wpAny_pyIter_ascii ha ?_
    refine ⟨s1.heap.objs.size, [s1.heap.objs.size], _, _, H1, rfl, I1.kept (t' := s1.toks) fun b o e => Heap.get?_push_of_some _ e, turn_strA _ z t, ⟨_, Heap.get?_push_size _ rfl, rfl, rfl⟩, fun b hb => ?_, q⟩
    have e : b = s1.heap.objs.size := by simpa using hb
    subst e
    exact I1.fpOk (Nat.le_refl _) (I1.hok.fresh (Nat.le_refl _))
noncomputable def rSlS : V → Option Int → Option Int → Hp → VK → Prop := fun x lo hi H Q => ∃ z, x = .str z ∧ z.length ≤ sizeLine ∧ Q (.str (Txt.slice z lo hi)) H
theorem sl_str : SlR X rSlS := by
  intro pins s σ H x v vl vu lo hi sl Q I rx hs pl pu h
  obtain ⟨z, rfl, hz, q⟩ := h
  obtain ⟨t, rfl⟩ := rx
  refine ⟨"str", _, F.slot_str_getitem.lookup, typeIs_str _ _ _, ?_⟩
  have fin : ∀ (t' : Tok) (k : Nat), EP X pins σ Q (.str (Txt.slice z lo hi) t') { s with toks := k } := fun t' k => ⟨.str _, H, I.tok k, ⟨t', rfl⟩, q⟩
  obtain ⟨o, h1, h2, h3⟩ := hs
  cases pl with
  | none => cases pu with
    | none => exact wpAny_getItem_str_slice (l := none) (u := none) (st := none) ⟨o, h1, h2, h3⟩ rfl (post_val_or_str ⟨Nat.le_trans (Txt.slice_le z _ _) hz, fun t' k => fin t' k⟩)
    | int j uj => exact wpAny_getItem_str_slice (l := none) (u := some (j, uj)) (st := none) ⟨o, h1, h2, h3⟩ rfl (post_val_or_str ⟨Nat.le_trans (Txt.slice_le z _ _) hz, fun t' k => fin t' k⟩)
  | int i ui => cases pu with
    | none => exact wpAny_getItem_str_slice (l := some (i, ui)) (u := none) (st := none) ⟨o, h1, h2, h3⟩ rfl (post_val_or_str ⟨Nat.le_trans (Txt.slice_le z _ _) hz, fun t' k => fin t' k⟩)
    | int j uj => exact wpAny_getItem_str_slice (l := some (i, ui)) (u := some (j, uj)) (st := none) ⟨o, h1, h2, h3⟩ rfl (post_val_or_str ⟨Nat.le_trans (Txt.slice_le z _ _) hz, fun t' k => fin t' k⟩)
end
end L2
namespace L2
open PySem PySem.Spec PyProof.Rows
noncomputable def FnL (K : PySem.W.Frag) (mg : Str → Option Value) (x : Str) (st : Stmt) (ps : List Str) : Prop :=
  ∃ f fd, Fun K x x st f fd ∧ mg x = some (.ref f) ∧ Binds K fd ps []
noncomputable def Fn (P : Program) (w : World) (K : PySem.W.Frag) (mg : Str → Option Value) (base : Heap) (x : Str) (k : Nat) (ps : List Str) (sp : Sp) : Prop :=
  ∃ f fd, FnOk P w K mg base CX0 k f fd ps sp ∧ mg x = some (.ref f) ∧ PySem.W.keepIn K (.ref f) = true ∧ Binds K fd ps []
section
variable {P : Program} {w : World} {K : PySem.W.Frag} {mg : Str → Option Value} {base : Heap}
theorem FnL.ok {x : Str} {st : Stmt} {N ps : List Str} {k : Nat} {sp : Sp} (F : FnL K mg x st ps) (S : FnScope N ps (defScope st)) (len : ∀ vs H Q E, sp vs H Q E → vs.length = ps.length)
    (hbody : ∀ (f : Addr) (cdv : Value) (A : Around) (outer : List Env) (s : Shared) (H : Hp) (vs : List V) (Q : VK) (E : XK), Room k (A.deeper (envOfC x (defScope st) s.heap.objs.size f cdv)) → sp vs H Q E →
      ∃ t, PSs (cxOf CX0 P w K mg base N x (defScope st) f cdv A outer s H E).nox (defBody st) t ∧ t { nx := fun _ H' => Q .non H', rt := Q } (start N vs) H) : Fn P w K mg base x (k + 1) ps sp := by
  obtain ⟨f, fd, F, m, b⟩ := F
  exact ⟨f, fd, F.ok S len (hbody f), m, F.kp, b⟩
theorem fnL_mk {x : Str} {st : Stmt} {ps : List Str} {h : Heap} {f : Addr} {oc : Value} {od an : Option Addr} {osl : Array (Option Value)} {kV doc pm cdv ct : Value} (X : K.In h) (G : h.Ns mainGlobals mg)
    (a : PySem.W.nsIn K mainGlobals x = some (some (.ref f)))
    (l : K.lookup f = some ⟨oc, od, .func (PySem.W.fnOf x x (defArgs st) (defBody st) (defScope st) .none kV doc pm an cdv ct), osl⟩)
    (c : PySem.W.codeIn K cdv x = true) (k : PySem.W.keepIn K (.ref f) = true)
    (hb : ∀ (kV doc pm : Value) (an : Option Addr) (cdv ct : Value) (us : List Value), us.length = ps.length → bindArgs (PySem.W.fnOf x x (defArgs st) (defBody st) (defScope st) .none kV doc pm an cdv ct) ⟨us, []⟩ = pure (ps.zip us)) : FnL K mg x st ps :=
  ⟨f, _, fun_mk l c k, PySem.W.mg_of X G a, (fun_mk l c k).binds hb⟩
end
section
variable {X : Cx} {k : Nat} {ps : List Str} {sp : Sp} {x : Str} {p pos : Pos} {e : Expr} {es : List Expr} {t : TA}
theorem pe_callF (F : Fn X.prog X.w X.K X.mg X.base x k ps sp) (hr : Room k X.A) (hg : Gl X x) (ha : PA X (e :: es) t) (hdb : (x == ("__debug__" : Str)) = false := by decide)
    (he : starEach (e :: es) X.env = (false, eval e X.env) :: starEach es X.env := by rfl) (hpl : (backTo pos (starEach es X.env)).any (·.1) = false := by rfl) :
    PE X (.Call (.Name x p) (e :: es) [] pos) (tCall sp [] E0 t) := by
  obtain ⟨f, fd, F, m, kp, b⟩ := F
  exact pe_call F hr hg m kp b .nil pass0 ha hdb he hpl
end
structure Wlk (J : It) (xs : List V) (C : Hp → Prop) : Prop where
  go : ∀ i H, C H → i < xs.length → J.go i H
  yld : ∀ i H x H', C H → i < xs.length → J.yld i H x H' → xs[i]? = some x ∧ H' = H
  stop : ∀ i H, C H → xs.length ≤ i → J.stop i H
theorem wlk_list {K : PySem.W.Frag} {a : Addr} {xs : List V} : Wlk (Itl K a) xs (fun H => SqL K H a xs) :=
  ⟨fun i H h hi => ⟨xs, xs[i], h, by simp [hi]⟩, fun i H x H' h _ y => ⟨y.2 xs h, y.1⟩, fun i H h hi => ⟨xs, h, hi⟩⟩
theorem wlk_tup {K : PySem.W.Frag} {a : Addr} {xs : List V} : Wlk (Itt K a) xs (fun H => SqT K H a xs) :=
  ⟨fun i H h hi => ⟨xs, xs[i], h, by simp [hi]⟩, fun i H x H' h _ y => ⟨y.2 xs h, y.1⟩, fun i H h hi => ⟨xs, h, hi⟩⟩
noncomputable def rngV (lo : Int) (n : Nat) : List V := (List.range n).map fun (i : Nat) => V.int (lo + (i : Int))
theorem rngV_length (lo : Int) (n : Nat) : (rngV lo n).length = n := by simp [rngV]
theorem rngV_get {lo : Int} {n i : Nat} (h : i < n) : (rngV lo n)[i]? = some (.int (lo + i)) := by simp [rngV, h]
theorem wlk_range {lo : Int} {n : Nat} : Wlk (Itr lo n) (rngV lo n) (fun _ => True) :=
  ⟨fun i H _ hi => by rw [rngV_length] at hi; exact hi, fun i H x H' _ hi y => by
    obtain ⟨e, y⟩ := y
    rw [rngV_length] at hi
    rw [rngV_get hi, y]; exact ⟨rfl, e⟩, fun i H _ hi => by rw [rngV_length] at hi; exact hi⟩
noncomputable def sgnV (x : Str) : List V := x.cps.toList.map fun c => V.str ⟨#[c]⟩
theorem wlk_str {x : Str} : Wlk (Its x) (sgnV x) (fun _ => True) :=
  ⟨fun i H _ hi => by show i < x.cps.size; simpa [sgnV] using hi, fun i H v H' _ hi y => by
    obtain ⟨e, c, hc, y⟩ := y
    refine ⟨?_, e⟩
    rw [y]
    simp [sgnV, hc], fun i H _ hi => by show x.cps.size ≤ i; simpa [sgnV] using hi⟩
theorem for_wlk {J : It} {xs : List V} {C : Hp → Prop} (w : Wlk J xs C) {g : TG} {tb : TS} {D : Ends} {σ : St} {H : Hp} (Pv : Nat → St → Hp → Prop) (h0 : Pv 0 σ H) (hl : ∀ i σ H, Pv i σ H → C H)
    (hs : ∀ i x σ H, i < xs.length → xs[i]? = some x → Pv i σ H → g x σ H fun σ2 H2 => tb { D with nx := Pv (i + 1), ct := Pv (i + 1), bk := D.nx } σ2 H2) (hd : ∀ σ H, Pv xs.length σ H → D.nx σ H) :
    ∃ W : Nat → Nat → St → Hp → Prop, (∃ m, W 0 m σ H) ∧ ∀ i m σ H, W i m σ H →
      (J.stop i H ∧ D.nx σ H) ∨ (J.go i H ∧ ∃ N : St → Hp → Prop, (∀ σ' H', N σ' H' → ∃ m', m' < m ∧ W (i + 1) m' σ' H') ∧ ∀ x H', J.yld i H x H' → g x σ H' fun σ2 H2 => tb { D with nx := N, ct := N, bk := D.nx } σ2 H2) := by
  refine ⟨fun i m σ H => m = xs.length - i ∧ i ≤ xs.length ∧ Pv i σ H, ⟨xs.length, by simp, Nat.zero_le _, h0⟩, ?_⟩
  rintro i m σ H ⟨rfl, hi, p⟩
  have q := hl i σ H p
  by_cases hlt : i < xs.length
  · refine .inr ⟨w.go i H q hlt, Pv (i + 1), fun σ' H' p' => ⟨xs.length - (i + 1), by omega, rfl, hlt, p'⟩, fun x H' y => ?_⟩
    obtain ⟨e1, e2⟩ := w.yld i H x H' q hlt y
    subst e2
    exact hs i x σ _ hlt e1 p
  · have e : i = xs.length := by omega
    subst e
    exact .inl ⟨w.stop _ H q (Nat.le_refl _), hd σ H p⟩
theorem comp_wlk {J : It} {xs : List V} {C : Hp → Prop} (w : Wlk J xs C) {g : TG} {tc : TT} {te : TE} {σ0 : St} {Q : VK} {H1 : Hp} {D : Addr} (Pv : Nat → List V → Hp → Prop) (h0 : Pv 0 [] (upd H1 D (.lst []))) (hl : ∀ i ys H, Pv i ys H → C H)
    (hs : ∀ i x ys H, i < xs.length → xs[i]? = some x → Pv i ys H → g x σ0 H fun σ2 H3 => tc σ2 H3 fun b H4 => if b = true then te σ2 H4 fun y H5 => H5 D = some (.lst ys) ∧ ys.length < sizeLine ∧ Pv (i + 1) (ys ++ [y]) (upd H5 D (.lst (ys ++ [y]))) else Pv (i + 1) ys H4)
    (hd : ∀ ys H, Pv xs.length ys H → Q (.ref D) H) :
    ∃ W : Nat → Nat → List V → Hp → Prop, (∃ m, W 0 m [] (upd H1 D (.lst []))) ∧
      ∀ i m ys H2, W i m ys H2 → (J.stop i H2 ∧ Q (.ref D) H2) ∨ (J.go i H2 ∧ ∃ N : List V → Hp → Prop, (∀ ys' H', N ys' H' → ∃ m', m' < m ∧ W (i + 1) m' ys' H') ∧
        ∀ x H', J.yld i H2 x H' → g x σ0 H' fun σ2 H3 => tc σ2 H3 fun b H4 => if b = true then te σ2 H4 fun y H5 => H5 D = some (.lst ys) ∧ ys.length < sizeLine ∧ N (ys ++ [y]) (upd H5 D (.lst (ys ++ [y]))) else N ys H4) := by
  refine ⟨fun i m ys H => m = xs.length - i ∧ i ≤ xs.length ∧ Pv i ys H, ⟨xs.length, by simp, Nat.zero_le _, h0⟩, ?_⟩
  rintro i m ys H ⟨rfl, hi, p⟩
  have q := hl i ys H p
  by_cases hlt : i < xs.length
  · refine .inr ⟨w.go i H q hlt, Pv (i + 1), fun σ' H' p' => ⟨xs.length - (i + 1), by omega, rfl, hlt, p'⟩, fun x H' y => ?_⟩
    obtain ⟨e1, e2⟩ := w.yld i H x H' q hlt y
    subst e2
    exact hs i x ys _ hlt e1 p
  · have e : i = xs.length := by omega
    subst e
    exact .inl ⟨w.stop _ H q (Nat.le_refl _), hd ys H p⟩
end L2
namespace HT
open PySem PyProof.Rows
open PySem.SeqAt
open PySem.AutoSeq1 (wpAny_loadPart')
open PySem.MeetsSeq PySem.MeetsSeq2 PySem.MeetsSeq3
section
variable {prog : Program} {w : World} {A : Around} {E : Value → Shared → Prop} {s : Shared}
theorem getItem_tuple_whole {t sl : Addr} {items : Array Value} {vl vu : Value} {lo hi : Option Int} {Q : Value → Shared → Prop} (ht : IsTup s.heap t items) (hs : s.heap.IsSliceOf sl vl vu .none) (pl : IsPart vl lo) (pu : IsPart vu hi)
    (h1 : sIx items.size 0 lo = 0) (h2 : sIx items.size items.size hi = items.size)
    (h : Q (.ref t) s) : wpAny (model prog w) A (getItem (.ref t) (.ref sl)) Q E s := by
  obtain ⟨os, hos, hcs, hds⟩ := id hs
  have hTs : s.TypeIs (.ref sl) "slice" := ⟨os, hos, hcs⟩
  unfold getItem
  try with_reducible refine wpAny_holding ?_
  first | refine wpAny_bind (wpAny_pure ?_) | skip
  refine wpAny_bind (wpAny_sequenceKey ht.typeIs (by decide) ?_)
  refine wpAny_bind (wpAny_callSpecial?_slot (name := Str.ofString "__getitem__") ht.typeIs PyProof.Rows.slot_tuple_getitem
    (wpAny_call_entry PyProof.Rows.slot_tuple_getitem ht.typeIs entry_tuple_getitem ?_ (args_tuple_getitem _ _)))
  show wpAny _ _ (Builtin.Tuple.tupleItemsOf (.ref t) >>= _) _ _ s
  refine wpAny_bind (tupleItemsOf_ ht ?_)
  refine wpAny_bind (wpAny_typeOf hTs ?_)
  rw [if_pos (by decide)]
  refine wpAny_bind (sliceApplied_gen hs pl pu ?_)
  rw [h1, h2]
  show wpAny _ _ (if (((0 : Nat) : Int) == 0 && (1 : Int) == 1 && (items.size - 0) == items.size) = true then _ else _) _ _ s
  rw [if_pos (by simp)]
  unfold Builtin.Tuple.tupleIsExact
  refine wpAny_bind (wpAny_bind (wpAny_typeOf ht.typeIs (wpAny_pure ?_)))
  rw [if_pos (by decide)]
  exact wpAny_bind (wpAny_rule (wpAny_pure ⟨_, rfl, wpAny_pure h⟩))
end
end HT
namespace L2
open PySem PySem.Spec PyProof.Rows
noncomputable def cellOrFree (xs : List (Str × NameKind)) (x : Str) : Bool := xs.lookup x == some .cell || xs.lookup x == some .free
noncomputable def compChk (XN : List Str) (xs sn : List (Str × NameKind)) (N : List Str) (nt : Nat) (js : List Nat) : Bool :=
  decide N.Nodup && N.length == nt + js.length && (js.zip (N.drop nt)).all (fun p => XN[p.1]? == some p.2 && cellOrFree xs p.2) && (N.drop nt).all (fun x => sn.lookup x == some .free)
    && sn.all (fun y => y.2 != .cell) && sn.all (fun y => y.2 != .local || sn.lookup y.1 == some .local) && sn.all (fun y => y.2 != .free || cellOrFree xs y.1)
theorem cellOrFree_iff {xs : List (Str × NameKind)} {x : Str} (h : cellOrFree xs x = true) : xs.lookup x = some .cell ∨ xs.lookup x = some .free := by
  unfold cellOrFree at h
  rw [Bool.or_eq_true] at h
  simpa using h
theorem compOk_of {X : Cx} {scope : Scope} {N : List Str} {nt : Nat} {js : List Nat} (XN : List Str) (xs : List (Str × NameKind)) (hk : scope.kind = .function) (hN : X.N = XN) (hx : X.env.scope.names = xs)
    (h : compChk XN xs scope.names N nt js = true) : CompOk X scope N nt js := by
  subst hN hx
  unfold compChk at h
  simp only [Bool.and_eq_true] at h
  obtain ⟨⟨⟨⟨⟨⟨h1, h2⟩, h3⟩, h4⟩, h5⟩, h6⟩, h7⟩ := h
  refine ⟨hk, of_decide_eq_true h1, by simpa using h2, fun k j x e1 e2 => ?_, fun k x e => ?_, fun y hy => ?_, fun y hy e => ?_, fun y hy e => ?_⟩
  · have hm : (j, x) ∈ js.zip (N.drop nt) := by
      have e2' : (N.drop nt)[k]? = some x := by rw [List.getElem?_drop]; exact e2
      have : (js.zip (N.drop nt))[k]? = some (j, x) := by rw [List.getElem?_zip_eq_some]; exact ⟨e1, e2'⟩
      exact List.mem_of_getElem? this
    have q := List.all_eq_true.mp h3 _ hm
    rw [Bool.and_eq_true] at q
    exact ⟨by simpa using q.1, cellOrFree_iff q.2⟩
  · have hm : x ∈ N.drop nt := by
      have e2' : (N.drop nt)[k]? = some x := by rw [List.getElem?_drop]; exact e
      exact List.mem_of_getElem? e2'
    simpa using List.all_eq_true.mp h4 _ hm
  · simpa using List.all_eq_true.mp h5 _ hy
  · have q := List.all_eq_true.mp h6 _ hy
    rw [e] at q
    simpa using q
  · have q := List.all_eq_true.mp h7 _ hy
    rw [e] at q
    exact cellOrFree_iff (by simpa using q)
noncomputable def rSlTA (K : PySem.W.Frag) : V → Option Int → Option Int → Hp → VK → Prop := fun x lo hi H Q => ∃ a xs, x = .ref a ∧ SqT K H a xs ∧ (cutV xs lo hi = xs → Q (.ref a) H) ∧ (∀ p, H p = none → Q (.ref p) (upd H p (.tup (cutV xs lo hi))))
theorem sl_tupA {X : Cx} : SlR X (rSlTA X.K) := by
  intro pins s σ H x v vl vu lo hi sl Q I rx hs pl pu h
  obtain ⟨a, xs, e, hx, q1, q2⟩ := h
  by_cases hw : HT.sIx xs.length 0 lo = 0 ∧ HT.sIx xs.length xs.length hi = xs.length
  · subst e
    cases rx
    obtain ⟨its, r, ht, hz⟩ := I.tuple hx
    have hlen : its.toArray.size = xs.length := by rw [List.size_toArray]; exact r.length.symm
    refine ⟨"tuple", _, PyProof.Rows.slot_tuple_getitem.lookup, ht.typeIs, ?_⟩
    refine HT.getItem_tuple_whole ht hs pl pu (by rw [hlen]; exact hw.1) (by rw [hlen]; exact hw.2) ⟨.ref a, H, I, rfl, q1 ?_⟩
    unfold cutV
    rw [hw.1, hw.2]
    simp
  · exact sl_tup pins s σ H x v vl vu lo hi sl Q I rx hs pl pu ⟨a, xs, e, hx, hw, q2⟩
end L2
namespace L2
open PySem PySem.Spec PyProof.Rows
theorem ex_kS {s : Str} {P : Key → Prop} : (∃ k, V.str s = kV k ∧ P k) ↔ P (Sum.inr s) := by
  constructor
  · rintro ⟨k, e, p⟩
    cases k with
    | inl i => cases e
    | inr x => cases e; exact p
  · exact fun p => ⟨_, rfl, p⟩
theorem ex_kI {i : Int} {P : Key → Prop} : (∃ k, V.int i = kV k ∧ P k) ↔ P (Sum.inl i) := by
  constructor
  · rintro ⟨k, e, p⟩
    cases k with
    | inl i => cases e; exact p
    | inr x => cases e
  · exact fun p => ⟨_, rfl, p⟩
section
variable {X : Cx} {o i value e : Expr} {td ty tv : TE} {pos pos' : Pos}
noncomputable def tDG (td ty : TE) : TE := fun σ H Q => td σ H fun x H1 => ty σ H1 fun y H2 => ∃ a, x = .ref a ∧ ∃ k, y = kV k ∧ ∃ kvs v, H2 a = some (.dK kvs) ∧ valV kvs k = some v ∧ Q v H2
theorem pe_dg (hu : X.A.units + 1 < cLine) (ho : PE X o td) (hi : PE X i ty) (hs : NoSl i) : PE X (.Subscript o i pos) (tDG td ty) := by
  intro pins s σ H Q I h
  refine subD_of PySem.F.slot_dict_getitem.lookup hs (thn (ho pins s σ H _ I h) fun u s1 ⟨x, H1, I1, rx, q1⟩ => thn (hi pins s1 σ H1 _ I1 q1) fun iv s2 zr4309 => ?_)
  obtain ⟨y, H2, I2, ry, a, ex, k, ey, kvs, v, hd, hv, q2⟩ := zr4309
  subst ex
  obtain rfl : u = Value.ref a := rx
  have g : DGet H2 a y (some v) := .inl ⟨kvs, k, .inl hd, ey, hv.symm⟩
  exact ⟨dict_typeIs I2 g, d_getItem hu I2 g ry fun w' s3 I3 rw' => ⟨v, H2, I3, rw', q2⟩⟩
noncomputable def sDP (td ty tv : TE) : TS := fun D σ H => tv σ H fun v H1 => td σ H1 fun x H2 => ty σ H2 fun y H3 => ∃ a, x = .ref a ∧ ∃ k, y = kV k ∧ ∃ kvs, H3 a = some (.dK kvs) ∧ kvs.length < sizeLine ∧ D.nx σ (upd H3 a (.dK (putK kvs k v)))
theorem ps_dp (hu : X.A.units + 1 < cLine) (ho : PE X o td) (hi : PE X i ty) (hv : PE X value tv) (hs : swapsWith value (some (.Subscript o i pos')) pos.line X.env = pure false) :
    PS X (.Assign [.Subscript o i pos'] value pos) (sDP td ty tv) := by
  intro pins s σ H D I h
  refine wpAny_Assign_Subscript (thn (hv pins s σ H _ I h) fun r s1 ⟨v, H1, I1, rv, q1⟩ => thn (ho pins s1 σ H1 _ I1 q1) fun u s2 ⟨x, H2, I2, rx, q2⟩ => thn (hi pins s2 σ H2 _ I2 q2) fun iv s3 zr4318 => ?_) hs
  obtain ⟨y, H3, I3, ry, a, ex, k, ey, kvs, hd, hl, q3⟩ := zr4318
  subst ex
  obtain rfl : u = Value.ref a := rx
  have g : DPut H3 a y v (upd H3 a (.dK (putK kvs k v))) := .inl ⟨kvs, k, hd, ey, hl, rfl⟩
  exact d_setItem hu I3 g ry rv fun s4 I4 => ⟨σ, _, I4, q3⟩
end
end L2
namespace L2
open PySem PySem.Spec PyProof.Rows
theorem while_rd {c : TT} {tb : TS} {D : Ends} {σ : St} {H : Hp} (W : Nat → St → Hp → Prop) (hend : St → Hp → Prop) (h0 : ∃ m, W m σ H)
    (hs : ∀ R : St → Hp → Prop, (∀ σ H, hend σ H → R σ H) → ∀ m σ H, W m σ H → c σ H fun b H1 => if b = true then ∃ N : St → Hp → Prop, (∀ σ' H', N σ' H' → ∃ m', m' < m ∧ W m' σ' H') ∧ tb { D with nx := N, ct := N, bk := R } σ H1 else R σ H1)
    (hnx : ∀ σ H, hend σ H → D.nx σ H) : tWhile c tb D σ H := ⟨W, h0, fun m σ H w => hs D.nx hnx m σ H w⟩
theorem cxK {CX : CXT} {P : Program} {w : World} {K : PySem.W.Frag} {mg : Str → Option Value} {base : Heap} {N : List Str} {q : Str} {sc : Scope} {f : Addr} {cd : Value} {A : Around} {o : List Env} {s : Shared} {H : Hp} {E : XK} :
    (cxOf CX P w K mg base N q sc f cd A o s H E).K = K := rfl
theorem cpK {X : Cx} {sc : Scope} {N : List Str} {cl : List (Str × Addr)} {C : Addr} {fp : List Addr} {s : Shared} {H : Hp} {xe : Value → Shared → Prop} : (compCx X sc N cl C fp s H xe).K = X.K := rfl
end L2
namespace L2
open PySem PySem.Spec PyProof.Rows
theorem scal_ii (i j : Int) : scal (.int i) (.int j) = true := rfl
theorem scal_ss (i j : Str) : scal (.str i) (.str j) = true := rfl
theorem scal_bb (i j : Bool) : scal (.bl i) (.bl j) = true := rfl
theorem scal_nn : scal .non .non = true := rfl
theorem scal_in (i : Int) : scal (.int i) .non = true := rfl
theorem scal_si (s : Str) (i : Int) : scal (.str s) (.int i) = true := rfl
section
variable {X : Cx} {a b o e l : Expr} {es : List Expr} {ta tb to : TE} {t : TA} {pos : Pos} {tg : Expr}
theorem OpR.imp {f : Value → Value → Sem Value} {r r' : R2} (h : OpR X f r) (i : ∀ x y H Q, r' x y H Q → r x y H Q) : OpR X f r' := fun pins s σ H x y v u Q I rx ry q => h pins s σ H x y v u Q I rx ry (i _ _ _ _ q)
theorem CallR.imp {f : Value} {r r' : List V → Hp → VK → Prop} (h : CallR X f r) (i : ∀ x H Q, r' x H Q → r x H Q) : CallR X f r' := fun pins s σ H xs us Q I rx q => h pins s σ H xs us Q I rx (i _ _ _ q)
theorem IxR.imp {r r' : R2} (h : IxR X r) (i : ∀ x y H Q, r' x y H Q → r x y H Q) : IxR X r' := fun value slice pins s σ H x y v u Q I rx ry q hs => h value slice pins s σ H x y v u Q I rx ry (i _ _ _ _ q) hs
theorem SlR.imp {r r' : V → Option Int → Option Int → Hp → VK → Prop} (h : SlR X r) (i : ∀ x lo hi H Q, r' x lo hi H Q → r x lo hi H Q) : SlR X r' := fun pins s σ H x v vl vu lo hi sl Q I rx hs pl pu q => h pins s σ H x v vl vu lo hi sl Q I rx hs pl pu (i _ _ _ _ _ q)
noncomputable def rLenL : List V → Hp → VK → Prop := fun xs H Q => ∃ p, xs = [.ref p] ∧ ∃ ys, H p = some (.lst ys) ∧ Q (.int ys.length) H
noncomputable def rLenT : List V → Hp → VK → Prop := fun xs H Q => ∃ p, xs = [.ref p] ∧ ∃ ys, H p = some (.tup ys) ∧ Q (.int ys.length) H
theorem call_lenL : CallR X (.builtin "len") rLenL := call_len_seq.imp fun _ _ _ zq9 => by obtain ⟨p, e, ys, h, q⟩ := zq9; exact (⟨p, ys, e, .inl (.of h), q⟩)
theorem call_lenT : CallR X (.builtin "len") rLenT := call_len_seq.imp fun _ _ _ zq10 => by obtain ⟨p, e, ys, h, q⟩ := zq10; exact (⟨p, ys, e, .inr (.of h), q⟩)
noncomputable def rIL : R2 := fun x y H Q => ∃ p, x = .ref p ∧ ∃ i, y = .int i ∧ ∃ xs, H p = some (.lst xs) ∧ ∃ v, atI xs i = some v ∧ Q v H
noncomputable def rIT : R2 := fun x y H Q => ∃ p, x = .ref p ∧ ∃ i, y = .int i ∧ ∃ xs, H p = some (.tup xs) ∧ ∃ v, atI xs i = some v ∧ Q v H
theorem ix_L : IxR X rIL := ix_list.imp fun _ _ _ _ zq11 => by obtain ⟨p, e, i, e2, xs, h, v, ha, q⟩ := zq11; exact (⟨p, xs, i, v, e, e2, .of h, ha, q⟩)
theorem ix_T : IxR X rIT := ix_tup.imp fun _ _ _ _ zq12 => by obtain ⟨p, e, i, e2, xs, h, v, ha, q⟩ := zq12; exact (⟨p, xs, i, v, e, e2, .of h, ha, q⟩)
noncomputable def rIS : R2 := fun x y H Q => ∃ z, x = .str z ∧ ∃ i, y = .int i ∧ z.length ≤ sizeLine ∧ ∃ c, atI z.cps.toList i = some c ∧ Q (.str ⟨#[c]⟩) H
theorem ix_S : IxR X rIS := ix_str.imp fun _ _ _ _ zq13 => by obtain ⟨z, e, i, e2, h, c, ha, q⟩ := zq13; exact (⟨z, i, c, e, e2, h, ha, q⟩)
noncomputable def rSL : V → Option Int → Option Int → Hp → VK → Prop := fun x lo hi H Q => ∃ a, x = .ref a ∧ ∃ xs, H a = some (.lst xs) ∧ ∀ p, H p = none → Q (.ref p) (upd H p (.lst (cutV xs lo hi)))
theorem sl_L : SlR X rSL := sl_list.imp fun _ _ _ _ _ zq14 => by obtain ⟨a, e, xs, h, q⟩ := zq14; exact (⟨a, xs, e, .of h, q⟩)
noncomputable def rSQ (K : PySem.W.Frag) : V → Option Int → Option Int → Hp → VK → Prop := fun x lo hi H Q => ∃ a, x = .ref a ∧ ∃ xs, SqL K H a xs ∧ ∀ p, H p = none → Q (.ref p) (upd H p (.lst (cutV xs lo hi)))
theorem sl_Q : SlR X (rSQ X.K) := sl_list.imp fun _ _ _ _ _ zq15 => by obtain ⟨a, e, xs, h, q⟩ := zq15; exact (⟨a, xs, e, h, q⟩)
noncomputable def rST : V → Option Int → Option Int → Hp → VK → Prop := fun x lo hi H Q => ∃ a, x = .ref a ∧ ∃ xs, H a = some (.tup xs) ∧ (cutV xs lo hi = xs → Q (.ref a) H) ∧ (∀ p, H p = none → Q (.ref p) (upd H p (.tup (cutV xs lo hi))))
theorem sl_T : SlR X rST := sl_tupA.imp fun _ _ _ _ _ zq16 => by obtain ⟨a, e, xs, h, q⟩ := zq16; exact (⟨a, xs, e, .of h, q⟩)
noncomputable def iL (K : PySem.W.Frag) (tl : TE) : TI := fun σ H R => tl σ H fun x H1 => ∃ a, x = .ref a ∧ ∃ xs, H1 a = some (.lst xs) ∧ R (Itl K a) H1
noncomputable def iT (K : PySem.W.Frag) (tl : TE) : TI := fun σ H R => tl σ H fun x H1 => ∃ a, x = .ref a ∧ ∃ xs, H1 a = some (.tup xs) ∧ R (Itt K a) H1
theorem pi_L {tl : TE} (hl : PE X l tl) : PI X tg l (iL X.K tl) := by
  intro pins s σ H R I h
  refine thn (hl pins s σ H _ I h) fun v s1 zr4368 => ?_
  obtain ⟨x, H1, I1, r1, a, e, xs, hq, q⟩ := zr4368
  subst e
  cases r1
  obtain ⟨its, rv, p, hz⟩ := I1.list (SqL.of hq)
  refine wpAny_pyIter_list p.isList ?_
  refine ⟨s1.heap.objs.size, [s1.heap.objs.size], _, _, H1, rfl, I1.kept (t' := s1.toks) fun b o e => Heap.get?_push_of_some _ e, turn_list a _, ⟨_, Heap.get?_push_size _ rfl, rfl, rfl⟩, fun b hb => ?_, q⟩
  have e : b = s1.heap.objs.size := by simpa using hb
  subst e
  exact I1.fpOk (Nat.le_refl _) (I1.hok.fresh (Nat.le_refl _))
theorem pi_T {tl : TE} (hl : PE X l tl) : PI X tg l (iT X.K tl) := by
  intro pins s σ H R I h
  refine thn (hl pins s σ H _ I h) fun v s1 zr4379 => ?_
  obtain ⟨x, H1, I1, r1, a, e, xs, hq, q⟩ := zr4379
  subst e
  cases r1
  obtain ⟨its, rv, p, hz⟩ := I1.tuple (SqT.of hq)
  refine wpAny_pyIter_tuple (show s1.heap.IsTuple a its.toArray from p) ?_
  refine ⟨s1.heap.objs.size, [s1.heap.objs.size], _, _, H1, rfl, I1.kept (t' := s1.toks) fun b o e => Heap.get?_push_of_some _ e, turn_tuple a _, ⟨_, Heap.get?_push_size _ rfl, rfl, rfl⟩, fun b hb => ?_, q⟩
  have e : b = s1.heap.objs.size := by simpa using hb
  subst e
  exact I1.fpOk (Nat.le_refl _) (I1.hok.fresh (Nat.le_refl _))
noncomputable abbrev RM := Addr → List V → Hp → VK → Prop
noncomputable def MtL (X : Cx) (id : String) (r : RM) : Prop := MtR X id fun x vs H Q => ∃ p, x = .ref p ∧ r p vs H Q
noncomputable def tML (r : RM) (to : TE) (t : TA) : TE := fun σ H Q => to σ H fun x H1 => ∃ p, x = .ref p ∧ (∃ xs, H1 p = some (.lst xs)) ∧ t σ H1 fun vs H2 => r p vs H2 Q
variable {name : Str} {id : String} {r : RM} {apos cpos : Pos}
theorem pe_mL (slot : Slot "list" name id) (hty : typeOf (.builtin id) = pure (.type "method_descriptor")) (hm : MtL X id r) (ho : PE X o to) (ha : PA X (e :: es) t)
    (hbase : attributeBase o name X.env (eval o X.env) = eval o X.env := by rfl)
    (hfew : ((backTo cpos (starEach (e :: es) X.env)).all (fun x => !x.1) && (backToKw cpos (keywordEach [] X.env)).all (fun x => x.1.isSome)
      && decide ((e :: es).length + ([] : List Keyword).length + (if ([] : List Keyword).isEmpty then 0 else 1) < 30)) = true := by rfl)
    (hline : (apos.endLine == cpos.line) = true := by rfl) (hs : starEach (e :: es) X.env = (false, eval e X.env) :: starEach es X.env := by rfl) (hplain : (backTo cpos (starEach es X.env)).any (·.1) = false := by rfl) :
    PE X (.Call (.Attribute o name apos) (e :: es) [] cpos) (tML r to t) := by
  intro pins s σ H Q I h
  refine wpAny_Call_method_late hbase hfew hline rfl (thn (ho pins s σ H _ I h) fun v s1 ⟨x, H1, I1, r1, p, ex, ⟨xs, hp⟩, q1⟩ => ?_)
  subst ex
  have ty : tyV X.K "list" (.ref p) H1 := .inl ⟨rfl, xs, .of hp⟩
  obtain ⟨h1, h2⟩ := tyV_is I1 r1 ty
  refine ⟨"list", id, PySem.F.plainAttrs_list, slot, hty, h1, h2, ?_⟩
  have hA := ha cpos pins s1 σ H1 _ I1 q1
  rw [hs] at hA ⊢
  refine Calls.callWith_builtin (by show (false || (backTo cpos (starEach es X.env)).any (·.1)) = false; rw [hplain] <;> rfl) (Calls.evalArgs_plain ?_)
  refine thn hA fun us s2 zr4407 => ?_
  obtain ⟨vs, H2, I2, rr, q2⟩ := zr4407
  exact hm pins s2 σ H2 (.ref p) vs v us Q I2 r1 rr ⟨p, rfl, q2⟩
theorem pe_mL0 (slot : Slot "list" name id) (hty : typeOf (.builtin id) = pure (.type "method_descriptor")) (hm : MtL X id r) (ho : PE X o to)
    (hbase : attributeBase o name X.env (eval o X.env) = eval o X.env := by rfl) (hline : (apos.endLine == cpos.line) = true := by rfl) : PE X (.Call (.Attribute o name apos) [] [] cpos) (tML r to tNil) := by
  intro pins s σ H Q I h
  refine wpAny_Call_method0_late hbase hline (thn (ho pins s σ H _ I h) fun v s1 ⟨x, H1, I1, r1, p, ex, ⟨xs, hp⟩, q1⟩ => ?_)
  subst ex
  have ty : tyV X.K "list" (.ref p) H1 := .inl ⟨rfl, xs, .of hp⟩
  obtain ⟨h1, h2⟩ := tyV_is I1 r1 ty
  exact ⟨"list", id, PySem.F.plainAttrs_list, slot, hty, h1, h2, Calls.callWith_builtin rfl (PySem.evalArgs_none (hm pins s1 σ H1 _ [] v [] Q I1 r1 .nil ⟨p, rfl, q1⟩))⟩
noncomputable def rmAppend : RM := fun p vs H Q => ∃ y, vs = [y] ∧ ∃ xs, H p = some (.lst xs) ∧ xs.length < sizeLine ∧ Q .non (upd H p (.lst (xs ++ [y])))
theorem ml_append : MtL X "list.append" rmAppend := fun pins s σ H x vs v us Q I rx rv zq17 => by obtain ⟨p, e, y, e2, xs, h, hl, q⟩ := zq17; exact (mt_append pins s σ H x vs v us Q I rx rv ⟨p, xs, y, e, e2, h, hl, q⟩)
noncomputable def rmExtend : RM := fun p vs H Q => ∃ b, vs = [.ref b] ∧ ∃ xs, H p = some (.lst xs) ∧ ∃ zs, H b = some (.lst zs) ∧ xs.length + zs.length ≤ sizeLine ∧ Q .non (upd H p (.lst (xs ++ zs)))
theorem ml_extend : MtL X "list.extend" rmExtend := fun pins s σ H x vs v us Q I rx rv zq18 => by obtain ⟨p, e, b, e2, xs, h, zs, h2, hl, q⟩ := zq18; exact (mt_extend pins s σ H x vs v us Q I rx rv ⟨p, b, xs, zs, e, e2, h, h2, hl, q⟩)
noncomputable def rmPop : RM := fun p vs H Q => vs = [] ∧ ∃ xs, H p = some (.lst xs) ∧ ∃ y, xs[xs.length - 1]? = some y ∧ Q y (upd H p (.lst xs.dropLast))
theorem ml_pop : MtL X "list.pop" rmPop := fun pins s σ H x vs v us Q I rx rv zq19 => by obtain ⟨p, e, e2, xs, h, y, hl, q⟩ := zq19; exact (mt_pop pins s σ H x vs v us Q I rx rv ⟨p, xs, y, e, e2, h, hl, q⟩)
noncomputable def rmInsert : RM := fun p vs H Q => ∃ i y, vs = [.int i, y] ∧ ∃ xs, H p = some (.lst xs) ∧ 0 ≤ i ∧ i ≤ xs.length ∧ xs.length < sizeLine ∧ Q .non (upd H p (.lst (xs.take i.toNat ++ y :: xs.drop i.toNat)))
theorem ml_insert : MtL X "list.insert" rmInsert := by
  intro pins s σ H x vs v us Q I rx rv h
  obtain ⟨p, rfl, i, y, rfl, xs, hH, i0, i1, hz, q⟩ := h
  cases rx
  obtain ⟨u, w', rfl, ru, rw'⟩ := vals2 rv
  obtain ⟨t, rfl⟩ := ru
  obtain ⟨z, its, n, rr, hl, e⟩ := I.lstM hH
  have hfit : Builtin.List.listFitsIndex i = true := by
    have h63 := line63
    simp only [Builtin.List.listFitsIndex, Bool.and_eq_true, decide_eq_true_eq]
    omega
  refine call_meets F.slot_list_insert ⟨_, e, rfl⟩ F.entry_list_insert (F.args_list_insert_3 _ _ _) (PySem.AutoSeq1.list_insert_list_int_val_1 p its.toArray n i t w' (by rw [hfit]; decide) (by rw [List.size_toArray]; omega)) ⟨e, ?_⟩
  refine ⟨.non, _, I.lset (its' := its.take i.toNat ++ w' :: its.drop i.toNat) hH e ?_ ((rr.take i.toNat).append (.cons rw' (rr.drop i.toNat))) ?_, rfl, q⟩
  · have hk : (if i < 0 then (i + (its.toArray.size : Int)).toNat else min i.toNat its.toArray.size) = i.toNat := by
      rw [if_neg (by omega), List.size_toArray]; omega
    simp only [hk]
    apply Array.ext'
    simp
    rw [List.take_of_length_le (by simp)]
  · simp
    omega
noncomputable def rCL : R2 := fun x y H Q => ∃ l, x = .ref l ∧ ∃ b, y = .ref b ∧ ∃ xs, H l = some (.lst xs) ∧ ∃ zs, H b = some (.lst zs) ∧ xs.length + zs.length ≤ sizeLine ∧ ∀ p, H p = none → Q (.ref p) (upd H p (.lst (xs ++ zs)))
theorem op_catL : OpR X (binaryOp .Add) rCL := op_cat.imp fun _ _ _ _ zq20 => by obtain ⟨l, e, b, e2, xs, h, zs, h2, hl, q⟩ := zq20; exact (⟨l, b, xs, zs, e, e2, h, h2, hl, q⟩)
noncomputable def rInL (neg : Bool) : R2 := fun x y H Q => ∃ p, y = .ref p ∧ ∃ xs, H p = some (.lst xs) ∧ flatV x = true ∧ xs.all flatV = true ∧ Q (.bl (if neg then !inV x xs else inV x xs)) H
noncomputable def rInM (K : PySem.W.Frag) (neg : Bool) : R2 := fun x y H Q => ∃ p, y = .ref p ∧ ∃ xs, SqT K H p xs ∧ flatV x = true ∧ xs.all flatV = true ∧ Q (.bl (if neg then !inV x xs else inV x xs)) H
theorem op_inL : OpR X (compareOp .In) (rInL false) := op_in_seq.imp fun _ _ _ _ zq21 => by obtain ⟨p, e, xs, h, f1, f2, q⟩ := zq21; exact (⟨p, xs, e, .inl (.of h), f1, f2, q⟩)
theorem op_notInM : OpR X (compareOp .NotIn) (rInM X.K true) := op_notIn_seq.imp fun _ _ _ _ zq22 => by obtain ⟨p, e, xs, h, f1, f2, q⟩ := zq22; exact (⟨p, xs, e, .inr h, f1, f2, q⟩)
noncomputable def rListT : List V → Hp → VK → Prop := fun xs H Q => ∃ p, xs = [.ref p] ∧ ∃ ys, H p = some (.tup ys) ∧ ∀ l, H l = none → Q (.ref l) (upd H l (.lst ys))
noncomputable def rTupL : List V → Hp → VK → Prop := fun xs H Q => ∃ p, xs = [.ref p] ∧ ∃ ys, H p = some (.lst ys) ∧ ∀ l, H l = none → Q (.ref l) (upd H l (.tup ys))
theorem call_listT : CallR X (.type "list") rListT := call_list_of.imp fun _ _ _ zq23 => by obtain ⟨p, e, ys, h, q⟩ := zq23; exact (⟨p, ys, e, .inr (.of h), q⟩)
theorem call_tupL : CallR X (.type "tuple") rTupL := call_tuple_of.imp fun _ _ _ zq24 => by obtain ⟨p, e, ys, h, q⟩ := zq24; exact (⟨p, ys, e, .inl ⟨.of h, q⟩⟩)
noncomputable def rCS : R2 := fun x y H Q => ∃ i, x = .str i ∧ ∃ j, y = .str j ∧ i.length + j.length ≤ sizeLine ∧ Q (.str (i ++ j)) H
theorem op_catS : OpR X (binaryOp .Add) rCS := op_add_str.imp fun _ _ _ _ zq25 => by obtain ⟨i, e, j, e2, h, q⟩ := zq25; exact (⟨i, j, e, e2, h, q⟩)
noncomputable def rLenS : List V → Hp → VK → Prop := fun xs H Q => ∃ z, xs = [.str z] ∧ z.length ≤ sizeLine ∧ Q (.int z.length) H
theorem call_lenS : CallR X (.builtin "len") rLenS := call_len_str
noncomputable def rLeS : R2 := fun x y H Q => ∃ i, x = .str i ∧ ∃ j, y = .str j ∧ Q (.bl (!decide (j.cps.toList < i.cps.toList))) H
theorem op_leS : OpR X (compareOp .LtE) rLeS := op_le_str.imp fun _ _ _ _ zq26 => by obtain ⟨i, e, j, e2, q⟩ := zq26; exact (⟨i, j, e, e2, q⟩)
noncomputable def rInS : R2 := fun x y H Q => ∃ i, x = .str i ∧ ∃ j, y = .str j ∧ Q (.bl (!(Builtin.Str.occurrences j i 0 j.length 1).isEmpty)) H
theorem op_inS : OpR X (compareOp .In) rInS := op_in_str.imp fun _ _ _ _ zq27 => by obtain ⟨i, e, j, e2, q⟩ := zq27; exact (⟨i, j, e, e2, q⟩)
end
end L2
namespace L2
open PySem PySem.Spec PyProof.Rows
section
variable {X : Cx}
theorem ps_setC {i : Nat} {y : Str} {py spos : Pos} {elt tg iter : Expr} {ifs : List Expr} {scope : Scope} {pos : Pos} {N : List Str} {nt : Nat} {js : List Nat} {wi : TI} {g : TG} {tc : TT} {te : TE}
    (hN : X.N.Nodup) (hi0 : X.N[i]? = some y) (hy : Loc X.env.scope y) (hca : X.calm = true) (S : CompOk X scope N nt js) (hi : PI X tg iter wi)
    (hg : ∀ cl C fp s H xe, PG (compCx X scope N cl C fp s H xe) tg g) (hgo : TgOk g nt)
    (hc : ∀ cl C fp s H xe, PTs (compCx X scope N cl C fp s H xe) ifs tc)
    (he : ∀ cl C fp s H xe, PE (compCx X scope N cl C fp s H xe) elt te)
    (hs : ∀ x, foldedSetIterable iter X.env x = pure x := by intro _; rfl)
    (hsw : swapsWith (.ListComp elt [⟨tg, iter, ifs, 0⟩] scope pos) (some (.Name y py)) spos.line X.env = pure true := by rfl)
    (hf : X.fn y = true ∨ X.env.scope.names.lookup y = some .local := by first | exact .inl rfl | exact .inr rfl | assumption) :
    PS X (.Assign [.Name y py] (.ListComp elt [⟨tg, iter, ifs, 0⟩] scope pos) spos) (tAsg (tComp nt js wi g tc te) (gName i)) := by
  intro pins s σ H D I h
  obtain ⟨cl, hclos, hcl1, _, hcl2⟩ := closure_of (env := X.env) scope.names [] (fun x hx hk => I.ok.has x.1 (S.free x hx hk))
  have hcl : ∀ x c, cl.lookup x = some c → X.env.cells.lookup x = some c := fun x c e => (hcl1 x c e).elim (fun z => by simp at z) fun z => z
  have hclos' : closureFor scope X.env = pure cl := by
    unfold closureFor
    simp only []
    rw [hclos]
    rfl
  rw [exec_Assign_Name_used _ _ _ _ hsw]
  refine wpAny_bind (wpAny_standAt (wpAny_bind ?_))
  show wpAny _ X.A (do let _ ← comprehension (.ListComp elt [⟨tg, iter, ifs, 0⟩] scope pos) scope X.env _ (newList []) false (eval iter X.env) (some (assign (.Name y py) X.env))) _ _ s
  refine wpAny_bind (wpAny_mono (wpAny_comprehension_free (use := some (assign (.Name y py) X.env)) (Q := fun _ s' => SP X pins D .next s') rfl hs hclos' S.kind S.loc (thn (hi pins s σ H _ I h) fun v s1 h1 => thn h1 fun itv s2 h2 => ?_)) (fun _ s' hq => wpAny_pure (wpAny_pure hq)) fun _ _ e => e)
  obtain ⟨it, fp, tn, J, H2, e, I2, T, st2, f2, q2⟩ := h2
  subst e
  have hfresh : H2 s2.heap.objs.size = none := I2.hok.fresh (Nat.le_refl _)
  obtain ⟨W, ⟨m0, w0⟩, turn⟩ := q2 s2.heap.objs.size hfresh
  refine wpAny_newObj_type (wpAny_newFunctionEnv S.own (by intro y hy; simp at hy) (fun h₁ hns₁ hsb₁ => ?_) S.kind)
  dsimp only at hns₁ hsb₁ ⊢
  generalize hG : s2.heap.push { cls := .type "list", dict := none, data := .seq ([] : List Value).toArray } = G at hns₁ hsb₁ ⊢
  have hGs : G.objs.size = s2.heap.objs.size + 1 := by rw [← hG, Heap.size_push]
  have kold : ∀ b o, s2.heap.get? b = some o → h₁.get? b = some o := fun b o e =>
    hsb₁.extBut b o (by rw [hGs]; exact Nat.ne_of_lt (Nat.lt_succ_of_lt (Heap.lt_size e))) (Heap.get?_push_of_some _ (hG ▸ Heap.get?_push_of_some _ e))
  have kD : h₁.get? s2.heap.objs.size = some { cls := .type "list", dict := none, data := .seq ([] : List Value).toArray } :=
    hsb₁.extBut _ _ (by rw [hGs]; exact Nat.ne_of_lt (Nat.lt_succ_self _)) (Heap.get?_push_of_some _ (hG ▸ Heap.get?_push_size _ rfl))
  have hok1 : HOk X.prog X.w (upd H2 s2.heap.objs.size (.lst [])) h₁ := I2.hok.laid kold (Nat.le_refl _) ⟨Nat.zero_le _, [], 0, .nil, kD⟩
  have hfpl : ∀ b ∈ fp, b < s2.heap.objs.size := fun b hb => by
    obtain ⟨o, e, _⟩ := T.obj _ _ st2 b hb
    exact Heap.lt_size e
  have hC0 : (upd H2 s2.heap.objs.size (.lst [])) G.objs.size = none := by
    rw [upd_ne (by rw [hGs]; exact Nat.ne_of_gt (Nat.lt_succ_self _))]
    exact I2.hok.fresh (by rw [hGs]; exact Nat.le_succ _)
  generalize hRR : (compPost (model X.prog X.w) X.A X.xe (some (assign (.Name y py) X.env)) (fun _ s' => SP X pins D .next s') (.ref s2.heap.objs.size) G.objs.size) = RR
  have stat : ∀ {H' : Hp}, (∀ b ∈ fp, H' b = none) → ∀ b ∈ fp, FpOk (compCx X scope N cl G.objs.size fp s2 H2 (notedBy (model X.prog X.w) X.A (compEnvC scope cl G.objs.size X.env) fun e s' => RR (.error e) s')) [] H' b := fun {H'} hn b hb => by
    obtain ⟨f0, f1, f2', f3, f4, f5⟩ := f2 b hb
    refine ⟨hn b hb, Nat.ne_of_lt (Nat.lt_of_lt_of_le (hfpl b hb) (by show _ ≤ G.objs.size; rw [hGs]; exact Nat.le_succ _)), fun z => ?_, .inl hb, fun x c e => f4 x c (hcl x c e), fun p hp => absurd (show p ∈ ([] : List (Addr × Obj)) from hp) (by simp)⟩
    rcases List.mem_cons.mp (I2.stkSub b z) with q | q
    · exact f1 q
    · exact f2' q
  have I3 : ∀ tk, Inv (compCx X scope N cl G.objs.size fp s2 H2 (notedBy (model X.prog X.w) X.A (compEnvC scope cl G.objs.size X.env) fun e s' => RR (.error e) s')) [] (inner nt js σ) (upd H2 s2.heap.objs.size (.lst [])) { s2 with heap := h₁, toks := tk } := fun tk =>
    comp_start S I2 f2 hcl hcl2 hfpl (by rw [hGs]; exact Nat.le_succ _) kold (fun b o e => by rw [upd_ne (ne_of_none e hfresh)]; exact e) (fun b n hb => by rw [upd_ne (Nat.ne_of_lt hb)]; exact n) hok1 hns₁ hC0 (fun _ => rfl)
  have loop : ∀ s₃ : Shared, s₃ = { s2 with heap := h₁, toks := s2.toks + ([] : List (Str × Value)).length } →
      codeAny (model X.prog X.w) X.A (.compLoop (.ListComp elt [⟨tg, iter, ifs, 0⟩] scope pos) 0 (.ref it) (.ref s2.heap.objs.size) (compEnvC scope cl G.objs.size X.env)) RR s₃ := by
    rintro s₃ rfl
    refine compLoop_any (fun n s' => ∃ i ys H', Inv (compCx X scope N cl G.objs.size fp s2 H2 (notedBy (model X.prog X.w) X.A (compEnvC scope cl G.objs.size X.env) fun e s' => RR (.error e) s')) [] (inner nt js σ) H' s' ∧ tn i s'.heap ∧ (∀ b ∈ fp, H' b = none) ∧ W i n ys H') ?_ m0
      ⟨0, [], _, I3 _, T.keep _ _ _ st2 fun b hb o e => kold b o e, fun b hb => by rw [upd_ne (Nat.ne_of_lt (hfpl b hb))]; exact (f2 b hb).1, w0⟩
    rintro n s3 ⟨i, ys, H3, J3, st3, fr3, w3⟩
    rcases turn i n ys H3 w3 with ⟨stop, qn⟩ | ⟨go, NN, hN, step⟩
    · refine thn (T.done (compCx X scope N cl G.objs.size fp s2 H2 (notedBy (model X.prog X.w) X.A (compEnvC scope cl G.objs.size X.env) fun e s' => RR (.error e) s')) rfl rfl rfl hca i [] s3 (inner nt js σ) H3 _ J3 (stat fr3) st3 stop) fun r s4 zr4525 => ?_
      obtain ⟨hr, I4⟩ := zr4525
      subst hr
      show RR (.ok .next) s4
      rw [← hRR]
      obtain ⟨mC, hnC, _⟩ := id I4.loc
      have I5 : Inv X pins σ H3 s4 := I2.call' (s' := s4) I4.os I4.base I4.hok I4.bare (fun b hb => by
        obtain ⟨f0, f1, f2', f3, f4, f5⟩ := f2 b hb
        exact ⟨f3, f1, f4, f5⟩)
      show wpAny _ X.A (assign (.Name y py) X.env (.ref s2.heap.objs.size)) _ _ s4
      have hCL : G.objs.size ≠ X.env.locals := Nat.ne_of_gt (Nat.lt_of_lt_of_le I2.lt (by rw [hGs]; exact Nat.le_succ _))
      have hCc : ∀ x c, X.env.cells.lookup x = some c → c ≠ G.objs.size := fun x c e z => by
        obtain ⟨v, q⟩ := I2.cell x c e
        exact absurd (Nat.lt_of_lt_of_le q.lt (by rw [z, hGs]; exact Nat.le_succ _)) (Nat.lt_irrefl _)
      refine wpAny_assign_Name (store_ok2 I5 hN hi0 hy (v := .ref s2.heap.objs.size) rfl (fun s6 I6 zr4538 => ?_) hf)
      obtain ⟨ad, sb, had⟩ := zr4538
      have hadC : G.objs.size ≠ ad := by
        rcases had with z | z
        · rw [z]; exact hCL
        · exact fun e => hCc _ _ z e.symm
      refine ⟨mC, hnC.sameBut sb hadC, fun h'' hs'' => ?_⟩
      refine ⟨_, H3, Inv.turned (t' := s6.toks) (it := G.objs.size) I6 (fun b o hb e => hs''.extBut b o hb e) I4.free hCL (.inr (Nat.le_trans I2.sz (by rw [hGs]; exact Nat.le_succ _))) hCc (fun p hp z => ?_), qn⟩
      have e := (I2.pin p hp).1
      exact absurd (Nat.lt_of_lt_of_le (Heap.lt_size e) (by rw [z, hGs]; exact Nat.le_succ _)) (Nat.lt_irrefl _)
    · refine thn (T.item (compCx X scope N cl G.objs.size fp s2 H2 (notedBy (model X.prog X.w) X.A (compEnvC scope cl G.objs.size X.env) fun e s' => RR (.error e) s')) rfl rfl rfl hca i [] s3 (inner nt js σ) H3 _ J3 (stat fr3) st3 go) fun r s4 zr4547 => ?_
      obtain ⟨u, hr, h4⟩ := zr4547
      subst hr
      refine thn h4 fun _ s5 zr4549 => ?_
      obtain ⟨x, H5, I5, r5, y5, st5, fr5⟩ := zr4549
      have I5' := I5.pinned (stat fr5) (T.obj _ _ st5)
      have g5 := hgo x (inner nt js σ) H5 _ inner_none (step x H5 y5)
      refine thn (hg cl G.objs.size fp s2 H2 _ _ s5 _ H5 x u _ I5' r5 g5) fun _ s6 zr4552 => ?_
      obtain ⟨σ6, H6, I6, wk6, q6⟩ := zr4552
      refine thn (hc cl G.objs.size fp s2 H2 _ _ s6 σ6 H6 _ I6 q6) fun ok s7 zr4553 => ?_
      obtain ⟨H7, I7, q7⟩ := zr4553
      have again : ∀ {s8 : Shared} {H8 : Hp} {ys' : List V}, Inv (compCx X scope N cl G.objs.size fp s2 H2 (notedBy (model X.prog X.w) X.A (compEnvC scope cl G.objs.size X.env) fun e s' => RR (.error e) s')) ([] ++ pinsAt fp s5.heap) σ6 H8 s8 → NN ys' H8 →
          ∃ m, m < n ∧ ∃ i ys H', Inv (compCx X scope N cl G.objs.size fp s2 H2 (notedBy (model X.prog X.w) X.A (compEnvC scope cl G.objs.size X.env) fun e s' => RR (.error e) s')) [] (inner nt js σ) H' s8 ∧ tn i s8.heap ∧ (∀ b ∈ fp, H' b = none) ∧ W i m ys H' := fun {s8 H8 ys'} I8 n8 => by
        obtain ⟨m', hm, w8⟩ := hN ys' H8 n8
        refine ⟨m', hm, i + 1, ys', H8, (I8.unpinned).wk wk6, T.keep _ _ _ st5 fun b hb o e => (I8.pin (b, o) (List.mem_append_right _ (List.mem_append_right _ (mem_pinsAt hb e)))).1, fun b hb => ?_, w8⟩
        obtain ⟨o, e, d⟩ := T.obj _ _ st5 b hb
        exact (I8.pin (b, o) (List.mem_append_right _ (List.mem_append_right _ (mem_pinsAt hb e)))).2.1
      cases ok with
      | false =>
        rw [if_neg Bool.false_ne_true] at q7 ⊢
        exact again I7 q7
      | true =>
        rw [if_pos rfl] at q7 ⊢
        refine thn (he cl G.objs.size fp s2 H2 _ _ s7 σ6 H7 _ I7 q7) fun y s8 zr4566 => ?_
        obtain ⟨yv, H8, I8, r8, hD8, hl8, q8⟩ := zr4566
        refine thn (mt_append (X := compCx X scope N cl G.objs.size fp s2 H2 (notedBy (model X.prog X.w) X.A (compEnvC scope cl G.objs.size X.env) fun e s' => RR (.error e) s')) _ s8 σ6 H8 (.ref s2.heap.objs.size) [yv] (.ref s2.heap.objs.size) [y] (fun _ H9 => NN (ys ++ [yv]) H9) I8 rfl (.cons r8 .nil) ⟨_, ys, yv, rfl, rfl, hD8, hl8, q8⟩) fun v9 s9 zr4567 => ?_
        obtain ⟨x9, H9, I9, r9, q9⟩ := zr4567
        exact again I9 q9
  subst hRR
  exact codeAny_compStart_list (loop _ rfl) (T.self _ 0 _ _ _ (T.keep _ _ _ st2 fun b hb o e => kold b o e) (loop _ rfl))
end
end L2
namespace L2
open PySem PySem.Spec PyProof.Rows
noncomputable def CompG (J : It) (σ0 : St) (g : TG) (tc : TT) (te : TE) (Q : VK) (H1 : Hp) (D : Addr) : Prop := ∃ W : Nat → Nat → List V → Hp → Prop, (∃ m, W 0 m [] (upd H1 D (.lst []))) ∧
  ∀ i m ys H2, W i m ys H2 → (J.stop i H2 ∧ Q (.ref D) H2) ∨ (J.go i H2 ∧ ∃ N : List V → Hp → Prop, (∀ ys' H', N ys' H' → ∃ m', m' < m ∧ W (i + 1) m' ys' H') ∧
    ∀ x H', J.yld i H2 x H' → g x σ0 H' fun σ2 H3 => tc σ2 H3 fun b H4 => if b = true then te σ2 H4 fun y H5 => H5 D = some (.lst ys) ∧ ys.length < sizeLine ∧ N (ys ++ [y]) (upd H5 D (.lst (ys ++ [y]))) else N ys H4)
theorem tComp_eq (nt : Nat) (js : List Nat) (wi : TI) (g : TG) (tc : TT) (te : TE) : tComp nt js wi g tc te = fun σ H Q => wi σ H fun J H1 => ∀ D, H1 D = none → CompG J (inner nt js σ) g tc te Q H1 D := rfl
noncomputable def ForG (J : It) (g : TG) (tb : TS) (D : Ends) (σ : St) (H1 : Hp) : Prop := ∃ W : Nat → Nat → St → Hp → Prop, (∃ m, W 0 m σ H1) ∧ ∀ i m σ H, W i m σ H →
  (J.stop i H ∧ D.nx σ H) ∨ (J.go i H ∧ ∃ N : St → Hp → Prop, (∀ σ' H', N σ' H' → ∃ m', m' < m ∧ W (i + 1) m' σ' H') ∧ ∀ x H', J.yld i H x H' → g x σ H' fun σ2 H2 => tb { D with nx := N, ct := N, bk := D.nx } σ2 H2)
theorem tFor_eq (wi : TI) (g : TG) (tb : TS) : tFor wi g tb = fun D σ H => wi σ H fun J H1 => ForG J g tb D σ H1 := rfl
theorem for_g {J : It} {xs : List V} {C : Hp → Prop} (w : Wlk J xs C) {g : TG} {tb : TS} {D : Ends} {σ : St} {H : Hp} (Pv : Nat → St → Hp → Prop) (h0 : Pv 0 σ H) (hl : ∀ i σ H, Pv i σ H → C H)
    (hs : ∀ i x σ H, i < xs.length → xs[i]? = some x → Pv i σ H → g x σ H fun σ2 H2 => tb { D with nx := Pv (i + 1), ct := Pv (i + 1), bk := D.nx } σ2 H2) (hd : ∀ σ H, Pv xs.length σ H → D.nx σ H) : ForG J g tb D σ H :=
  for_wlk w Pv h0 hl hs hd
theorem comp_g {J : It} {xs : List V} {C : Hp → Prop} (w : Wlk J xs C) {g : TG} {tc : TT} {te : TE} {σ0 : St} {Q : VK} {H1 : Hp} {D : Addr} (Pv : Nat → List V → Hp → Prop) (h0 : Pv 0 [] (upd H1 D (.lst []))) (hl : ∀ i ys H, Pv i ys H → C H)
    (hs : ∀ i x ys H, i < xs.length → xs[i]? = some x → Pv i ys H → g x σ0 H fun σ2 H3 => tc σ2 H3 fun b H4 => if b = true then te σ2 H4 fun y H5 => H5 D = some (.lst ys) ∧ ys.length < sizeLine ∧ Pv (i + 1) (ys ++ [y]) (upd H5 D (.lst (ys ++ [y]))) else Pv (i + 1) ys H4)
    (hd : ∀ ys H, Pv xs.length ys H → Q (.ref D) H) : CompG J σ0 g tc te Q H1 D := comp_wlk w Pv h0 hl hs hd
theorem inner0 (js : List Nat) (σ : St) : inner 0 js σ = js.map fun j => (σ[j]?).join := rfl
theorem inner1 (js : List Nat) (σ : St) : inner 1 js σ = none :: js.map fun j => (σ[j]?).join := rfl
theorem inner2 (js : List Nat) (σ : St) : inner 2 js σ = none :: none :: js.map fun j => (σ[j]?).join := rfl
theorem inner3 (js : List Nat) (σ : St) : inner 3 js σ = none :: none :: none :: js.map fun j => (σ[j]?).join := rfl
theorem Same.upd_new {H H1 : Hp} {p : Addr} {o : HO} (s : Same H H1) (hp : H1 p = none) : Same H (upd H1 p o) := fun b u e => by
  have e1 := s b u e
  rw [upd_ne (ne_of_none e1 hp)]; exact e1
theorem Same.upd0 {H : Hp} {p : Addr} {o : HO} (hp : H p = none) : Same H (upd H p o) := (Same.refl H).upd_new hp
end L2
namespace L2
open PySem PySem.Spec PyProof.Rows
noncomputable def IsB (H : Hp) (x : V) (T : String) (k : Bool) : Prop := match x with
  | .non => k = false
  | .bl _ => k = (T == "bool" || T == "int")
  | .int _ => k = (T == "int")
  | .str _ => k = (T == "str")
  | .ref a => (∃ vs, H a = some (.tup vs) ∧ k = (T == "tuple")) ∨ (∃ vs, H a = some (.lst vs) ∧ k = (T == "list"))
  | _ => False
noncomputable def rIsB : List V → Hp → VK → Prop := fun xs H Q => ∃ x T, xs = [x, .ty T] ∧ (T = "int" ∨ T = "str" ∨ T = "bool" ∨ T = "tuple" ∨ T = "list") ∧ ∃ k, IsB H x T k ∧ Q (.bl k) H
theorem kit_all (K : PySem.W.Frag) {T : String} (h : T = "int" ∨ T = "str" ∨ T = "bool" ∨ T = "tuple" ∨ T = "list") :
    PySem.W.kitOne K (.type "NoneType") (.type T) = some false ∧ PySem.W.kitOne K (.type "bool") (.type T) = some (T == "bool" || T == "int") ∧ PySem.W.kitOne K (.type "int") (.type T) = some (T == "int") ∧
    PySem.W.kitOne K (.type "str") (.type T) = some (T == "str") ∧ PySem.W.kitOne K (.type "tuple") (.type T) = some (T == "tuple") ∧ PySem.W.kitOne K (.type "list") (.type T) = some (T == "list") := by
  rcases h with rfl | rfl | rfl | rfl | rfl
  all_goals exact ⟨rfl, rfl, rfl, rfl, rfl, rfl⟩
theorem call_isB {X : Cx} : CallR X (.builtin "isinstance") rIsB := call_isi.imp fun xs H Q ⟨x, T, e, hT, k, hk, q⟩ => by
  obtain ⟨k1, k2, k3, k4, k5, k6⟩ := kit_all X.K hT
  cases x with
  | non => cases hk; exact ⟨_, _, T, _, e, .non, k1, q⟩
  | bl b => cases hk; exact ⟨_, _, T, _, e, .bl b, k2, q⟩
  | int b => cases hk; exact ⟨_, _, T, _, e, .int b, k3, q⟩
  | str b => cases hk; exact ⟨_, _, T, _, e, .str b, k4, q⟩
  | ref a =>
    rcases hk with ⟨vs, h, rfl⟩ | ⟨vs, h, rfl⟩
    · exact ⟨_, _, T, _, e, .tup h, k5, q⟩
    · exact ⟨_, _, T, _, e, .lst h, k6, q⟩
  | _ => exact hk.elim
end L2
namespace L2
open PySem PySem.Spec PyProof.Rows
section
variable {X : Cx} {x : Str} {pos : Pos}
theorem pe_cI {i : Int} (h : ∃ t, X.mg x = some (.int i t)) (hg : Gl X x) (hd : (x == ("__debug__" : Str)) = false := by decide) : PE X (.Name x pos) (tC (.int i)) := by
  obtain ⟨t, h⟩ := h
  exact pe_glob hg h ⟨t, rfl⟩ hd
noncomputable def tCT (K : PySem.W.Frag) (xs : List V) : TE := fun _ H Q => ∀ a, SqT K H a xs → Q (.ref a) H
noncomputable def ConstT (K : PySem.W.Frag) (mg : Str → Option Value) (x : Str) (xs : List V) : Prop :=
  ∃ (a : Addr) (o : Obj) (its : Array Value) (n : Nat), mg x = some (.ref a) ∧ K.lookup a = some o ∧ o.cls = .type "tuple" ∧ o.data = .seq its n ∧ its.size ≤ sizeLine ∧ Vals xs its.toList
theorem pe_cT {xs : List V} (h : ConstT X.K X.mg x xs) (hg : Gl X x) (hd : (x == ("__debug__" : Str)) = false := by decide) : PE X (.Name x pos) (tCT X.K xs) := by
  obtain ⟨a, o, its, n, hm, h1, h2, h3, h4, h5⟩ := h
  intro pins s σ H Q I q
  exact pe_glob (v := .ref a) hg hm rfl hd pins s σ H Q I (q a (.inr ⟨o, its, n, h1, h2, h3, h4, h5⟩))
end
end L2
namespace L2
open PySem
noncomputable def smallB (c : Nat) : Bool := decide (97 ≤ c) && decide (c ≤ 122)
end L2
namespace L2
open PySem
theorem lt_a (c : Nat) : decide ([c] < (Str.ofString "a").cps.toList) = decide (c < 97) := by
  rw [show (Str.ofString "a").cps.toList = [97] by decide +kernel, Bool.eq_iff_iff]
  simp [List.cons_lt_cons_iff]
theorem lt_z (c : Nat) : decide ((Str.ofString "z").cps.toList < [c]) = decide (122 < c) := by
  rw [show (Str.ofString "z").cps.toList = [122] by decide +kernel, Bool.eq_iff_iff]
  simp [List.cons_lt_cons_iff]
theorem small_rd {c : Nat} {Q : Bool → Prop} (q : Q (smallB c)) : if decide (c < 97) = false then Q (!decide (122 < c)) else Q false := by
  unfold smallB at q
  by_cases h : c < 97
  · rw [decide_eq_true h, if_neg (by decide)]
    rw [decide_eq_false (show ¬ 97 ≤ c by omega), Bool.false_and] at q
    exact q
  · rw [decide_eq_false h, if_pos rfl]
    rw [decide_eq_true (show 97 ≤ c by omega), Bool.true_and] at q
    by_cases h2 : 122 < c
    · rw [decide_eq_true h2]; rw [decide_eq_false (show ¬ c ≤ 122 by omega)] at q; exact q
    · rw [decide_eq_false h2]; rw [decide_eq_true (show c ≤ 122 by omega)] at q; exact q
end L2
namespace L2
open PySem
theorem str_len_append (a b : Str) : (a ++ b).length = a.length + b.length := by
  show (a ++ b).cps.size = a.cps.size + b.cps.size
  exact Array.size_append
end L2
namespace L2
open PySem PySem.Spec PyProof.Rows
theorem comp_map {J : It} {xs : List V} {C : Hp → Prop} (w : Wlk J xs C) {te : TE} {σ0 : St} {Q : VK} {H1 : Hp} {D : Addr} (f : V → V) (hD : H1 D = none) (hC : ∀ H', Same H1 H' → C H') (hn : xs.length ≤ 1000)
    (he : ∀ (x : V) (H2 : Hp) (Q2 : VK), x ∈ xs → Same H1 H2 → Q2 (f x) H2 → te (σ0.set 0 (some x)) H2 Q2)
    (hd : ∀ H2, Same H1 H2 → H2 D = some (.lst (xs.map f)) → Q (.ref D) H2) : CompG J σ0 (gName 0) tYes te Q H1 D := by
  refine comp_g w (fun i ys H => ys = (xs.take i).map f ∧ i ≤ xs.length ∧ Same H1 H ∧ H D = some (.lst ys)) ⟨by simp, Nat.zero_le _, Same.upd0 hD, upd_same⟩ (fun i ys H h => hC _ h.2.2.1) ?_ ?_
  · rintro i x ys H hi hx ⟨rfl, hle, sm, hd⟩
    simp only [gName, tYes, if_true]
    refine he x H _ (List.mem_of_getElem? hx) sm ⟨hd, by simp; exact small1000 (by omega), ?_, hi, ?_, upd_same⟩
    · rw [List.take_add_one, hx]; simp
    · exact fun b o e => by rw [upd_ne (ne_of_none e hD)]; exact sm b o e
  · rintro ys H ⟨rfl, _, sm, hd'⟩
    rw [List.take_length] at hd'
    exact hd H sm hd'
end L2
namespace L2
open PySem
theorem hu100 {A : Around} {k : Nat} (hr : Room k A) : A.units + 100 < cLine := by have := hr.un; omega
end L2
namespace HT
open PySem PyProof.Rows
section
variable {prog : Program} {w : World} {A : Around} {E : Value → Shared → Prop} {s : Shared}
theorem cat_tup0 {t b : Addr} {vs ws : List Value} {Q : Value → Shared → Prop} (ht : IsTup s.heap t vs.toArray) (hb : IsTup s.heap b ws.toArray) (hv : vs = [])
    (h1 : Q (.ref b) s) : wpAny (model prog w) A (binaryOp .Add (.ref t) (.ref b)) Q E s := by
  obtain ⟨⟨cls, dd, data, sl⟩, ho, hc, n, hd⟩ := id ht
  obtain ⟨⟨cls2, dd2, data2, sl2⟩, ho2, hc2, n2, hd2⟩ := id hb
  simp only at hc hd hc2 hd2
  subst hc hd hc2 hd2
  exact concat_meets ⟨_, ho, rfl⟩ ⟨_, ho2, rfl⟩ noFill_tuple_add seq_tuple_add PySem.F.slot_tuple_add PySem.F.entry_tuple_add (PySem.F.args_tuple_add_2 _ _)
      (tuple_addW0 t b vs.toArray ws.toArray n n2 dd dd2 sl sl2 (by simp [hv])) ⟨ho, ho2, h1⟩
end
end HT
namespace L2
open PySem PySem.Spec PyProof.Rows
section
variable {X : Cx} {a b o e l : Expr} {es : List Expr} {ta tb to : TE} {t : TA} {pos : Pos} {tg : Expr}
noncomputable def rCT : R2 := fun x y H Q => ∃ l, x = .ref l ∧ ∃ b, y = .ref b ∧ ∃ xs, H l = some (.tup xs) ∧ ∃ ys, H b = some (.tup ys) ∧ xs.length + ys.length ≤ sizeLine ∧
  (xs = [] → Q (.ref b) H) ∧ (xs ≠ [] → ys = [] → Q (.ref l) H) ∧ (xs ≠ [] → ys ≠ [] → ∀ p, H p = none → Q (.ref p) (upd H p (.tup (xs ++ ys))))
theorem op_catTA : OpR X (binaryOp .Add) rCT := by
  intro pins s σ H x y v u Q I rx ry h
  obtain ⟨a, rfl, b, rfl, xs, ha, ys, hb, hz, q0, q1, q2⟩ := h
  by_cases hx : xs = []
  · cases rx
    cases ry
    obtain ⟨its, r1, p1, _⟩ := I.tuple (SqT.of ha)
    obtain ⟨its2, r2, p2, _⟩ := I.tuple (SqT.of hb)
    exact HT.cat_tup0 p1 p2 (r1.nil_iff.mpr hx) ⟨.ref b, H, I, rfl, q0 hx⟩
  · exact op_catT pins s σ H _ _ v u Q I rx ry ⟨a, b, xs, ys, rfl, rfl, .of ha, .of hb, hx, hz, q1 hx, q2 hx⟩
noncomputable def CDivW (i j : Int) : Prop := 0 < j ∧ j < 18446744073709551616
theorem op_fdivW : OpR X (binaryOp .FloorDiv) (rI CDivW fun i j => .int (i / j)) := opI fun i j _ _ _ _ _ hc q => by
  have h1 : (0 : Int) < j := hc.1
  have h2 : j < 18446744073709551616 := hc.2
  refine floordiv_int (by omega) (by rw [Int.fdiv_eq_ediv_of_nonneg i (by omega)]; exact q) (.inl (PyProof.noPylong_of_log2 ?_))
  have h3 : j.natAbs < 2 ^ 64 := by omega
  exact Nat.lt_trans ((Nat.log2_lt (by omega)).mpr h3) (by decide)
noncomputable abbrev RMS := Str → List V → Hp → VK → Prop
noncomputable def MtS (X : Cx) (id : String) (r : RMS) : Prop := MtR X id fun x vs H Q => ∃ p, x = .str p ∧ r p vs H Q
noncomputable def tMS (r : RMS) (to : TE) (t : TA) : TE := fun σ H Q => to σ H fun x H1 => ∃ p, x = .str p ∧ t σ H1 fun vs H2 => r p vs H2 Q
variable {name : Str} {id : String} {r : RMS} {apos cpos : Pos}
theorem pe_mS (slot : Slot "str" name id) (hty : typeOf (.builtin id) = pure (.type "method_descriptor")) (hm : MtS X id r) (ho : PE X o to) (ha : PA X (e :: es) t)
    (hbase : attributeBase o name X.env (eval o X.env) = eval o X.env := by rfl)
    (hfew : ((backTo cpos (starEach (e :: es) X.env)).all (fun x => !x.1) && (backToKw cpos (keywordEach [] X.env)).all (fun x => x.1.isSome)
      && decide ((e :: es).length + ([] : List Keyword).length + (if ([] : List Keyword).isEmpty then 0 else 1) < 30)) = true := by rfl)
    (hline : (apos.endLine == cpos.line) = true := by rfl) (hs : starEach (e :: es) X.env = (false, eval e X.env) :: starEach es X.env := by rfl) (hplain : (backTo cpos (starEach es X.env)).any (·.1) = false := by rfl) :
    PE X (.Call (.Attribute o name apos) (e :: es) [] cpos) (tMS r to t) := by
  intro pins s σ H Q I h
  refine wpAny_Call_method_late hbase hfew hline rfl (thn (ho pins s σ H _ I h) fun v s1 zr4738 => ?_)
  obtain ⟨x, H1, I1, r1, p, ex, q1⟩ := zr4738
  subst ex
  obtain ⟨h1, h2⟩ := tyV_is I1 r1 (show tyV X.K "str" (.str p) H1 from rfl)
  refine ⟨"str", id, PySem.F.plainAttrs_str, slot, hty, h1, h2, ?_⟩
  have hA := ha cpos pins s1 σ H1 _ I1 q1
  rw [hs] at hA ⊢
  refine Calls.callWith_builtin (by show (false || (backTo cpos (starEach es X.env)).any (·.1)) = false; rw [hplain] <;> rfl) (Calls.evalArgs_plain ?_)
  refine thn hA fun us s2 zr4745 => ?_
  obtain ⟨vs, H2, I2, rr, q2⟩ := zr4745
  exact hm pins s2 σ H2 (.str p) vs v us Q I2 r1 rr ⟨p, rfl, q2⟩
theorem strsAre_of {ns : List Str} : ∀ {us : List Value}, Vals (ns.map V.str) us → StrsAre us ns := by
  induction ns with
  | nil => intro us h; cases h; exact .nil
  | cons n ns ih =>
    intro us h
    cases h with
    | cons r1 r2 =>
      obtain ⟨t, rfl⟩ := r1
      exact .cons _ _ (ih r2)
noncomputable def rmJoin : RMS := fun z vs H Q => ∃ p, vs = [.ref p] ∧ ∃ ys : List Str, H p = some (.lst (ys.map V.str)) ∧ (ys.map (·.length)).sum + ys.length * z.length ≤ 16777216 ∧ Q (.str (Txt.join z ys)) H
theorem ms_join : MtS X "str.join" rmJoin := by
  intro pins s σ H x vs v us Q I rx rv h
  obtain ⟨z, rfl, p, rfl, ys, hp, hok, q⟩ := h
  obtain ⟨t, rfl⟩ := rx
  obtain ⟨u, rfl, ru⟩ := vals1 rv
  cases ru
  obtain ⟨its, r, pl, hz⟩ := I.list (SqL.of hp)
  exact join_list pl.isList (ys := ys) (by simpa using strsAre_of r) hok fun t' k => ⟨.str _, H, I.tok k, ⟨t', rfl⟩, q⟩
noncomputable def rmIndex : RMS := fun z vs H Q => ∃ y, vs = [.str y] ∧ ∃ i rest, Builtin.Str.occurrences z y 0 z.length 1 = i :: rest ∧ Q (.int (i : Nat)) H
theorem ms_index : MtS X "str.index" rmIndex := by
  intro pins s σ H x vs v us Q I rx rv h
  obtain ⟨z, rfl, y, rfl, i, rest, ho, q⟩ := h
  obtain ⟨t, rfl⟩ := rx
  obtain ⟨u, rfl, ru⟩ := vals1 rv
  obtain ⟨t', rfl⟩ := ru
  exact SC.index ho ⟨.int i, H, I.tok _, ⟨_, rfl⟩, q⟩
end
end L2
namespace L2
open PySem PySem.Spec PyProof.Rows
theorem str_ext {a b : Str} (h : a.cps.toList = b.cps.toList) : a = b := by
  cases a; cases b; congr 1; exact Array.ext' h
theorem append_cps (a b : Str) : (a ++ b).cps.toList = a.cps.toList ++ b.cps.toList := by
  show (a.cps ++ b.cps).toList = _
  simp
theorem filterMap_range' (l : List Nat) (s : Nat) : ∀ n, s + n ≤ l.length → ((List.range n).map fun k => s + k).filterMap (fun i => l[i]?) = (l.drop s).take n
  | 0, _ => by simp
  | n + 1, h => by
    rw [List.range_succ, List.map_append, List.filterMap_append, filterMap_range' l s n (by omega), List.take_add_one]
    have e : l[s + n]? = some (l[s + n]'(by omega)) := by simp
    simp [e, List.getElem?_drop]
theorem sl_idx (lo hi : Option Int) (n : Nat) : Builtin.Str.strSliceIndices lo hi 1 n = (List.range (HT.sIx n n hi - HT.sIx n 0 lo)).map fun k => HT.sIx n 0 lo + k := by
  have clip : ∀ (v : Int) (d : Nat), (if (1 : Int) > 0 then max 0 (min (if v < 0 then v + (n : Int) else v) (n : Int)) else max (-1) (min (if v < 0 then v + (n : Int) else v) ((n : Int) - 1))) = ((HT.sIx n d (some v) : Nat) : Int) := fun v d => by
    rw [if_pos (by decide)]
    show max 0 (min (if v < 0 then v + (n : Int) else v) (n : Int)) = (((if v < 0 then (v + (n : Int)).toNat else min v.toNat n) : Nat) : Int)
    split <;> rw [Int.max_def, Int.min_def] <;> split <;> split <;> omega
  have base : ∀ (a b : Nat), sliceRange (a : Int) (b : Int) 1 = (List.range (b - a)).map fun k => a + k := fun a b => by
    unfold sliceRange
    simp only [show (1 : Int) > 0 by decide, if_true, Int.one_mul]
    have e : (if (a : Int) < (b : Int) then ((b : Int) - (a : Int) + 1 - 1) / 1 else 0).toNat = b - a := by
      split
      · rw [Int.ediv_one]; omega
      · show (0 : Int).toNat = b - a
        rw [Int.toNat_zero]; omega
    rw [e]
    refine List.map_congr_left fun k _ => ?_
    omega
  unfold Builtin.Str.strSliceIndices
  cases lo with
  | none => cases hi with
    | none => exact base 0 n
    | some v => simp only []; rw [clip v n]; exact base 0 _
  | some u => cases hi with
    | none => simp only []; rw [clip u 0]; exact base _ n
    | some v => simp only []; rw [clip u 0, clip v n]; exact base _ _
theorem slice_cps (x : Str) (lo hi : Option Int) : (Txt.slice x lo hi).cps.toList = (x.cps.toList.drop (HT.sIx x.length 0 lo)).take (HT.sIx x.length x.length hi - HT.sIx x.length 0 lo) := by
  have h1 := HT.sIx_le x.length x.length (Nat.le_refl _) hi
  have h0 := HT.sIx_le x.length 0 (Nat.zero_le _) lo
  have hl : x.cps.toList.length = x.length := by show x.cps.toList.length = x.cps.size; simp
  unfold Txt.slice
  rw [sl_idx]
  split
  · rename_i h
    simp only [beq_self_eq_true, Bool.true_and, List.length_map, List.length_range, beq_iff_eq] at h
    have e0 : HT.sIx x.length 0 lo = 0 := by omega
    rw [h, e0, List.drop_zero, ← hl, List.take_length]
  · show ((List.map _ _).filterMap (fun i => x.cps[i]?)).toArray.toList = _
    rw [List.toList_toArray]
    rw [← filterMap_range' _ _ _ (by omega)]
    refine congrArg (fun f => List.filterMap f _) (funext fun i => ?_)
    simp
theorem join_cps (ys : List Str) : (Txt.join (Str.ofString "") ys).cps.toList = ys.flatMap fun y => y.cps.toList := by
  have key : ∀ (l : List Str) (acc : Array Nat), (l.foldl (fun acc p => acc ++ (Str.ofString "").cps ++ p.cps) acc).toList = acc.toList ++ l.flatMap fun y => y.cps.toList := by
    intro l
    induction l with
    | nil => intro acc; simp
    | cons a l ih =>
      intro acc
      rw [List.foldl_cons, ih]
      have e : (Str.ofString "").cps = #[] := by decide +kernel
      simp [e]
  show ((ys.drop 1).foldl _ (ys.headD Str.empty).cps).toList = _
  rw [key]
  cases ys with
  | nil => simp; decide +kernel
  | cons a l => simp
structure IsNm (w : Str) : Prop where
  pos : 1 ≤ w.length
  le : w.length ≤ 8
  small : ∀ c ∈ w.cps.toList, smallB c = true
theorem len_cps (x : Str) : x.cps.toList.length = x.length := by show x.cps.toList.length = x.cps.size; simp
theorem IsNm.cons {w : Str} (h : IsNm w) : ∃ c cs, w.cps.toList = c :: cs ∧ smallB c = true ∧ (∀ x ∈ cs, smallB x = true) ∧ cs.length ≤ 7 := by
  have hl := len_cps w
  cases e : w.cps.toList with
  | nil => rw [e] at hl; have := h.pos; simp at hl; omega
  | cons c cs =>
    rw [e] at hl
    have := h.le
    exact ⟨c, cs, rfl, h.small c (by rw [e]; simp), fun x hx => h.small x (by rw [e]; simp [hx]), by simp at hl; omega⟩
theorem IsNm.of {w : Str} {c : Nat} {cs : List Nat} (e : w.cps.toList = c :: cs) (hc : smallB c = true) (hcs : ∀ x ∈ cs, smallB x = true) (hl : cs.length ≤ 7) : IsNm w := by
  have h := len_cps w
  rw [e] at h
  simp at h
  refine ⟨by omega, by omega, fun x hx => ?_⟩
  rw [e] at hx
  rcases List.mem_cons.mp hx with rfl | q
  · exact hc
  · exact hcs x q
theorem letters_at {r : Int} (h0 : 0 ≤ r) (h1 : r < 26) : atI (Str.ofString "abcdefghijklmnopqrstuvwxyz").cps.toList r = some (97 + r.toNat) := by
  obtain ⟨n, rfl⟩ := Int.eq_ofNat_of_zero_le h0
  rw [show (Str.ofString "abcdefghijklmnopqrstuvwxyz").cps.toList = List.range' 97 26 by decide +kernel]
  refine atI_nat ?_
  rw [List.getElem?_range' (by omega)]
  simp
theorem letters_len : (Str.ofString "abcdefghijklmnopqrstuvwxyz").length ≤ sizeLine := by decide +kernel
theorem letters_index {c : Nat} (h : smallB c = true) : Builtin.Str.occurrences (Str.ofString "abcdefghijklmnopqrstuvwxyz") ⟨#[c]⟩ 0 (Str.ofString "abcdefghijklmnopqrstuvwxyz").length 1 = (c - 97) :: [] := by
  have key : ∀ i : Fin 26, Builtin.Str.occurrences (Str.ofString "abcdefghijklmnopqrstuvwxyz") ⟨#[97 + i.1]⟩ 0 (Str.ofString "abcdefghijklmnopqrstuvwxyz").length 1 = [i.1] := by decide +kernel
  simp only [smallB, Bool.and_eq_true, decide_eq_true_eq] at h
  have := key ⟨c - 97, by omega⟩
  simp only [show 97 + (c - 97) = c by omega] at this
  exact this
noncomputable def nxtC (c : Nat) : Nat := 97 + (c - 97 + 1) % 26
noncomputable def nxtL : List Nat → List Nat
  | [] => []
  | c :: cs => nxtC c :: cs
noncomputable def nxtW (w : Str) : Str := ⟨(nxtL w.cps.toList).toArray⟩
noncomputable def nxtN : Nat → Str → Str
  | 0, w => w
  | n + 1, w => nxtN n (nxtW w)
theorem small_nxtC (c : Nat) : smallB (nxtC c) = true := by
  have := Nat.mod_lt (c - 97 + 1) (show 0 < 26 by decide)
  unfold smallB nxtC
  rw [Bool.and_eq_true, decide_eq_true_eq, decide_eq_true_eq]
  exact ⟨by omega, by omega⟩
theorem nxtW_nm {w : Str} (h : IsNm w) : IsNm (nxtW w) := by
  obtain ⟨c, cs, e, hc, hcs, hl⟩ := h.cons
  exact .of (c := nxtC c) (cs := cs) (by simp [nxtW, e, nxtL]) (small_nxtC c) hcs hl
theorem nxtN_cps {c : Nat} {cs : List Nat} : ∀ (n : Nat) {w : Str}, w.cps.toList = c :: cs → smallB c = true → (nxtN n w).cps.toList = (97 + (c - 97 + n) % 26) :: cs := by
  intro n
  induction n generalizing c with
  | zero =>
    intro w e hc
    simp only [smallB, Bool.and_eq_true, decide_eq_true_eq] at hc
    rw [nxtN, e]
    congr 1
    omega
  | succ n ih =>
    intro w e hc
    rw [nxtN, ih (c := nxtC c) (by simp [nxtW, e, nxtL]) (small_nxtC c)]
    congr 1
    simp only [nxtC]
    omega
theorem nodup_le {α : Type} [BEq α] [LawfulBEq α] : ∀ {xs ys : List α}, xs.Nodup → (∀ x ∈ xs, x ∈ ys) → xs.length ≤ ys.length
  | [], _, _, _ => by simp
  | x :: xs, ys, hn, h => by
    have hn' := List.nodup_cons.mp hn
    have hx := h x (by simp)
    have := nodup_le (xs := xs) (ys := ys.erase x) hn'.2 fun z hz => by
      have hne : z ≠ x := fun e => hn'.1 (e ▸ hz)
      exact (List.mem_erase_of_ne hne).mpr (h z (by simp [hz]))
    rw [List.length_erase_of_mem hx] at this
    have := List.length_pos_of_mem hx
    simp
    omega
theorem free_word {w : Str} (h : IsNm w) {F : List Str} (hF : F.length < 26) : ∃ n, nxtN n w ∉ F := by
  obtain ⟨c, cs, e, hc, hcs, hl⟩ := h.cons
  have hinj : ∀ i j, i < 26 → j < 26 → nxtN i w = nxtN j w → i = j := fun i j hi hj q => by
    have q2 := congrArg (fun z : Str => z.cps.toList) q
    simp only [nxtN_cps _ e hc] at q2
    have q3 := (List.cons.inj q2).1
    omega
  refine Classical.byContradiction fun hno => ?_
  have hall : ∀ n, nxtN n w ∈ F := fun n => Classical.byContradiction fun q => hno ⟨n, q⟩
  have hnd : ((List.range 26).map fun n => nxtN n w).Nodup := by
    refine List.pairwise_map.mpr (List.Pairwise.imp_of_mem (fun {i j} hi hj q e => q (hinj i j (List.mem_range.mp hi) (List.mem_range.mp hj) e)) (List.nodup_range (n := 26)))
  have := nodup_le (ys := F) hnd fun x hx => by
    obtain ⟨n, _, rfl⟩ := List.mem_map.mp hx
    exact hall n
  simp at this
  omega
theorem eqV_str (a b : Str) : eqV (.str a) (.str b) = decide (a = b) := by
  show (a == b) = decide (a = b)
  rw [Bool.eq_iff_iff]
  simp
theorem inV_strs (x : Str) (ys : List Str) : inV (.str x) (ys.map V.str) = decide (x ∈ ys) := by
  rw [Bool.eq_iff_iff]
  simp only [inV, List.any_map, List.any_eq_true, Function.comp, eqV_str, decide_eq_true_eq]
  constructor
  · rintro ⟨y, hy, rfl⟩; exact hy
  · exact fun h => ⟨x, h, rfl⟩
theorem flat_strs (ys : List Str) : (ys.map V.str).all flatV = true := by
  rw [List.all_eq_true]
  intro x hx
  obtain ⟨y, _, rfl⟩ := List.mem_map.mp hx
  rfl
noncomputable def marks4 : List Str := ["in", "from", "to", "end"]
structure NamesOk (ws : List Str) : Prop where
  nm : ∀ w ∈ ws, IsNm w
  nd : ws.Nodup
  nomark : ∀ w ∈ ws, w ∉ marks4
theorem NamesOk.nil : NamesOk [] := ⟨by simp, by simp, by simp⟩
theorem NamesOk.snoc {ws : List Str} {w : Str} (h : NamesOk ws) (hw : IsNm w) (hn : w ∉ ws) (hm : w ∉ marks4) : NamesOk (ws ++ [w]) := by
  refine ⟨fun x hx => ?_, ?_, fun x hx => ?_⟩
  · rcases List.mem_append.mp hx with q | q
    · exact h.nm x q
    · rw [List.mem_singleton.mp q]; exact hw
  · rw [List.nodup_append]
    refine ⟨h.nd, by simp, fun a ha b hb => ?_⟩
    rw [List.mem_singleton.mp hb]
    rintro rfl
    exact hn ha
  · rcases List.mem_append.mp hx with q | q
    · exact h.nomark x q
    · rw [List.mem_singleton.mp q]; exact hm
theorem atI_zero {α : Type} (x : α) (xs : List α) : atI (x :: xs) 0 = some x := atI_nat (j := 0) rfl
theorem edit_nm {z : Str} {r : Int} {c : Nat} (hz : IsNm z) (hc : smallB c = true) (r0 : 0 ≤ r) (r1 : r < z.length) : IsNm (Txt.slice z none (some r) ++ (Str.mk #[c]) ++ Txt.slice z (some (r + 1)) none) := by
  obtain ⟨n, rfl⟩ := Int.eq_ofNat_of_zero_le r0
  have hn : n < z.length := by omega
  have hl := len_cps z
  have e : (Txt.slice z none (some (n : Int)) ++ (Str.mk #[c]) ++ Txt.slice z (some ((n : Int) + 1)) none).cps.toList = z.cps.toList.take n ++ [c] ++ z.cps.toList.drop (n + 1) := by
    rw [append_cps, append_cps, slice_cps, slice_cps, HT.sIx_none, HT.sIx_nat, HT.sIx_none, show ((n : Int) + 1) = ((n + 1 : Nat) : Int) by omega, HT.sIx_nat, Nat.min_eq_left (by omega), Nat.min_eq_left (by omega)]
    rw [List.drop_zero, Nat.sub_zero, List.take_of_length_le (i := z.length - (n + 1)) (by rw [List.length_drop, hl]; omega)]
  have h8 := hz.le
  have hlen : (Txt.slice z none (some (n : Int)) ++ (Str.mk #[c]) ++ Txt.slice z (some ((n : Int) + 1)) none).length = z.length := by
    rw [← len_cps, e]
    simp only [List.length_append, List.length_take, List.length_drop, List.length_cons, List.length_nil, hl]
    omega
  refine ⟨by omega, by omega, fun x hx => ?_⟩
  rw [e] at hx
  rcases List.mem_append.mp hx with q | q
  · rcases List.mem_append.mp q with q | q
    · exact hz.small x (List.mem_of_mem_take q)
    · rw [List.mem_singleton.mp q]; exact hc
  · exact hz.small x (List.mem_of_mem_drop q)
theorem join_signs (cs : List Nat) : (Txt.join (Str.ofString "") (cs.map fun c => Str.mk #[c])).cps.toList = cs := by
  rw [join_cps]
  induction cs with
  | nil => rfl
  | cons c cs ih => simp [ih]
theorem sum_ones (cs : List Nat) : ((cs.map fun c => Str.mk #[c]).map fun x => x.length).sum = cs.length := by
  induction cs with
  | nil => rfl
  | cons c cs ih =>
    rw [List.map_cons, List.map_cons, List.sum_cons, ih]
    show 1 + cs.length = cs.length + 1
    omega
end L2
namespace L2
open PySem PySem.Spec PyProof.Rows
section
variable {X : Cx}
noncomputable def rSTs : V → Option Int → Option Int → Hp → VK → Prop := fun x lo hi H Q => ∃ a, x = .ref a ∧ ∃ xs, H a = some (.tup xs) ∧ ∀ p H', H' p = some (.tup (cutV xs lo hi)) → Same H H' → Q (.ref p) H'
theorem sl_Ts : SlR X rSTs := sl_T.imp fun _ _ _ _ _ zq28 => by obtain ⟨a, e, xs, h, q⟩ := zq28; exact (⟨a, e, xs, h, fun hw => q a _ (by rw [hw]; exact h) (Same.refl _), fun p hp => q p _ upd_same (Same.upd0 hp)⟩)
noncomputable def rCTs : R2 := fun x y H Q => ∃ l, x = .ref l ∧ ∃ b, y = .ref b ∧ ∃ xs, H l = some (.tup xs) ∧ ∃ ys, H b = some (.tup ys) ∧ xs.length + ys.length ≤ sizeLine ∧ ∀ p H', H' p = some (.tup (xs ++ ys)) → Same H H' → Q (.ref p) H'
theorem op_catTs : OpR X (binaryOp .Add) rCTs := op_catTA.imp fun _ _ _ _ ⟨l, e, b, e2, xs, h, ys, h2, hl, q⟩ => ⟨l, e, b, e2, xs, h, ys, h2, hl,
  fun hx => q b _ (by rw [hx]; exact h2) (Same.refl _), fun _ hy => q l _ (by rw [hy, List.append_nil]; exact h) (Same.refl _), fun _ _ p hp => q p _ upd_same (Same.upd0 hp)⟩
noncomputable def rSetLs : TSet := fun o i v H Q => ∃ p, o = .ref p ∧ ∃ k, i = .int k ∧ ∃ xs, H p = some (.lst xs) ∧ 0 ≤ k ∧ k < xs.length ∧ Q (upd H p (.lst (xs.set k.toNat v)))
theorem set_L : PSet X rSetLs := fun pins s σ H o i v ov iv u Q I ro ri rv zq29 => by obtain ⟨p, e1, k, e2, xs, h, k0, k1, q⟩ := zq29; exact (set_list pins s σ H o i v ov iv u Q I ro ri rv ⟨p, xs, k, k.toNat, e1, e2, h, by unfold ixN; rw [if_pos k0, if_pos (by omega)], q⟩)
end
theorem cut_map {α : Type} (f : α → V) (xs : List α) (n : Nat) : cutV (xs.map f) none (some (n : Int)) = (xs.take n).map f := by
  unfold cutV
  rw [HT.sIx_none, HT.sIx_nat, List.drop_zero, Nat.sub_zero, List.length_map, List.map_take]
  by_cases h : n ≤ xs.length
  · rw [Nat.min_eq_left h]
  · rw [Nat.min_eq_right (by omega), List.take_of_length_le (by simp), List.take_of_length_le (by simp; omega)]
theorem cut_map_but {α : Type} (f : α → V) (xs : List α) : cutV (xs.map f) none (some (-1)) = xs.dropLast.map f := by
  unfold cutV
  have e : HT.sIx (List.map f xs).length (List.map f xs).length (some (-1)) = xs.length - 1 := by
    show (if (-1 : Int) < 0 then ((-1 : Int) + ((List.map f xs).length : Int)).toNat else min (-1 : Int).toNat (List.map f xs).length) = _
    rw [if_pos (by decide), List.length_map]
    omega
  rw [e, HT.sIx_none, List.drop_zero, Nat.sub_zero, List.dropLast_eq_take, List.map_take]
theorem atI0 {α : Type} (x : α) (xs : List α) : atI (x :: xs) 0 = some x := atI_nat (j := 0) rfl
theorem atI1 {α : Type} (x y : α) (xs : List α) : atI (x :: y :: xs) 1 = some y := atI_nat (j := 1) rfl
theorem atI2 {α : Type} (x y z : α) (xs : List α) : atI (x :: y :: z :: xs) 2 = some z := atI_nat (j := 2) rfl
theorem atI3 {α : Type} (x y z a : α) (xs : List α) : atI (x :: y :: z :: a :: xs) 3 = some a := atI_nat (j := 3) rfl
theorem atI4 {α : Type} (x y z a b : α) (xs : List α) : atI (x :: y :: z :: a :: b :: xs) 4 = some b := atI_nat (j := 4) rfl
theorem ofS_inj {a b : String} : (Str.ofString a = Str.ofString b) = (a = b) := by
  refine propext ⟨fun h => ?_, fun h => by rw [h]⟩
  rw [Str.ofString_eq_toList, Str.ofString_eq_toList] at h
  have h1 := congrArg (fun s : Str => s.cps.toList) h
  simp only [List.toList_toArray] at h1
  have key : ∀ (l1 l2 : List Char), l1.map Char.toNat = l2.map Char.toNat → l1 = l2 := by
    intro l1
    induction l1 with
    | nil => intro l2 h; cases l2 with
      | nil => rfl
      | cons a b => cases h
    | cons a b ih => intro l2 h; cases l2 with
      | nil => cases h
      | cons c d =>
        rw [List.map_cons, List.map_cons, List.cons.injEq] at h
        rw [ih d h.2, Char.toNat_inj.mp h.1]
  exact String.toList_injective (key _ _ h1)
section
variable {X : Cx} {pos : Pos}
theorem PG.imp {tg : Expr} {g g' : TG} (h : PG X tg g) (i : ∀ v σ H Q, g' v σ H Q → g v σ H Q) : PG X tg g' := fun pins s σ H v u Q I r q => h pins s σ H v u Q I r (i _ _ _ _ q)
noncomputable def gTupT (n : Nat) (t : TGs) : TG := fun v σ H Q => ∃ a, v = .ref a ∧ ∃ xs, H a = some (.tup xs) ∧ xs.length = n ∧ t xs σ H Q
theorem pg_tupT {es : List Expr} {k : Nat} {t : TGs} {n : Nat} (hc : X.calm = true) (h : PGs X es t)
    (hn : (assignEach es X.env).length = n := by rfl) (hst : (assignEach es X.env).findIdx? (·.1) = none := by rfl) : PG X (.Tuple es k pos) (gTupT n t) :=
  (pg_tup hc h hn hst).imp fun _ _ _ _ zq30 => by obtain ⟨a, e, xs, h, hl, q⟩ := zq30; exact (⟨a, xs, e, .of h, hl, q⟩)
end
end L2
namespace L2
open PySem PySem.Spec PyProof.Rows
noncomputable def clsAt (mg : Str → Option Value) (x : Str) : Addr := match mg x with | some (.ref a) => a | _ => 0
theorem clsAt_of {mg : Str → Option Value} {x : Str} {C : Addr} (h : mg x = some (.ref C)) : clsAt mg x = C := by unfold clsAt; rw [h]
noncomputable def MtdL (K : PySem.W.Frag) (R : Addr → Prop) (x q : Str) (st : Stmt) (ps : List Str) : Prop := ∃ f fd, Fun K x q st f fd ∧ R f ∧ Binds K fd ps []
noncomputable def FnR (P : Program) (w : World) (K : PySem.W.Frag) (mg : Str → Option Value) (base : Heap) (R : Addr → Prop) (k : Nat) (ps : List Str) (sp : Sp) : Prop := ∃ f fd, FnOk P w K mg base CX0 k f fd ps sp ∧ R f ∧ Binds K fd ps []
section
variable {P : Program} {w : World} {K : PySem.W.Frag} {mg : Str → Option Value} {base : Heap} {R : Addr → Prop}
theorem MtdL.ok {x q : Str} {st : Stmt} {N ps : List Str} {k : Nat} {sp : Sp} (F : MtdL K R x q st ps) (S : FnScope N ps (defScope st)) (len : ∀ vs H Q E, sp vs H Q E → vs.length = ps.length)
    (hbody : ∀ (f : Addr) (cdv : Value) (A : Around) (outer : List Env) (s : Shared) (H : Hp) (vs : List V) (Q : VK) (E : XK), Room k (A.deeper (envOfC q (defScope st) s.heap.objs.size f cdv)) → sp vs H Q E →
      ∃ t, PSs (cxOf CX0 P w K mg base N q (defScope st) f cdv A outer s H E).nox (defBody st) t ∧ t { nx := fun _ H' => Q .non H', rt := Q } (start N vs) H) : FnR P w K mg base R (k + 1) ps sp := by
  obtain ⟨f, fd, F, r, b⟩ := F
  exact ⟨f, fd, F.ok S len (hbody f), r, b⟩
theorem mtdL_mk {x q : Str} {st : Stmt} {ps : List Str} {f : Addr} {oc : Value} {od an : Option Addr} {osl : Array (Option Value)} {kV doc pm cdv ct : Value} (r : R f)
    (l : K.lookup f = some ⟨oc, od, .func (PySem.W.fnOf x q (defArgs st) (defBody st) (defScope st) .none kV doc pm an cdv ct), osl⟩)
    (c : PySem.W.codeIn K cdv q = true) (k : PySem.W.keepIn K (.ref f) = true)
    (hb : ∀ (kV doc pm : Value) (an : Option Addr) (cdv ct : Value) (us : List Value), us.length = ps.length → bindArgs (PySem.W.fnOf x q (defArgs st) (defBody st) (defScope st) .none kV doc pm an cdv ct) ⟨us, []⟩ = pure (ps.zip us)) : MtdL K R x q st ps :=
  ⟨f, _, fun_mk l c k, r, (fun_mk l c k).binds hb⟩
end
noncomputable def tFldC (C : Addr) (ta : TE) (f : Str) : TE := fun σ H Q => ta σ H fun x H1 => ∃ a, x = .ref a ∧ ∃ dx fs, H1 a = some (.ins C dx fs) ∧ ∃ v, fs.lookup f = some v ∧ Q v H1
noncomputable def sFldC (C : Addr) (ta tv : TE) (f : Str) : TS := fun D σ H => tv σ H fun y H1 => ta σ H1 fun x H2 => ∃ a, x = .ref a ∧ ∃ dx fs, H2 a = some (.ins C dx fs) ∧ fs.length < 1000 ∧ D.nx σ (upd H2 a (.ins C dx (putF f y fs)))
noncomputable def tMethC (C : Addr) (m : Str) (sp : Sp) (ta : TE) (t : TA) : TE := fun σ H Q => ta σ H fun x H1 => ∃ a, x = .ref a ∧ ∃ dx fs, H1 a = some (.ins C dx fs) ∧ fs.lookup m = none ∧ t σ H1 fun vs H2 => sp (.ref a :: vs) H2 Q E0
noncomputable def tMakeC (C : Addr) (sp : Sp) (t : TA) : TE := fun σ H Q => t σ H fun vs H1 => ∀ x dx, H1 x = none → H1 dx = none → dx ≠ x → sp (.ref x :: vs) (upd (upd H1 dx (.own x)) x (.ins C dx [])) (fun v H2 => v = .non ∧ Q (.ref x) H2) E0
section
variable {X : Cx} {o e value : Expr} {es : List Expr} {f m x : Str} {p pos pos' apos : Pos} {ta tv : TE} {t : TA} {C : Addr} {k : Nat} {ps : List Str} {sp : Sp}
theorem pe_fldC (c : Cls X.K C) (n : NoAttr X.K C f) (he : PE X e ta) (hb : attributeBase e f X.env (eval e X.env) = eval e X.env := by rfl) : PE X (.Attribute e f pos) (tFldC C ta f) := by
  intro pins s σ H Q I h
  refine attr_of hb (thn (he pins s σ H _ I h) fun u s1 zr5087 => ?_)
  obtain ⟨x, H1, I1, rx, a, ex, dx, fs, ea, v, l, q⟩ := zr5087
  subst ex
  obtain rfl : u = Value.ref a := rx
  exact getattr_ok I1 ea c n l fun u' s2 I2 ru => ⟨v, H1, I2, ru, q⟩
theorem ps_fldC (c : Cls X.K C) (n : NoAttr X.K C f) (ha : PE X o ta) (hv : PE X value tv) (hs : swapsWith value (some (.Attribute o f pos')) pos.line X.env = pure false) : PS X (.Assign [.Attribute o f pos'] value pos) (sFldC C ta tv f) := by
  intro pins s σ H D I h
  refine plainObj_wpAny_Assign_Attribute (thn (hv pins s σ H _ I h) fun u s1 ⟨y, H1, I1, ry, q⟩ => thn (ha pins s1 σ H1 _ I1 q) fun ov s2 zr5093 => ?_) hs
  obtain ⟨x, H2, I2, rx, a, ex, dx, fs, ea, l, q2⟩ := zr5093
  subst ex
  obtain rfl : ov = Value.ref a := rx
  exact setattr_ok I2 ea c n l ry fun s3 I3 => ⟨σ, _, I3, q2⟩
theorem pe_methF {pl : Sem Bool} (c : Cls X.K C) (F : FnR X.prog X.w X.K X.mg X.base (Meth X.K C m) k ps sp) (hr : Room k X.A) (he : PE X o ta) (ha : PA X (e :: es) t)
    (hst : starEach (e :: es) X.env = (false, eval e X.env) :: starEach es X.env := by rfl) (hpl : (backTo pos (starEach es X.env)).any (·.1) = false := by rfl)
    (ht : eval (.Call (.Attribute o m apos) (e :: es) [] pos) X.env = (do
      let ov ← eval o X.env
      standAt apos.atName
      let (f, first) ← holding [ov] (getMethod ov m pl)
      callWith pos f first (backTo pos (starEach (e :: es) X.env)) (backToKw pos (keywordEach [] X.env))) := by rfl) :
    PE X (.Call (.Attribute o m apos) (e :: es) [] pos) (tMethC C m sp ta t) := by
  obtain ⟨f, fd, F, hm, b⟩ := F
  intro pins s σ H Q I h
  refine PySem.W.methodCall_KW (pl := pl) (thn (he pins s σ H _ I h) fun u s1 zr5107 => ?_) ht
  obtain ⟨x, H1, I1, rx, a, ex, dx, fs, ea, l, q⟩ := zr5107
  subst ex
  obtain rfl : u = Value.ref a := rx
  refine getmeth_ok I1 ea c hm l ?_
  refine PySem.W.callWith_K (first := [.ref a]) (h₀ := X.base) I.ok.mod.kin hm.kp (thn (ha pos pins s1 σ H1 _ I1 q) fun us s2 ⟨vs, H2, I2, r, q2⟩ => ⟨I2.kIn, ?_⟩) hst hpl
  exact run_fn (us := .ref a :: us) (vs := .ref a :: vs) F hr b .nil pass0 I2 (.cons rfl r) (by rw [List.append_nil]; exact q2)
theorem pe_makeF (F : FnR X.prog X.w X.K X.mg X.base (Mk X.K C) k ps sp) (hr : Room (k + 1) X.A) (hg : Gl X x) (hm : X.mg x = some (.ref C))
    (ha : PA X (e :: es) t) (hdb : (x == ("__debug__" : Str)) = false := by decide) (he : starEach (e :: es) X.env = (false, eval e X.env) :: starEach es X.env := by rfl) (hpl : (backTo pos (starEach es X.env)).any (·.1) = false := by rfl) :
    PE X (.Call (.Name x p) (e :: es) [] pos) (tMakeC C sp t) := by
  obtain ⟨f, fd, F, M, b⟩ := F
  intro pins s σ H Q I h
  refine wpAny_Call_Name_kw (ld_glob I hg hm ?_ hdb)
  refine PySem.W.callWith_K (h₀ := X.base) I.ok.mod.kin M.kp (thn (ha pos pins s σ H _ I h) fun us s1 ⟨vs, H1, I1, r, q⟩ => ⟨I1.kIn, ?_⟩) he hpl
  refine run_make M F hr b .nil pass0 I1 r ?_
  rw [List.append_nil]
  exact q
end
section
variable {X : Cx} {l tg : Expr} {tl : TE} {K : PySem.W.Frag}
theorem pi_LK (hK : X.K = K) (hl : PE X l tl) : PI X tg l (iL K tl) := by subst hK; exact pi_L hl
theorem pi_TK (hK : X.K = K) (hl : PE X l tl) : PI X tg l (iT K tl) := by subst hK; exact pi_T hl
noncomputable def rAllL : List V → Hp → VK → Prop := fun xs H Q => ∃ p, xs = [.ref p] ∧ ∃ bs : List Bool, H p = some (.lst (bs.map V.bl)) ∧ Q (.bl (bs.all id)) H
theorem call_allL (hc : X.calm = true) : CallR X (.builtin "all") rAllL := (call_all_l hc).imp fun _ _ _ zq31 => by obtain ⟨p, e, bs, h, q⟩ := zq31; exact (⟨p, bs, e, .of h, q⟩)
end
theorem comp_mapS {J : It} {xs : List V} {C : Hp → Prop} (w : Wlk J xs C) {te : TE} {σ0 : St} {Q : VK} {H1 : Hp} {D : Addr} (f : V → V) (hD : H1 D = none) (hC : ∀ H', Same H1 H' → C H') (hn : xs.length ≤ 10000)
    (he : ∀ (x : V) (H2 : Hp) (Q2 : VK), x ∈ xs → Same H1 H2 → (∀ H3, Same H2 H3 → Q2 (f x) H3) → te (σ0.set 0 (some x)) H2 Q2)
    (hd : ∀ H2, Same H1 H2 → H2 D = some (.lst (xs.map f)) → Q (.ref D) H2) : CompG J σ0 (gName 0) tYes te Q H1 D := by
  refine comp_g w (fun i ys H => ys = (xs.take i).map f ∧ i ≤ xs.length ∧ Same H1 H ∧ H D = some (.lst ys)) ⟨by simp, Nat.zero_le _, Same.upd0 hD, upd_same⟩ (fun i ys H h => hC _ h.2.2.1) ?_ ?_
  · rintro i x ys H hi hx ⟨rfl, hle, sm, hd⟩
    simp only [gName, tYes, if_true]
    refine he x H _ (List.mem_of_getElem? hx) sm fun H4 s4 => ⟨s4 _ _ hd, by simp; exact Nat.lt_of_le_of_lt (Nat.le_trans (Nat.min_le_right _ _) hn) (by decide), ?_, hi, ?_, upd_same⟩
    · rw [List.take_add_one, hx]; simp
    · exact fun b o e => by rw [upd_ne (ne_of_none e hD)]; exact s4 _ _ (sm b o e)
  · rintro ys H ⟨rfl, _, sm, hd'⟩
    rw [List.take_length] at hd'
    exact hd H sm hd'
end L2
set_option maxHeartbeats 4000000
namespace L2
open PySem PySem.Spec PyProof.Rows
section
variable {X : Cx} {K : PySem.W.Frag}
theorem boot_rev' : bootBuiltins "reversed" = some (.type "reversed") := by decide +kernel
end
end L2
namespace PySem
open L2 PyProof.Rows PySem.Calls
section
variable {prog : Program} {w : World} {A : Around} {E : Value → Shared → Prop} {s : Shared}
noncomputable def hashNone : Int := 0xFCA86420
theorem pyHash_none {Q : Int → Shared → Prop} (h : Q hashNone { s with toks := s.toks + 1 }) : wpAny (model prog w) A (pyHash .none) Q E s := by
  have hT : s.TypeIs Value.none "NoneType" := rfl
  show wpAny _ _ (pyHashByItsType .none) Q E s
  unfold pyHashByItsType
  refine wpAny_bind ?_
  rw [cRoomFor, if_neg (by rw [show [Value.none].any Value.onHeap = false from rfl]; exact Bool.false_ne_true)]
  refine wpAny_pure (wpAny_bind (wpAny_specialOf hT PySem.F.slot_NoneType_hash.lookup ?_))
  refine wpAny_ite_split (fun z => by cases z) fun _ => ?_
  refine wpAny_bind (wpAny_specialOf hT PySem.F.slot_NoneType_hash.lookup ?_)
  refine wpAny_ite_split (fun z => by cases z) fun _ => ?_
  refine wpAny_bind (wpAny_callSpecialIfBoundUnlessNone?_slot hT PySem.F.slot_NoneType_hash (wpAny_call_entry PySem.F.slot_NoneType_hash hT PySem.F.entry_NoneType_hash (show wpAny _ _ (do ret (← mkInt hashNone)) _ _ s from wpAny_ret_mkInt ?_) (PySem.F.args_NoneType_hash_1 _)))
  show wpAny _ _ (if (decide (-(2 : Int) ^ 63 ≤ hashNone) && decide (hashNone < 2 ^ 63)) = true then _ else _) Q E _
  rw [if_pos (by decide)]
  exact wpAny_pure h
theorem eqBool_none {Q : Bool → Shared → Prop} (h : Q true s) : wpAny (model prog w) A (eqBool .none .none) Q E s := by
  unfold eqBool
  refine wpAny_holding ?_
  rw [if_pos (by decide)]
  exact wpAny_bind (wpAny_rule (wpAny_pure h))
end
end PySem
namespace L2
open PySem PySem.Spec PyProof.Rows
noncomputable def oV : Option Int → V | none => .non | some i => .int i
section
variable {P : Program} {w : World} {H : Hp} {h : Heap} {a : Addr} {o : Obj} {ks : List (Option Int)}
noncomputable def putN (ks : List (Option Int)) (k : Option Int) : List (Option Int) := if k ∈ ks then ks else ks ++ [k]
end
end L2
namespace L2
open PySem PySem.Spec PyProof.Rows
noncomputable def tVarM (i : Nat) : TE := fun σ H Q => match σ[i]? with | some (some v) => Q v H | _ => False
theorem tVarM_of {i : Nat} {σ : St} {H : Hp} {Q : VK} (h : tVarM i σ H Q) : tVar i σ H Q := by
  unfold tVarM at h
  split at h
  · exact ⟨_, by assumption, h⟩
  · exact h.elim
theorem pvM {X : Cx} (i : Nat) {x : Str} {pos : Pos} (hN : X.N[i]? = some x := by rfl) (hv : Vis X.env.scope x := by first | exact Or.inl rfl | exact Or.inr (Or.inl rfl) | exact Or.inr (Or.inr rfl)) (hd : (x == ("__debug__" : Str)) = false := by decide)
    (hcd : (x == ("__classdict__" : Str)) = false := by decide) : PE X (.Name x pos) (tVarM i) := fun pins s σ H Q I h => pe_var hN hv hd hcd pins s σ H Q I (tVarM_of h)
end L2
namespace L2
open PySem PySem.Spec PyProof.Rows
structure TabAt (w : World) (K : PySem.W.Frag) (a : Addr) : Prop where
  ex : ∃ es n, K.lookup a = some ⟨.type "dict", none, .dict es n, #[]⟩ ∧ PySem.W.KeysLit w.params es.toList
noncomputable def FnT (P : Program) (w : World) (K : PySem.W.Frag) (mg : Str → Option Value) (base : Heap) (a : Addr) (x : Str) (k : Nat) (ps : List Str) (sp : Sp) : Prop :=
  ∃ f fd, FnOk P w K mg base CX0 k f fd ps sp ∧ PySem.W.nsIn K a x = some (some (.ref f)) ∧ PySem.W.keepIn K (.ref f) = true ∧ Binds K fd ps []
theorem fnT_of {P : Program} {w : World} {K : PySem.W.Frag} {mg : Str → Option Value} {base : Heap} {a f : Addr} {x y : Str} {j k : Nat} {ps : List Str} {sp sp' : Sp} (F : Fn P w K mg base y j ps sp) (hm : mg y = some (.ref f)) (hn : PySem.W.nsIn K a x = some (some (.ref f))) (h : j ≤ k)
    (hs : ∀ vs H Q E, sp' vs H Q E → sp vs H Q E) : FnT P w K mg base a x k ps sp' := by
  obtain ⟨f', fd, F, m, kp, b⟩ := F
  rw [hm] at m
  cases m
  exact ⟨f, fd, (F.mono h).imp hs, hn, kp, b⟩
noncomputable def tCallT (names : List Str) (sp : Str → Sp) (tb : TE) (t : TA) : TE := fun σ H Q => tb σ H fun y H1 => ∃ x, y = .str x ∧ x ∈ names ∧ t σ H1 fun vs H2 => sp x vs H2 Q E0
section
variable {X : Cx} {k : Nat} {ps : List Str} {x : Str} {p p1 pos : Pos} {e b : Expr} {es : List Expr} {tb : TE} {t : TA} {a : Addr}
theorem pe_callT {names : List Str} {sp : Str → Sp} (TA : TabAt X.w X.K a) (F : ∀ y ∈ names, FnT X.prog X.w X.K X.mg X.base a y k ps (sp y)) (hr : Room k X.A) (hg : Gl X x) (hm : X.mg x = some (.ref a)) (hb : PE X b tb) (ha : PA X (e :: es) t)
    (hs : PlainIx b) (hdb : (x == ("__debug__" : Str)) = false := by decide)
    (he : starEach (e :: es) X.env = (false, eval e X.env) :: starEach es X.env := by rfl) (hpl : (backTo pos (starEach es X.env)).any (·.1) = false := by rfl) :
    PE X (.Call (.Subscript (.Name x p) b p1) (e :: es) [] pos) (tCallT names sp tb t) := by
  intro pins s σ H Q I h
  show wpAny _ _ (do callWith pos (← eval (.Subscript (.Name x p) b p1) X.env) [] (backTo pos (starEach (e :: es) X.env)) (backToKw pos (keywordEach [] X.env))) _ _ s
  refine wpAny_bind (Subscript_ (ld_glob I hg hm (thn (hb pins s σ H _ I h) fun u s1 zr5218 => ?_) hdb))
  obtain ⟨v, H1, I1, r, y, ey, hy, q⟩ := zr5218
  subst ey
  obtain ⟨tk, rfl⟩ := r
  obtain ⟨f, fd, F, hn, kp, bd⟩ := F y hy
  obtain ⟨es', n, hl, hk⟩ := TA.ex
  have hmap := PySem.W.mapOf_K (prog := X.prog) I1.kIn hl hk
  refine PyProof.Rows.tail_any hmap.typeIs PySem.F.slot_dict_getitem.lookup (wpAny_getItem_of (strKind_is X.prog X.w y tk) hmap (PySem.W.find_K hl hn) ?_) (hs _ _)
  have I2 : Inv X pins σ H1 { s1 with toks := s1.toks + 1 } := I1.tok _
  refine PySem.W.callWith_K (h₀ := X.base) I.ok.mod.kin kp (thn (ha pos pins _ σ H1 _ I2 q) fun us s3 ⟨vs, H3, I3, r3, q3⟩ => ⟨I3.kIn, ?_⟩) he hpl
  exact run_fn F hr bd .nil pass0 I3 r3 (by rw [List.append_nil]; exact q3)
end
end L2
namespace PySem
open L2 PyProof.Rows PySem.Calls
section
variable {prog : Program} {w : World} {A : Around} {E : Value → Shared → Prop} {s : Shared}
noncomputable def b01 (b : Bool) : Int := if b then 1 else 0
theorem pyHash_bool {b : Bool} {Q : Int → Shared → Prop} (h : Q (hashInt (b01 b)) { s with toks := s.toks + 1 }) : wpAny (model prog w) A (pyHash (.bool b)) Q E s := by
  have hT : s.TypeIs (.bool b) "bool" := rfl
  show wpAny _ _ (pyHashByItsType (.bool b)) Q E s
  unfold pyHashByItsType
  refine wpAny_bind ?_
  rw [cRoomFor, if_neg (by rw [show [Value.bool b].any Value.onHeap = false from rfl]; exact Bool.false_ne_true)]
  refine wpAny_pure (wpAny_bind (wpAny_specialOf hT PySem.F.slot_bool_hash.lookup ?_))
  refine wpAny_ite_split (fun z => by cases z) fun _ => ?_
  refine wpAny_bind (wpAny_specialOf hT PySem.F.slot_bool_hash.lookup ?_)
  refine wpAny_ite_split (fun z => by cases z) fun _ => ?_
  refine wpAny_bind (wpAny_callSpecialIfBoundUnlessNone?_slot hT PySem.F.slot_bool_hash (wpAny_call_entry PySem.F.slot_bool_hash hT PySem.F.entry_int_hash ?_ (PySem.F.args_int_hash_1 _)))
  have hr := rawHash_range (b01 b)
  cases b with
  | true =>
    refine (show wpAny _ _ (do ret (← mkInt (rawHash 1))) _ _ s from wpAny_ret_mkInt ?_)
    show wpAny _ _ (if (decide (-(2 : Int) ^ 63 ≤ rawHash 1) && decide (rawHash 1 < 2 ^ 63)) = true then _ else _) Q E _
    rw [if_pos (by decide)]
    exact wpAny_pure h
  | false =>
    refine (show wpAny _ _ (do ret (← mkInt (rawHash 0))) _ _ s from wpAny_ret_mkInt ?_)
    show wpAny _ _ (if (decide (-(2 : Int) ^ 63 ≤ rawHash 0) && decide (rawHash 0 < 2 ^ 63)) = true then _ else _) Q E _
    rw [if_pos (by decide)]
    exact wpAny_pure h
noncomputable def anyIs : Option Key → Value → Bool
  | none, .none => true
  | some (.inl i), .bool b => b01 b == i
  | some k, v => keyIs k v
  | _, _ => false
theorem anyIs_shape {k : Option Key} {v : Value} (h : anyIs k v = true) : (k = none ∧ v = .none) ∨ (∃ i t, k = some (.inl i) ∧ v = .int i t) ∨ (∃ x t, k = some (.inr x) ∧ v = .str x t) ∨ ∃ b, k = some (.inl (b01 b)) ∧ v = .bool b := by
  cases k with
  | none => cases v <;> first | exact .inl ⟨rfl, rfl⟩ | cases h
  | some k =>
    have main : keyIs k v = true → (some k = none ∧ v = .none) ∨ (∃ i t, some k = some (.inl i) ∧ v = .int i t) ∨ (∃ x t, some k = some (.inr x) ∧ v = .str x t) ∨ ∃ b, some k = some (.inl (b01 b)) ∧ v = .bool b := fun h => by
      rcases keyIs_shape h with ⟨i, t, rfl, rfl⟩ | ⟨x, t, rfl, rfl⟩
      · exact .inr (.inl ⟨i, t, rfl, rfl⟩)
      · exact .inr (.inr (.inl ⟨x, t, rfl, rfl⟩))
    cases v with
    | bool b =>
      cases k with
      | inl i => exact .inr (.inr (.inr ⟨b, by rw [eq_of_beq (show (b01 b == i) = true from h)], rfl⟩))
      | inr x => exact main h
    | _ => exact main (by cases k <;> exact h)
theorem anyIs_of {k : Key} {v : Value} (h : keyIs k v = true) : anyIs (some k) v = true := by
  rcases keyIs_shape h with ⟨i, t, rfl, rfl⟩ | ⟨x, t, rfl, rfl⟩ <;> exact h
noncomputable def anyH (w : World) : Option Key → Int | none => hashNone | some k => keyH w k
theorem anyEq {a b : Option Key} {u v : Value} {Q : Bool → Shared → Prop} (hu : anyIs a u = true) (hv : anyIs b v = true) (h : Q (decide (a = b)) s) : wpAny (model prog w) A (eqBool u v) Q E s := by
  have ii : ∀ i j : Int, decide (some (Sum.inl i : Key) = some (.inl j)) = (i == j) := fun i j => by rw [Bool.eq_iff_iff]; simp
  rcases anyIs_shape hu with ⟨rfl, rfl⟩ | ⟨i, t, rfl, rfl⟩ | ⟨x, t, rfl, rfl⟩ | ⟨c, rfl, rfl⟩ <;> rcases anyIs_shape hv with ⟨rfl, rfl⟩ | ⟨j, t', rfl, rfl⟩ | ⟨y, t', rfl, rfl⟩ | ⟨d, rfl, rfl⟩
  · exact eqBool_none (by simpa using h)
  · exact SeqAt.EqAt.none_int j t' _ _ _ _ (by simpa using h)
  · exact SeqAt.EqAt.none_str y t' _ _ _ _ (by simpa using h)
  · exact SeqAt.EqAt.none_bool d _ _ _ _ (by simpa using h)
  · exact SeqAt.EqAt.int_none i t _ _ _ _ (by simpa using h)
  · rw [ii] at h; exact wpAny_eqBool_int h
  · exact SeqAt.EqAt.int_str i t y t' _ _ _ _ (by simpa using h)
  · rw [ii] at h; exact SeqAt.EqAt.int_bool i t d _ _ _ _ h
  · exact SeqAt.EqAt.str_none x t _ _ _ _ (by simpa using h)
  · exact SeqAt.EqAt.str_int x t j t' _ _ _ _ (by simpa using h)
  · refine wpAny_eqBool_str ?_
    have e : decide (x = y) = decide (some (Sum.inr x : Key) = some (.inr y)) := decide_eq_decide.mpr ⟨fun e => by rw [e], fun e => Sum.inr.inj (Option.some.inj e)⟩
    rw [e]; exact h
  · exact SeqAt.EqAt.str_bool x t d _ _ _ _ (by simpa using h)
  · exact SeqAt.EqAt.bool_none c _ _ _ _ (by simpa using h)
  · rw [ii] at h; exact SeqAt.EqAt.bool_int c j t' _ _ _ _ h
  · exact SeqAt.EqAt.bool_str c y t' _ _ _ _ (by simpa using h)
  · rw [ii] at h
    refine SeqAt.EqAt.bool_bool c d _ _ _ _ ?_
    have e : (c == d) = (b01 c == b01 d) := by cases c <;> cases d <;> rfl
    rw [e]; exact h
noncomputable def anyKind (prog : Program) (w : World) : KeyKind prog w (Option Key) where
  is := anyIs
  hash := anyH w
  inj := fun v a b ha hb => by
    rcases anyIs_shape ha with ⟨rfl, rfl⟩ | ⟨i, t, rfl, rfl⟩ | ⟨x, t, rfl, rfl⟩ | ⟨c, rfl, rfl⟩ <;> rcases anyIs_shape hb with ⟨rfl, e⟩ | ⟨j, u, rfl, e⟩ | ⟨y, u, rfl, e⟩ | ⟨d, rfl, e⟩ <;> first | rfl | (cases e; rfl) | cases e
  byValue := fun k v h => by
    rcases anyIs_shape h with ⟨rfl, rfl⟩ | ⟨i, t, rfl, rfl⟩ | ⟨x, t, rfl, rfl⟩ | ⟨c, rfl, rfl⟩ <;> rfl
  pyHash := fun hv h => by
    rcases anyIs_shape hv with ⟨rfl, rfl⟩ | ⟨i, t, rfl, rfl⟩ | ⟨x, t, rfl, rfl⟩ | ⟨c, rfl, rfl⟩
    · exact pyHash_none h
    · exact wpAny_pyHash_int h
    · exact wpAny_pyHash_str h
    · exact pyHash_bool h
  eqBool := fun hu hv h => anyEq hu hv h
  «strs» := fun k x t v h => by
    rcases anyIs_shape h with ⟨rfl, e⟩ | ⟨i, u, rfl, e⟩ | ⟨y, u, rfl, e⟩ | ⟨c, rfl, e⟩
    · cases e
    · cases e
    · cases e
      show anyIs (some (.inr x)) v = v.isStr x
      cases v <;> rfl
    · cases e
end
end PySem
namespace L2
open PySem PySem.Spec PyProof.Rows
section
variable {X : Cx}
variable {CX : CXT} {k : Nat} {x : Str} {p pos : Pos} {e : Expr} {es : List Expr} {t : TA}
noncomputable def keyS (e : DictEntry) : Str := match e.key with | .str x _ => x | _ => Str.empty
noncomputable def TabN (w : World) (K : PySem.W.Frag) (a : Addr) (N : List Str) : Prop := ∃ es n, K.lookup a = some ⟨.type "dict", none, .dict es n, #[]⟩ ∧ PySem.W.KeysLit w.params es.toList ∧ es.toList.map keyS = N
end
end L2
namespace L2
open PySem PySem.Spec PyProof.Rows
open PySem.Builtin PySem.Builtin.Str
section
variable {X : Cx}
noncomputable def rmStarts : RMS := fun z vs H Q => ∃ y, vs = [.str y] ∧ Q (.bl (Txt.startswith z y)) H
theorem ms_startswith : MtS X "str.startswith" rmStarts := by
  intro pins s σ H x vs v us Q I rx rv h
  obtain ⟨z, rfl, y, rfl, q⟩ := h
  obtain ⟨t, rfl⟩ := rx
  obtain ⟨u, rfl, t', rfl⟩ := vals1 rv
  exact SC.startswith ⟨.bl _, H, I, rfl, q⟩
noncomputable def rmPart : RMS := fun z vs H Q => ∃ y, vs = [.str y] ∧ 1 ≤ y.length ∧ z.length ≤ 1000000 ∧ ∀ p H', Same H H' → H' p = some (.tup [.str (Txt.partition z y).1, .str (Txt.partition z y).2.1, .str (Txt.partition z y).2.2]) → Q (.ref p) H'
theorem ms_partition : MtS X "str.partition" rmPart := by
  intro pins s σ H x vs v us Q I rx rv h
  obtain ⟨z, rfl, y, rfl, hy, hz, q⟩ := h
  obtain ⟨t, rfl⟩ := rx
  obtain ⟨u, rfl, t', rfl⟩ := vals1 rv
  refine call_meets F.slot_str_partition (typeIs_str _ _ _) F.entry_str_partition (F.args_str_partition_2 _ _) (meets_str_partition z y t t' (by simp; omega) (Nat.le_trans hz (by decide))) ?_
  have q' := q s.heap.objs.size (upd H s.heap.objs.size _) (Same.upd0 (I.hok.fresh (Nat.le_refl _))) upd_same
  unfold Txt.partition at q'
  revert q'
  have fin : ∀ (a b c : Str) (ta tb tc : Tok) (k : Nat), Q (.ref s.heap.objs.size) (upd H s.heap.objs.size (.tup [.str a, .str b, .str c])) → EP X pins σ Q (.ref s.heap.objs.size) { s with toks := k, heap := s.heap.push { cls := .type "tuple", data := .seq [.str a ta, .str b tb, .str c tc].toArray } } := fun a b c ta tb tc k q' =>
    ⟨.ref s.heap.objs.size, _, I.laid (t' := k) (o := .tup [.str a, .str b, .str c]) (fun b ob q => Heap.get?_push_of_some _ q) (Nat.le_refl _) ⟨by show 3 ≤ sizeLine; decide, [.str a ta, .str b tb, .str c tc], .cons ⟨_, rfl⟩ (.cons ⟨_, rfl⟩ (.cons ⟨_, rfl⟩ .nil)), IsTup.new _ _⟩, rfl, q'⟩
  cases occurrences z y 0 z.length 1 with
  | nil => intro q'; exact fin _ _ _ _ _ _ _ q'
  | cons i r => intro q'; exact fin _ _ _ _ _ _ _ q'
theorem vals_strs : ∀ l : List (Str × Tok), Vals ((l.map (·.1)).map V.str) (strValues l)
  | [] => .nil
  | (a, t) :: l => .cons ⟨t, rfl⟩ (vals_strs l)
noncomputable def rmSplit : RMS := fun z vs H Q => ∃ y, vs = [.str y] ∧ 1 ≤ y.length ∧ z.length ≤ 1000000 ∧ ∀ p H', Same H H' → H' p = some (.lst ((Txt.split z y).map V.str)) → Q (.ref p) H'
theorem split_fits {x y : Str} (hy : 1 ≤ y.length) (hx : x.length ≤ 1000000) : (Txt.split x y).length ≤ 1000001 := by
  have := PyProof.Rows.split_weight x y hy
  omega
theorem ms_split : MtS X "str.split" rmSplit := by
  intro pins s σ H x vs v us Q I rx rv h
  obtain ⟨z, rfl, y, rfl, hy, hz, q⟩ := h
  obtain ⟨t, rfl⟩ := rx
  obtain ⟨u, rfl, t', rfl⟩ := vals1 rv
  have hn := split_fits hy hz
  have fin : ∀ (l : List (Str × Tok)) (k : Nat), l.map (·.1) = Txt.split z y → EP X pins σ Q (.ref s.heap.objs.size) { s with toks := k, heap := s.heap.push { cls := .type "list", data := .seq (strValues l).toArray } } := fun l k e =>
    ⟨.ref s.heap.objs.size, _, I.laid (t' := k) (o := .lst ((Txt.split z y).map V.str)) (fun b ob q => Heap.get?_push_of_some _ q) (Nat.le_refl _) ⟨by rw [List.length_map]; exact Nat.le_trans hn (by decide), strValues l, 0, by rw [← e]; exact vals_strs l, Heap.get?_push_size _ rfl⟩, rfl, q _ _ (Same.upd0 (I.hok.fresh (Nat.le_refl _))) upd_same⟩
  cases h1 : (decide (z.length < y.length) || decide (strKind z < strKind y))
  · cases hf : (occurrences z y 0 z.length (z.length + 1)).isEmpty
    · have es : Txt.split z y = partsBetween z (occurrences z y 0 z.length (z.length + 1)) y.length := (if_neg (ne_true_of_eq_false h1)).trans (if_neg (ne_true_of_eq_false hf))
      refine call_meets F.slot_str_split (typeIs_str _ _ _) F.entry_str_split (F.args_str_split_2 _ _) (meets_str_split_sep z y t t' h1 (by simp; omega) hf (Nat.le_trans hz (by decide)) (by rw [← es]; exact Nat.le_trans hn (by decide))) ?_
      show wants _ _ _ { s with toks := _, heap := s.heap.push { cls := .type "list", data := .seq (strsFrom s.toks (partsBetween z (occurrences z y 0 z.length (z.length + 1)) y.length)).toArray } }
      rw [strsFrom_eq]
      exact fin (numbered s.toks _) _ ((numbered_texts _ _).trans es.symm)
    · exact call_meets F.slot_str_split (typeIs_str _ _ _) F.entry_str_split (F.args_str_split_2 _ _) (meets_str_split_not_found z y t t' h1 (by simp; omega) hf)
        (fin [(z, t)] s.toks ((if_neg (ne_true_of_eq_false h1)).trans (if_pos hf)).symm)
  · exact call_meets F.slot_str_split (typeIs_str _ _ _) F.entry_str_split (F.args_str_split_2 _ _) (meets_str_split_cannot_occur z y t t' h1)
      (fin [(z, t)] s.toks (if_pos h1).symm)
noncomputable def rIntS : List V → Hp → VK → Prop := fun xs H Q => ∃ x, xs = [.str x] ∧ ∃ n, PySem.intText? x = some n ∧ x.length ≤ 640 ∧ Q (.int n) H
theorem call_intS : CallR X (.type "int") rIntS := by
  intro pins s σ H xs us Q I r h
  obtain ⟨x, rfl, n, hn, hl, q⟩ := h
  obtain ⟨u, rfl, t, rfl⟩ := vals1 r
  exact PySem.W.KIN.call_text hn hl ⟨.int n, H, I.tok _, ⟨_, rfl⟩, q⟩
theorem pe_cS {x : Str} {pos : Pos} {z : Str} (h : ∃ t, X.mg x = some (.str z t)) (hg : Gl X x) (hd : (x == ("__debug__" : Str)) = false := by decide) : PE X (.Name x pos) (tC (.str z)) := by
  obtain ⟨t, h⟩ := h
  exact pe_glob hg h ⟨t, rfl⟩ hd
noncomputable def sAugF (C : Addr) (ta te : TE) (tip : TIp) (f : Str) : TS := fun D σ H => ta σ H fun x H1 => ∃ a, x = .ref a ∧ ∃ dx fs, H1 a = some (.ins C dx fs) ∧ ∃ v, fs.lookup f = some v ∧ te σ H1 fun y H2 => tip v y H2 fun z H3 => ∃ dx fs, H3 a = some (.ins C dx fs) ∧ fs.length < 1000 ∧ D.nx σ (upd H3 a (.ins C dx (putF f z fs)))
theorem ps_augF {o e : Expr} {f : Str} {pos tpos : Pos} {ta te : TE} {tip : TIp} {op : Operator} {C : Addr} (c : Cls X.K C) (n : NoAttr X.K C f) (ho : PE X o ta) (he : PE X e te) (hp : PIp X op tip) : PS X (.AugAssign (.Attribute o f tpos) op e pos) (sAugF C ta te tip f) := by
  intro pins s σ H D I h
  refine wpAny_AugAssign_AttributeAny (thn (ho pins s σ H _ I h) fun ov s1 zr5402 => ?_)
  obtain ⟨x, H1, I1, rx, a, ex, dx, fs, ea, v, l, q⟩ := zr5402
  subst ex
  obtain rfl : ov = Value.ref a := rx
  refine getattr_ok I1 ea c n l fun u s2 I2 ru => ?_
  refine thn (he pins s2 σ H1 _ I2 q) fun w s3 zr5406 => ?_
  obtain ⟨y, H2, I3, ry, q2⟩ := zr5406
  refine thn (hp pins s3 σ H2 v y u w _ I3 ru ry q2) fun z s4 zr5407 => ?_
  obtain ⟨zv, H3, I4, rz, dx2, fs2, ea2, hl, q3⟩ := zr5407
  exact setattr_ok I4 ea2 c n hl rz fun s5 I5 => ⟨σ, _, I5, q3⟩
end
end L2
namespace L2
open PySem PySem.Spec PyProof.Rows
section
variable {X : Cx} {K : PySem.W.Frag}
noncomputable def rStrA : List V → Hp → VK → Prop := fun xs H Q => (∃ i, xs = [.int i] ∧ i.natAbs.log2 < 1920 ∧ Q (.str (toString i)) H) ∨ (xs = [.non] ∧ Q (.str "None") H)
theorem call_strA : CallR X (.type "str") rStrA := by
  intro pins s σ H xs us Q I r h
  rcases h with h | ⟨rfl, q⟩
  · exact call_str_int pins s σ H xs us Q I r h
  · obtain ⟨u, rfl, r1⟩ := vals1 r
    cases r1
    exact PySem.P.str_of_none ⟨.str _, H, I.tok _, ⟨_, rfl⟩, q⟩
noncomputable def rNiTab (a : Addr) (N : List Str) : R2 := fun x y H Q => y = .ref a ∧ ∃ s, x = .str s ∧ Q (.bl (!(N.any fun y => decide (y = s)))) H
theorem op_notInTab {a : Addr} {N : List Str} (TA : TabN X.w X.K a N) (hs : (a == sysModules) = false) : OpR X (compareOp .NotIn) (rNiTab a N) := by
  intro pins s σ H x y v u Q I rx ry h
  obtain ⟨rfl, z, rfl, q⟩ := h
  cases (show u = Value.ref a from ry)
  obtain ⟨es, n, hl, hk, hN⟩ := TA
  have hall : ∀ e ∈ es.toList, ∃ x t, e.key = .str x t ∧ e.hash = PyData.keyHash X.w.params x := hk.all
  have hm : s.heap.MapOf (anyKind X.prog X.w) a (fun k => findBy anyIs es k) := ⟨_, es, n, I.kIn _ _ hl, ⟨rfl, rfl, rfl⟩, rfl, fun e he => by
    obtain ⟨x, t, e1, e2⟩ := hall e (Array.mem_toList_iff.mpr he)
    exact ⟨some (.inr x), by rw [e1]; exact anyIs_of (keyIs_str x t), e2⟩, fun _ => rfl⟩
  obtain ⟨tk, rfl⟩ := rx
  refine wpAny_notIn_of (knd := anyKind X.prog X.w) (k := some (.inr z)) (anyIs_of (keyIs_str z tk)) hs hm ?_
  have e : (findBy anyIs es (some (.inr z))).isSome = N.any fun y => decide (y = z) := by
    unfold findBy
    rw [Option.isSome_map, ← Array.find?_toList, Bool.eq_iff_iff, List.find?_isSome, ← hN, List.any_map, List.any_eq_true]
    constructor
    · rintro ⟨e, he, h2⟩
      obtain ⟨x, t, e1, _⟩ := hall e he
      refine ⟨e, he, ?_⟩
      rw [e1] at h2
      rcases anyIs_shape h2 with ⟨z1, z2⟩ | ⟨_, _, z1, z2⟩ | ⟨y, t', z1, z2⟩ | ⟨_, z1, z2⟩
      · cases z2
      · cases z2
      · cases z1; cases z2; simp [keyS, e1]
      · cases z1
    · rintro ⟨e, he, h2⟩
      obtain ⟨x, t, e1, _⟩ := hall e he
      refine ⟨e, he, ?_⟩
      simp only [keyS, e1, Function.comp, decide_eq_true_eq] at h2
      rw [e1, h2]
      exact anyIs_of (keyIs_str z t)
  rw [e]
  exact ⟨.bl _, H, I.tok _, rfl, q⟩
noncomputable def Itlv (K : PySem.W.Frag) (a : Addr) (n : Nat) : It :=
  ⟨fun i H => ∃ xs x, SqL K H a xs ∧ xs.length = n ∧ i < n ∧ xs[n - 1 - i]? = some x,
   fun i H v H' => H' = H ∧ ∀ xs, SqL K H a xs → xs[n - 1 - i]? = some v,
   fun i H => n ≤ i⟩
theorem turn_revL {P : Program} {w : World} {K : PySem.W.Frag} {tg : Expr} (a z : Addr) (n : Nat) :
    Turn P w K tg (Itlv K a n) [z] z (fun i h => i ≤ n ∧ h.IsRevIter z a ((n : Int) - 1 - i)) where
  mem := by simp
  obj := fun i h st c hc => by
    rw [List.mem_singleton.mp hc]
    obtain ⟨_, o, e, c, d⟩ := st
    exact ⟨o, e, fun v z => by rw [d] at z; cases z⟩
  keep := fun i h h' st k => ⟨st.1, st.2.at fun o e => k z (by simp) o e⟩
  item := by
    intro X hP hw hK hc i pins s σ H E In hf st hg
    subst hP hw hK
    obtain ⟨xs, x, hq, hn, hi, hx⟩ := hg
    obtain ⟨its, rv, p, hz⟩ := In.list hq
    obtain ⟨u, hu, ru⟩ := rv.get hx
    have e1 : (n : Int) - 1 - i = ((n - 1 - i : Nat) : Int) := by omega
    obtain ⟨_, st⟩ := st
    rw [e1] at st
    obtain ⟨f0, f1, f2, f3, f4, f5⟩ := hf z (by simp)
    refine wpAny_pyNext_rev_item st p.isList (x := u) (by simpa using hu) fun h' st' sb => ?_
    have I1 : Inv X pins σ H { s with heap := h' } := In.turned (t' := s.toks) (fun b o hb e => (sb.2 b hb).trans e) f0 f1 f3 f4 f5
    obtain ⟨o, e, c, d⟩ := id st'
    have e2 : ((n - 1 - i : Nat) : Int) - 1 = (n : Int) - 1 - ((i + 1 : Nat) : Int) := by omega
    rw [e2] at st'
    exact ⟨u, rfl, go_of (s := { s with heap := h' }) e c d (by decide) ⟨x, H, I1, ru, ⟨rfl, fun ys hy => by rw [In.list_inj hy hq]; exact hx⟩, ⟨hi, st'⟩, fun b hb => (hf b hb).1⟩⟩
  done := by
    intro X hP hw hK hc i pins s σ H E In hf st hg
    subst hP hw hK
    have hg : n ≤ i := hg
    obtain ⟨hi, st⟩ := st
    have e1 : (n : Int) - 1 - i = -1 := by omega
    rw [e1] at st
    obtain ⟨f0, f1, f2, f3, f4, f5⟩ := hf z (by simp)
    exact wpAny_pyNext_rev_end (In.ok.hd hc) st fun g hk => ⟨rfl, In.turned (t' := s.toks) (fun b o hb e => hk b o hb e) f0 f1 f3 f4 f5⟩
  self := fun _ _ _ _ _ st h => wpAny_pyIter_revIter st.2 h
noncomputable def iVL (K : PySem.W.Frag) (ta : TA) : TI := fun σ H R => ta σ H fun vs H1 => ∃ a, vs = [.ref a] ∧ ∃ xs, H1 a = some (.lst xs) ∧ R (Itlv K a xs.length) H1
theorem pi_revL {e1 tg : Expr} {ta : TA} {p pos : Pos} (hK : X.K = K) (hg : Gl X "reversed") (hm : X.mg "reversed" = none) (ha : PA X [e1] ta) (hs : starEach [e1] X.env = [(false, eval e1 X.env)] := by rfl) :
    PI X tg (.Call (.Name "reversed" p) [e1] [] pos) (iVL K ta) := by
  subst hK
  intro pins s σ H R I h
  refine Call_ (ld_blt I hg hm boot_rev' (PyProof.Rows.callWith_type1 (thn (ha pos pins s σ H _ I h) fun us s1 ⟨vs, H1, I1, r1, q1⟩ => ?_) (by rw [hs]; rfl) rfl))
  obtain ⟨a, e, xs, hxs, q⟩ := q1
  subst e
  obtain ⟨u, rfl, ru⟩ := vals1 r1
  cases ru
  obtain ⟨its, rv, pl, hz⟩ := I1.list (SqL.of hxs)
  have hl := rv.length
  have ez : ((its.toArray.size : Nat) : Int) - 1 = (xs.length : Int) - 1 - ((0 : Nat) : Int) := by simp [hl]
  refine call_reversed_list pl.isList ?_
  rw [ez]
  have gr : (s1.heap.push (revObj a ((xs.length : Int) - 1 - ((0 : Nat) : Int)))).IsRevIter s1.heap.objs.size a ((xs.length : Int) - 1 - ((0 : Nat) : Int)) := ⟨_, Heap.get?_push_size _ rfl, rfl, rfl⟩
  have hfr : H1 s1.heap.objs.size = none := I1.hok.fresh (Nat.le_refl _)
  refine wpAny_pyIter_revIter (s := { s1 with heap := _ }) gr ⟨s1.heap.objs.size, [s1.heap.objs.size], _, _, H1, rfl, I1.kept (t' := s1.toks) fun b o e => Heap.get?_push_of_some _ e, turn_revL a s1.heap.objs.size xs.length, ⟨Nat.zero_le _, gr⟩, fun c hc => ?_, q⟩
  rw [List.mem_singleton.mp hc]
  exact I1.fpOk (Nat.le_refl _) hfr
theorem wlk_revL {a : Addr} {xs : List V} : Wlk (Itlv K a xs.length) xs.reverse (fun H => SqL K H a xs) :=
  ⟨fun i H h hi => by
    have hi : i < xs.length := by simpa using hi
    exact ⟨xs, xs[xs.length - 1 - i], h, rfl, hi, by simp⟩, fun i H x H' h hi y => ⟨by
    have hi : i < xs.length := by simpa using hi
    rw [List.getElem?_reverse hi]; exact y.2 xs h, y.1⟩, fun i H h hi => (by simpa using hi : xs.length ≤ i)⟩
end
end L2
namespace L2
open PySem PySem.Spec PyProof.Rows
noncomputable def Mints {α : Type} (t : Sem α) : Prop := ∀ (M : Model) (Γ : PySem.Ctx) (Q : α → Pos → Shared → Prop) (E : Value → Pos → Shared → Prop) (p : Pos) (s : Shared), Sem.wp M Γ t Q E p s → Sem.wp M Γ t (fun a p' s' => 1 ≤ s'.toks ∧ Q a p' s') (fun e p' s' => 1 ≤ s'.toks ∧ E e p' s') p s
theorem Mints.fresh {α : Type} {k : Tok → Sem α} : Mints (.fresh k) := fun M Γ Q E p s h => by
  rw [Sem.wp_fresh] at h ⊢
  exact Sem.wp_toks M Γ 1 _ _ _ _ _ (Nat.succ_le_succ (Nat.zero_le _)) h
theorem Mints.at {α : Type} {p' : Pos} {k : Unit → Sem α} (m : Mints (k ())) : Mints (.at p' k) := fun M Γ Q E p s h => by
  rw [Sem.wp_at] at h ⊢
  exact m M Γ Q E p' s h
noncomputable def PSk (X : Cx) (st : List Stmt) (t : TS) : Prop :=
  ∀ (pins : List (Addr × Obj)) (s : Shared) (σ : St) (H : Hp) (D : Ends), Inv X pins σ H s → 1 ≤ s.toks → t D σ H → wpAny (model X.prog X.w) X.A (execs st X.env) (SP X pins D) X.xe s
noncomputable def PEk (X : Cx) (e : Expr) (t : TE) : Prop :=
  ∀ (pins : List (Addr × Obj)) (s : Shared) (σ : St) (H : Hp) (Q : VK), Inv X pins σ H s → 1 ≤ s.toks → t σ H Q → wpAny (model X.prog X.w) X.A (eval e X.env) (EP X pins σ Q) X.xe s
section
variable {X : Cx} {st : Stmt} {rest : List Stmt} {t u : TS}
theorem psk_cons (h1 : PS X st t) (h2 : PSk X rest u) : PSk X (st :: rest) (tSeq t u) := by
  intro pins s σ H D I hk h
  refine wpAny_execs_cons (wpAny_mono (wpAny_toks_of hk (h1 pins s σ H { D with nx := u D } I h)) (fun f s1 zr5539 => ?_) fun _ _ x => x.2)
  obtain ⟨hn, q⟩ := zr5539
  cases f with
  | next =>
    obtain ⟨σ', H', I', q⟩ := q
    exact h2 pins s1 σ' H' D I' hn q
  | ret v => exact q
  | brk => exact q
  | cont => exact q
theorem pss_mint (m : Mints (exec st X.env)) (h1 : PS X st t) (h2 : PSk X rest u) : PSs X (st :: rest) (tSeq t u) := by
  intro pins s σ H D I h
  have h1' : wpAny (model X.prog X.w) X.A (exec st X.env) (fun f s' => 1 ≤ s'.toks ∧ SP X pins { D with nx := u D } f s') (fun e s' => 1 ≤ s'.toks ∧ X.xe e s') s := fun Γ p hΓ => m _ Γ _ _ p s (h1 pins s σ H { D with nx := u D } I h Γ p hΓ)
  refine wpAny_execs_cons (wpAny_mono h1' (fun f s1 zr5550 => ?_) fun _ _ x => x.2)
  obtain ⟨hn, q⟩ := zr5550
  cases f with
  | next =>
    obtain ⟨σ', H', I', q⟩ := q
    exact h2 pins s1 σ' H' D I' hn q
  | ret v => exact q
  | brk => exact q
  | cont => exact q
theorem psk_set {i : Nat} {x : Str} {e : Expr} {te : TE} {pos pos' : Pos} (hN : X.N.Nodup) (hi : X.N[i]? = some x) (hx : Loc X.env.scope x) (he : PEk X e te) (h2 : PSs X rest u) (hs : swapsWith e (some (.Name x pos')) pos.line X.env = pure false := by rfl) (hf : X.fn x = true ∨ X.env.scope.names.lookup x = some .local := by first | exact .inl rfl | exact .inr rfl | assumption) :
    PSk X (.Assign [.Name x pos'] e pos :: rest) (tSeq (tAsg te (gName i)) u) := by
  intro pins s σ H D I hk h
  refine wpAny_execs_cons (wpAny_Assign_Name (thn (he pins s σ H _ I hk h) fun v s1 zr5561 => ?_) hs)
  obtain ⟨y, H1, I1, r1, q1⟩ := zr5561
  exact store_ok I1 hN hi hx r1 (fun s2 I2 => h2 pins s2 _ H1 D I2 q1) hf
noncomputable abbrev cS (x : Str) (j : Nat) (p : Pos) : Expr := .Constant (.str x) j p
noncomputable abbrev l3 (a : Str) (ja : Nat) (pa : Pos) (b : Str) (jb : Nat) (pb : Pos) (c : Str) (jc : Nat) (pc lp : Pos) : Expr := .List [cS a ja pa, cS b jb pb, cS c jc pc] lp
noncomputable def tRepl (y : Str) (zs : List Str) (to ti : TE) : TE := fun σ H Q => to σ H fun x H1 => ∃ z, x = .str z ∧ z.length ≤ 100000 ∧ ti σ H1 fun v H2 => ∃ i, v = .int i ∧ 0 ≤ i ∧ ∃ w, zs[i.toNat]? = some w ∧ w.length ≤ 10 ∧ Q (.str (Txt.replace z y w)) H2
theorem pek_repl {o idx : Expr} {to ti : TE} {y a b c : Str} {j1 ja jb jc : Nat} {p1 pa pb pc lp sp apos cpos : Pos} (nb : NoneBooked X.base) (ho : PE X o to) (hi : PE X idx ti)
    (hsl : PlainIx idx)
    (hbase : attributeBase o "replace" X.env (eval o X.env) = eval o X.env := by rfl)
    (hfew : ((backTo cpos (starEach [cS y j1 p1, .Subscript (l3 a ja pa b jb pb c jc pc lp) idx sp] X.env)).all (fun x => !x.1) && (backToKw cpos (keywordEach [] X.env)).all (fun x => x.1.isSome)
      && decide (([cS y j1 p1, .Subscript (l3 a ja pa b jb pb c jc pc lp) idx sp] : List Expr).length + ([] : List Keyword).length + (if ([] : List Keyword).isEmpty then 0 else 1) < 30)) = true := by rfl)
    (hline : (apos.endLine == cpos.line) = true := by rfl) :
    PEk X (.Call (.Attribute o "replace" apos) [cS y j1 p1, .Subscript (l3 a ja pa b jb pb c jc pc lp) idx sp] [] cpos) (tRepl y [a, b, c] to ti) := by
  intro pins s σ H Q I hk h
  refine wpAny_Call_method_late hbase hfew hline rfl (wpAny_mono (wpAny_toks_of hk (ho pins s σ H _ I h)) (fun v s1 zr5574 => ?_) fun _ _ x => x.2)
  obtain ⟨hk1, x, H1, I1, r1, z, ex, hz, q1⟩ := zr5574
  subst ex
  obtain ⟨h1, h2⟩ := tyV_is I1 r1 (show tyV X.K "str" (.str z) H1 from rfl)
  refine ⟨"str", "str.replace", PySem.F.plainAttrs_str, PySem.F.slot_str_replace, PySem.F.type_str_replace, h1, h2, ?_⟩
  obtain ⟨tz, rfl⟩ := r1
  refine Calls.callWith_builtin (by rfl) (Calls.evalArgs_plain ?_)
  show wpAny _ _ (spliced ((false, eval (cS y j1 p1) X.env) :: backTo cpos [(false, eval (.Subscript (l3 a ja pa b jb pb c jc pc lp) idx sp) X.env)])) _ _ s1
  refine Calls.spliced_cons (Calls.Constant_str ?_)
  refine Calls.spliced_cons (Subscript_ (wpAny_List_spliced ?_))
  refine Calls.spliced_cons (Calls.Constant_str (k := ja) (pos := pa) (Calls.spliced_cons (Calls.Constant_str (k := jb) (pos := pb) (Calls.spliced_cons (Calls.Constant_str (k := jc) (pos := pc) (Calls.spliced_nil ⟨by show 3 ≤ sizeLine; decide, ?_⟩))))))
  have gD : (s1.heap.push { cls := .type "list", data := .seq [Value.str a (s1.toks + 1), .str b (s1.toks + 1 + 1), .str c (s1.toks + 1 + 1 + 1)].toArray }).get? s1.heap.objs.size = some _ := Heap.get?_push_size _ rfl
  have I2 : Inv X pins σ H1 { s1 with heap := s1.heap.push { cls := .type "list", data := .seq [Value.str a (s1.toks + 1), .str b (s1.toks + 1 + 1), .str c (s1.toks + 1 + 1 + 1)].toArray }, toks := s1.toks + 1 + 1 + 1 + 1 } := I1.kept fun b o e => Heap.get?_push_of_some _ e
  have I2' := I2.pinned (fp := [s1.heap.objs.size]) (fun b hb => by
    rw [List.mem_singleton.mp hb]
    exact I1.fpOk (Nat.le_refl _) (I1.hok.fresh (Nat.le_refl _))) (fun b hb => by
    rw [List.mem_singleton.mp hb]
    exact ⟨_, gD, fun v z => by cases z⟩)
  refine thn (hi _ _ σ H1 _ I2' q1) fun u s3 zr5591 => ?_
  obtain ⟨v, H2, I3, ru, i, ev, h0, w, hw, hwl, q⟩ := zr5591
  subst ev
  obtain ⟨ti, rfl⟩ := ru
  have g3 := (I3.pin (s1.heap.objs.size, _) (List.mem_append_right _ (List.mem_append_right _ (mem_pinsAt (List.mem_singleton.mpr rfl) gD)))).1
  have I4 := I3.unpinned
  have nb3 : NoneBooked s3.heap := by
    obtain ⟨mc, hn, hk⟩ := nb
    exact ⟨mc, hn.keeps I4.bk, hk⟩
  have hi3 : i.toNat < 3 := by
    have := (List.getElem?_eq_some_iff.mp hw).1
    simpa using this
  obtain ⟨tv, hx, hv0, hv1⟩ : ∃ tv, ([Value.str a (s1.toks + 1), .str b (s1.toks + 1 + 1), .str c (s1.toks + 1 + 1 + 1)].toArray)[i.toNat]? = some (.str w tv) ∧ tv ≠ 0 ∧ s1.toks ≠ tv := by
    obtain h | h | h : i.toNat = 0 ∨ i.toNat = 1 ∨ i.toNat = 2 := by omega
    · rw [h] at hw ⊢
      cases Option.some.inj hw
      exact ⟨_, rfl, by show @Ne Nat _ _; omega, by show @Ne Nat _ _; omega⟩
    · rw [h] at hw ⊢
      cases Option.some.inj hw
      exact ⟨_, rfl, by show @Ne Nat _ _; omega, by show @Ne Nat _ _; omega⟩
    · rw [h] at hw ⊢
      cases Option.some.inj hw
      exact ⟨_, rfl, by show @Ne Nat _ _; omega, by show @Ne Nat _ _; omega⟩
  refine item_listR ⟨_, g3, rfl, _, rfl⟩ h0 (by omega) hx (Calls.spliced_nil ?_) (hsl _ _)
  refine SC.replaceA (by show @Ne Nat _ _; omega) hv0 hv1 ?_ (fun t' k => ⟨.str _, H2, I4.tok k, ⟨t', rfl⟩, q⟩) nb3
  have : (z.length + 1) * w.length ≤ 100001 * 10 := Nat.mul_le_mul (by omega) hwl
  omega
end
end L2
namespace L2
open PySem PySem.Spec PyProof.Rows PySem.Builtin.Str
noncomputable def spl (c : Nat) : List Nat → List (List Nat)
  | [] => [[]]
  | a :: l => if a = c then [] :: spl c l else (a :: (spl c l).headD []) :: (spl c l).tail
theorem spl_ne (c : Nat) : ∀ l, spl c l ≠ []
  | [] => by simp [spl]
  | a :: l => by unfold spl; split <;> simp
theorem spl_free {c : Nat} : ∀ {l : List Nat}, c ∉ l → spl c l = [l]
  | [], _ => rfl
  | a :: l, h => by
    have h1 : ¬ a = c := fun e => h (by simp [e])
    have h2 : c ∉ l := fun e => h (by simp [e])
    rw [spl, if_neg h1, spl_free h2]; rfl
theorem spl_app {c : Nat} : ∀ (a b : List Nat), spl c (a ++ c :: b) = spl c a ++ spl c b
  | [], b => by simp [spl]
  | x :: a, b => by
    have ih := spl_app (c := c) a b
    rw [List.cons_append, spl, spl]
    by_cases h : x = c
    · rw [if_pos h, if_pos h, ih]; rfl
    · rw [if_neg h, if_neg h, ih]
      cases hs : spl c a with
      | nil => exact absurd hs (spl_ne c a)
      | cons w r => rfl
noncomputable abbrev sg (x : Str) : List Nat := x.cps.toList
theorem sg_app (a b : Str) : sg (a ++ b) = sg a ++ sg b := by show (a.cps ++ b.cps).toList = _; simp
theorem sg_inj {a b : Str} (h : sg a = sg b) : a = b := by
  obtain ⟨⟨a⟩⟩ := a
  obtain ⟨⟨b⟩⟩ := b
  cases h
  rfl
noncomputable def jn (sep : List Nat) : List (List Nat) → List Nat
  | [] => []
  | [x] => x
  | x :: y :: r => x ++ sep ++ jn sep (y :: r)
theorem sg_join (sep : Str) : ∀ ws : List Str, sg (Str.join sep ws) = jn (sg sep) (ws.map sg)
  | [] => rfl
  | [x] => rfl
  | x :: y :: r => by
    show sg (x ++ sep ++ Str.join sep (y :: r)) = sg x ++ sg sep ++ jn (sg sep) ((y :: r).map sg)
    rw [sg_app, sg_app, sg_join sep (y :: r)]
theorem spl_jn {c : Nat} : ∀ {ws : List (List Nat)}, ws ≠ [] → (∀ w ∈ ws, c ∉ w) → spl c (jn [c] ws) = ws
  | [], h, _ => absurd rfl h
  | [x], _, h => spl_free (h x (by simp))
  | x :: y :: r, _, h => by
    show spl c (x ++ [c] ++ jn [c] (y :: r)) = _
    rw [List.append_assoc, List.singleton_append, spl_app, spl_free (h x (by simp)), spl_jn (by simp) fun w hw => h w (by simp [List.mem_cons.mp hw])]
    rfl
theorem split_ne (x y : Str) : Txt.split x y ≠ [] := by
  unfold Txt.split
  split
  · simp
  · split
    · simp
    · rw [StrLaws.partsBetween_eq]
      obtain ⟨p, r, e⟩ := StrLaws.partsFrom_ne x y.length 0 (occurrences x y 0 x.length (x.length + 1))
      rw [e]; simp
theorem split_spl (x : Str) (c : Nat) : (Txt.split x ⟨#[c]⟩).map sg = spl c (sg x) := by
  have h := congrArg sg (StrLaws.join_split x ⟨#[c]⟩)
  rw [sg_join] at h
  rw [← h]
  refine (spl_jn (by intro z; exact split_ne x ⟨#[c]⟩ (List.map_eq_nil_iff.mp z)) fun w hw => ?_).symm
  obtain ⟨p, hp, rfl⟩ := List.mem_map.mp hw
  exact StrLaws.split_free x c p hp
theorem map_sg_inj : ∀ {a b : List Str}, a.map sg = b.map sg → a = b
  | [], [], _ => rfl
  | [], _ :: _, h => by cases h
  | _ :: _, [], h => by cases h
  | x :: a, y :: b, h => by
    rw [List.map_cons, List.map_cons] at h
    injection h with h1 h2
    rw [sg_inj h1, map_sg_inj h2]
noncomputable def wrd (l : List Nat) : List (List Nat) := (spl 32 l).filter fun w => !w.isEmpty
theorem wrd_app (a b : List Nat) : wrd (a ++ 32 :: b) = wrd a ++ wrd b := by unfold wrd; rw [spl_app, List.filter_append]
theorem wrd_one {l : List Nat} (h : 32 ∉ l) (h0 : l ≠ []) : wrd l = [l] := by
  unfold wrd
  rw [spl_free h]
  cases l with
  | nil => exact absurd rfl h0
  | cons a l => rfl
theorem wrd_bl (l : List Nat) : wrd (32 :: l) = wrd l := wrd_app [] l
theorem wrd_pre (l : List Nat) : ∀ n, wrd (List.replicate n 32 ++ l) = wrd l
  | 0 => rfl
  | n + 1 => by rw [List.replicate_succ, List.cons_append, wrd_bl, wrd_pre l n]
theorem wrd_post (l : List Nat) : ∀ n, wrd (l ++ List.replicate n 32) = wrd l
  | 0 => by simp
  | n + 1 => by
    rw [List.replicate_succ, wrd_app]
    have := wrd_post [] n
    rw [List.nil_append] at this
    rw [this]; simp [wrd, spl]
theorem wrd_jn (n : Nat) : ∀ {ws : List (List Nat)}, (∀ w ∈ ws, 32 ∉ w ∧ w ≠ []) → wrd (jn (List.replicate (n + 1) 32) ws) = ws
  | [], _ => rfl
  | [x], h => wrd_one (h x (by simp)).1 (h x (by simp)).2
  | x :: y :: r, h => by
    show wrd (x ++ List.replicate (n + 1) 32 ++ jn (List.replicate (n + 1) 32) (y :: r)) = _
    rw [List.append_assoc, List.replicate_succ, List.cons_append, wrd_app, ← List.replicate_succ, wrd_one (h x (by simp)).1 (h x (by simp)).2, wrd_pre, wrd_jn n fun w hw => h w (by simp [List.mem_cons.mp hw])]
    rfl
theorem split_words {x : Str} {ws : List Str} (h : wrd (sg x) = ws.map sg) : (Txt.split x ⟨#[32]⟩).filter (fun w => !decide (w = Str.empty)) = ws := by
  refine map_sg_inj ?_
  rw [← h]
  unfold wrd
  rw [← split_spl, List.filter_map]
  congr 1
  refine List.filter_congr fun w _ => ?_
  obtain ⟨⟨l⟩⟩ := w
  cases l with
  | nil => rfl
  | cons a l =>
    show (!decide (_ = _)) = (!List.isEmpty (a :: l))
    rw [decide_eq_false (fun e => by have := congrArg sg e; cases this)]
    rfl
theorem part_first {x : Str} {c : Nat} {a t : List Nat} (hx : sg x = a ++ t) (ha : c ∉ a) (ht : t = [] ∨ ∃ t', t = c :: t') : sg (Txt.partition x ⟨#[c]⟩).1 = a := by
  have at_iff : ∀ i, StrLaws.At x ⟨#[c]⟩ x.length i ↔ (sg x)[i]? = some c := fun i => StrLaws.subAt_one x c i
  rcases partition_head x ⟨#[c]⟩ with ⟨e, hn⟩ | ⟨i, e, hi, hf⟩
  · rw [e, hx]
    rcases ht with rfl | ⟨t', rfl⟩
    · simp
    · exact absurd ((at_iff a.length).mpr (by rw [hx]; simp)) (hn _)
  · rw [at_iff, hx] at hi
    have h1 : a.length ≤ i := by
      rcases Nat.lt_or_ge i a.length with z | z
      · rw [List.getElem?_append_left z] at hi
        exact absurd (List.mem_of_getElem? hi) ha
      · exact z
    have h2 : i = a.length := by
      rcases ht with rfl | ⟨t', rfl⟩
      · rw [List.append_nil] at hi
        exact absurd (List.mem_of_getElem? hi) ha
      · rcases Nat.lt_or_ge a.length i with z | z
        · exact absurd ((at_iff a.length).mpr (by rw [hx]; simp)) (hf _ z)
        · omega
    rw [e, h2]
    show (x.cps.extract 0 a.length).toList = a
    rw [Array.toList_extract]
    show ((sg x).extract 0 a.length) = a
    rw [hx]
    simp
theorem replace_join {x z : Str} {ws : List Str} (h0 : ws ≠ []) (hf : ∀ w ∈ ws, 32 ∉ sg w) (hx : x = Str.join ⟨#[32]⟩ ws) : Txt.replace x ⟨#[32]⟩ z = Str.join z ws := by
  rw [StrLaws.replace_one]
  congr 1
  refine map_sg_inj ?_
  rw [split_spl, hx, sg_join]
  refine spl_jn (by simpa using h0) fun w hw => ?_
  obtain ⟨p, hp, rfl⟩ := List.mem_map.mp hw
  exact hf p hp
open PySem.NumText
theorem sg_int (i : Int) : sg (Str.ofString (toString i)) = if i < 0 then 45 :: (Nat.toDigits 10 i.natAbs).map Char.toNat else (Nat.toDigits 10 i.natAbs).map Char.toNat := by
  cases i with
  | ofNat m =>
    rw [if_neg (by simp)]
    exact PySem.W.KIN.signs_num m
  | negSucc m =>
    rw [if_pos (Int.negSucc_lt_zero m)]
    show sg (Str.ofString (toString (Int.negSucc m))) = 45 :: (Nat.toDigits 10 (m + 1)).map Char.toNat
    unfold sg
    rw [signs_ofString]
    show ("-" ++ Nat.repr (m + 1)).toList.map Char.toNat = _
    rw [String.toList_append, Nat.toList_repr]
    rfl
theorem dig_all (m : Nat) : AllDigits ((Nat.toDigits 10 m).map Char.toNat) := fun c hc => by
  obtain ⟨ch, hch, e⟩ := List.mem_map.mp hc
  have r := digit_range (Nat.isDigit_of_mem_toDigits (by decide) (by decide) hch)
  rw [← e]
  exact r
theorem dig_ne (m : Nat) : (Nat.toDigits 10 m).map Char.toNat ≠ [] := fun e => by
  have h := toDigits_len_ge 10 m
  rw [List.map_eq_nil_iff.mp e] at h
  exact absurd h (by decide)
theorem dig_head : ∀ (m : Nat), m ≠ 0 → ((Nat.toDigits 10 m).map Char.toNat).headD 48 ≠ 48 := by
  intro m
  induction m using Nat.strongRecOn with
  | _ m ih =>
    intro h0
    by_cases h : m < 10
    · rw [Nat.toDigits_of_lt_base h]
      have : ∀ d : Nat, d < 10 → d ≠ 0 → ([Nat.digitChar d].map Char.toNat).headD 48 ≠ 48 := by decide
      exact this m h h0
    · have hm : m % 10 < 10 := Nat.mod_lt m (by decide)
      have t : Nat.toDigits 10 (m / 10) ++ Nat.toDigits 10 (m % 10) = Nat.toDigits 10 (10 * (m / 10) + m % 10) := Nat.toDigits_append_toDigits (by decide) (by omega) hm
      rw [Nat.div_add_mod] at t
      have := ih (m / 10) (by omega) (by omega)
      rw [← t, List.map_append]
      cases hd : (Nat.toDigits 10 (m / 10)).map Char.toNat with
      | nil => exact absurd hd (dig_ne _)
      | cons a l => rw [hd] at this; exact this
noncomputable def figs (w : Str) : List Nat := if (sg w).head? = some 45 then (sg w).drop 1 else sg w
noncomputable def digB (c : Nat) : Bool := decide (48 ≤ c) && decide (c ≤ 57)
noncomputable def numB (w : Str) : Option Int := if 1 ≤ (figs w).length ∧ (figs w).length ≤ 14 ∧ (figs w).all digB = true ∧ ¬ ((figs w).headD 0 = 48 ∧ sg w ≠ [48]) then some (if (sg w).head? = some 45 then -(digitsVal (figs w) : Int) else digitsVal (figs w)) else none
theorem all_dig {l : List Nat} : l.all digB = true ↔ AllDigits l := by
  simp [AllDigits, digB]
theorem num_text {w : Str} {n : Int} (h : numB w = some n) : intText? w = some n ∧ w.length ≤ 15 := by
  unfold numB at h
  split at h
  · rename_i hc
    obtain ⟨h1, h2, h3, _⟩ := hc
    have h := Option.some.inj h
    rw [all_dig] at h3
    have hl : w.length = (sg w).length := by simp [Str.length, sg]
    by_cases hm : (sg w).head? = some 45
    · have ef : figs w = (sg w).drop 1 := if_pos hm
      have ew : w.cps.toList = 45 :: figs w := by
        rw [ef]
        show sg w = _
        cases e : sg w with
        | nil => rw [e] at hm; cases hm
        | cons a l => rw [e] at hm; cases hm; rfl
      have hlen : w.length = 1 + (figs w).length := by rw [hl]; show w.cps.toList.length = _; rw [ew]; simp [Nat.add_comm]
      rw [if_pos hm] at h
      rw [← h]
      exact ⟨intText_neg ew h3 (by intro z; rw [z] at h1; simp at h1) (by omega), by omega⟩
    · have ef : figs w = sg w := if_neg hm
      rw [if_neg hm] at h
      rw [← h]
      rw [ef] at h1 h2 h3 ⊢
      exact ⟨intText_digits h3 (by intro z; have : (sg w).length = 0 := by rw [show sg w = [] from z]; rfl
                                   omega) (by omega), by omega⟩
  · cases h
theorem num_int {i : Int} (h : i.natAbs < 10 ^ 14) : numB (Str.ofString (toString i)) = some i := by
  have hd := dig_all i.natAbs
  have hn := dig_ne i.natAbs
  have hh := dig_head i.natAbs
  have hl : ((Nat.toDigits 10 i.natAbs).map Char.toNat).length ≤ 14 := by rw [List.length_map]; exact toDigits_len_pow (by decide) (by decide) h
  have hv := PySem.W.KIN.val_back i.natAbs
  have e := sg_int i
  have h45 : ∀ l : List Nat, AllDigits l → ¬ l.head? = some 45 := fun l hl z => by
    cases l with
    | nil => cases z
    | cons a l => cases z; have := hl 45 (by simp); omega
  by_cases hi : i < 0
  · rw [if_pos hi] at e
    have ef : figs (Str.ofString (toString i)) = (Nat.toDigits 10 i.natAbs).map Char.toNat := by unfold figs; rw [e, if_pos (by rfl)]; rfl
    unfold numB
    rw [ef, e, if_pos, if_pos (by rfl), hv]
    · congr 1; omega
    · refine ⟨List.length_pos_iff.mpr hn, hl, all_dig.mpr hd, fun z => ?_⟩
      have := hh (by omega)
      cases hc : (Nat.toDigits 10 i.natAbs).map Char.toNat with
      | nil => exact hn hc
      | cons a l => rw [hc] at this z; exact this z.1
  · rw [if_neg hi] at e
    have ef : figs (Str.ofString (toString i)) = (Nat.toDigits 10 i.natAbs).map Char.toNat := by unfold figs; rw [e, if_neg (h45 _ hd)]
    unfold numB
    rw [ef, e, if_pos, if_neg (h45 _ hd), hv]
    · congr 1; omega
    · refine ⟨List.length_pos_iff.mpr hn, hl, all_dig.mpr hd, fun z => ?_⟩
      by_cases h0 : i.natAbs = 0
      · rw [h0] at z
        exact z.2 (by decide)
      · have := hh h0
        cases hc : (Nat.toDigits 10 i.natAbs).map Char.toNat with
        | nil => exact hn hc
        | cons a l => rw [hc] at this z; exact this z.1
end L2
namespace L2
open PySem PySem.Spec PyProof.Rows
section
variable {X : Cx} {es : List Expr} {t : TA} {pos : Pos}
noncomputable def tLstS (t : TA) : TE := fun σ H Q => t σ H fun xs H1 => xs.length ≤ sizeLine ∧ ∀ p H2, H1 p = none → Same H1 H2 → H2 p = some (.lst xs) → Q (.ref p) H2
theorem pe_lstS (h : PA X es t) : PE X (.List es pos) (tLstS t) := by
  intro pins s σ H Q I hq
  refine wpAny_List_spliced (thn (h pos pins s σ H _ I hq) fun us s1 ⟨xs, H1, I1, r, z, q⟩ => ⟨by rw [← r.length]; exact z, ?_⟩)
  have hf : H1 s1.heap.objs.size = none := I1.hok.fresh (Nat.le_refl _)
  refine ⟨.ref s1.heap.objs.size, upd H1 s1.heap.objs.size (.lst xs), I1.laid (t' := s1.toks) (fun b u e => Heap.get?_push_of_some _ e) (Nat.le_refl _) ?_, rfl, q _ _ hf (Same.upd0 hf) upd_same⟩
  exact ⟨z, us, 0, r, Heap.get?_push_size _ rfl⟩
noncomputable def tTupS (t : TA) : TE := fun σ H Q => t σ H fun xs H1 => xs.length ≤ sizeLine ∧ ∀ p H2, H1 p = none → Same H1 H2 → H2 p = some (.tup xs) → Q (.ref p) H2
theorem pe_tupS {x1} (h : PA X es t) : PE X (.Tuple es x1 pos) (tTupS t) := by
  intro pins s σ H Q I hq
  refine wpAny_Tuple_spliced (thn (h pos pins s σ H _ I hq) fun us s1 ⟨xs, H1, I1, r, z, q⟩ => ⟨by rw [← r.length]; exact z, ?_⟩)
  have hf : H1 s1.heap.objs.size = none := I1.hok.fresh (Nat.le_refl _)
  refine ⟨.ref s1.heap.objs.size, upd H1 s1.heap.objs.size (.tup xs), I1.laid (t' := s1.toks) (fun b u e => Heap.get?_push_of_some _ e) (Nat.le_refl _) ?_, rfl, q _ _ hf (Same.upd0 hf) upd_same⟩
  exact ⟨z, us, r, ⟨_, Heap.get?_push_size _ rfl, rfl, _, rfl⟩⟩
noncomputable def rCLs : R2 := fun x y H Q => ∃ l, x = .ref l ∧ ∃ b, y = .ref b ∧ ∃ xs, H l = some (.lst xs) ∧ ∃ zs, H b = some (.lst zs) ∧ xs.length + zs.length ≤ sizeLine ∧ ∀ p H2, Same H H2 → H2 p = some (.lst (xs ++ zs)) → Q (.ref p) H2
theorem op_catLs : OpR X (binaryOp .Add) rCLs := op_catL.imp fun _ _ _ _ zq32 => by obtain ⟨l, e, b, e2, xs, h, zs, h2, hl, q⟩ := zq32; exact (⟨l, e, b, e2, xs, h, zs, h2, hl, fun p hp => q p _ (Same.upd0 hp) upd_same⟩)
noncomputable def rListTs : List V → Hp → VK → Prop := fun xs H Q => ∃ p, xs = [.ref p] ∧ ∃ ys, H p = some (.tup ys) ∧ ∀ l H2, Same H H2 → H2 l = some (.lst ys) → Q (.ref l) H2
theorem call_listTs : CallR X (.type "list") rListTs := call_listT.imp fun _ _ _ zq33 => by obtain ⟨p, e, ys, h, q⟩ := zq33; exact (⟨p, e, ys, h, fun l hl => q l _ (Same.upd0 hl) upd_same⟩)
noncomputable def rTupLs : List V → Hp → VK → Prop := fun xs H Q => ∃ p, xs = [.ref p] ∧ ∃ ys, H p = some (.lst ys) ∧ ∀ l H2, Same H H2 → H2 l = some (.tup ys) → Q (.ref l) H2
theorem call_tupLs : CallR X (.type "tuple") rTupLs := call_tupL.imp fun _ _ _ zq34 => by obtain ⟨p, e, ys, h, q⟩ := zq34; exact (⟨p, e, ys, h, fun l hl => q l _ (Same.upd0 hl) upd_same⟩)
theorem Same.putN {H H1 : Hp} {p : Addr} {o : HO} (s : Same H H1) (hp : H p = none) : Same H (upd H1 p o) := fun b u e => by
  rw [upd_ne (ne_of_none e hp)]; exact s b u e
theorem comp_filterL {J : It} {xs : List V} {C : Hp → Prop} (w : Wlk J xs C) {tc : TT} {te : TE} {σ0 : St} {Q : VK} {H1 : Hp} {D : Addr} (p : V → Bool) (f : V → V) (hD : H1 D = none) (hC : ∀ H', Same H1 H' → C H') (hn : xs.length ≤ 1000000)
    (hc : ∀ (x : V) (H2 : Hp) (Q2 : Bool → Hp → Prop), x ∈ xs → Same H1 H2 → (∀ H3, Same H2 H3 → Q2 (p x) H3) → tc (σ0.set 0 (some x)) H2 Q2)
    (he : ∀ (x : V) (H2 : Hp) (Q2 : VK), x ∈ xs → p x = true → Same H1 H2 → (∀ H3, Same H2 H3 → Q2 (f x) H3) → te (σ0.set 0 (some x)) H2 Q2)
    (hd : ∀ H2, Same H1 H2 → H2 D = some (.lst ((xs.filter p).map f)) → Q (.ref D) H2) : CompG J σ0 (gName 0) tc te Q H1 D := by
  refine comp_g w (fun i ys H => ys = ((xs.take i).filter p).map f ∧ i ≤ xs.length ∧ Same H1 H ∧ H D = some (.lst ys)) ⟨by simp, Nat.zero_le _, Same.upd0 hD, upd_same⟩ (fun i ys H h => hC _ h.2.2.1) ?_ ?_
  · rintro i x ys H hi hx ⟨rfl, hle, sm, hd⟩
    refine hc x H _ (List.mem_of_getElem? hx) sm fun H3 s3 => ?_
    have hlen : ((xs.take i).filter p).length ≤ xs.length := Nat.le_trans (List.length_filter_le _ _) (by simp; omega)
    cases hp : p x with
    | true =>
      simp only [if_true]
      refine he x H3 _ (List.mem_of_getElem? hx) hp (sm.trans s3) fun H4 s4 => ⟨s4 _ _ (s3 _ _ hd), by simp; exact Nat.lt_of_le_of_lt (Nat.le_trans hlen hn) (by decide), ?_, hi, ?_, upd_same⟩
      · rw [List.take_add_one, hx]; simp [hp]
      · exact fun b o e => by rw [upd_ne (ne_of_none e hD)]; exact s4 _ _ (s3 _ _ (sm b o e))
    | false =>
      simp only [Bool.false_eq_true, if_false]
      exact ⟨by rw [List.take_add_one, hx]; simp [hp], hi, sm.trans s3, s3 _ _ hd⟩
  · rintro ys H ⟨rfl, _, sm, hd'⟩
    rw [List.take_length] at hd'
    exact hd H sm hd'
theorem pe_methF0 {o : Expr} {ta : TE} {m : Str} {apos : Pos} {C : Addr} {k : Nat} {ps : List Str} {sp : Sp} {pl : Sem Bool} (c : Cls X.K C) (F : FnR X.prog X.w X.K X.mg X.base (Meth X.K C m) k ps sp) (hr : Room k X.A) (he : PE X o ta)
    (ht : eval (.Call (.Attribute o m apos) [] [] pos) X.env = (do
      let ov ← eval o X.env
      standAt apos.atName
      let (f, first) ← holding [ov] (getMethod ov m pl)
      callWith pos f first (backTo pos (starEach [] X.env)) (backToKw pos (keywordEach [] X.env))) := by rfl) :
    PE X (.Call (.Attribute o m apos) [] [] pos) (tMethC C m sp ta tNil) := by
  obtain ⟨f, fd, F, hm, b⟩ := F
  intro pins s σ H Q I h
  refine PySem.W.methodCall_KW (pl := pl) (thn (he pins s σ H _ I h) fun u s1 zr5929 => ?_) ht
  obtain ⟨x, H1, I1, rx, a, ex, dx, fs, ea, l, q⟩ := zr5929
  subst ex
  obtain rfl : u = Value.ref a := rx
  refine getmeth_ok I1 ea c hm l ?_
  exact PySem.W.callWith_K0 (first := [.ref a]) I1.kIn hm.kp (run_fn (us := [.ref a]) (vs := [.ref a]) F hr b .nil pass0 I1 (.cons rfl .nil) (by rw [List.append_nil]; exact q))
end
end L2
namespace Lw
open PySem L2
local macro_rules | `(tactic| ctx_has vcx $ids*) => `(tactic| ((try dsimp only [tVarM, List.map, List.append_eq, List.set, L2.start, List.length_cons, List.length_nil, List.replicate, List.cons_append, List.nil_append, Nat.reduceAdd, Nat.reduceSub, Nat.zero_add, Nat.add_zero, tNever, tYes, iStr, iRng1, rIsB, IsB, tCT, rAll, rSum, tSeq, tNext, tIfS, tRet, tDrop, tAsg, gName, tVar, tC, tOp, tUn, tTest, tB, tAnd, tOr, tNot, tAndV, tNotV, tIf, tChain, tCB, tCall, tCons, tNil, tLst, tTup, tDG, sDP, rI0, rI, rU, rEq, rNe, rLenL, rLenT, rIL, rIT, rIS, rSL, rSQ, rST, rSlS, iL, iT, tML, tMS, rmJoin, rmIndex, rCT, rCTs, rSTs, tFldC, sFldC, tMethC, tMakeC, ipI, tIsN, gTupT, gCons, gNil, gSub, rSetLs, rmAppend, rmExtend, rmPop, rmInsert, rCL, rInL, rInM, rListT, rTupL, rCS, rLenS, rLeS, rInS, tListRev, tDisp, tPairs, tLstS, tTupS, rCLs, rListTs, rTupLs, rmStarts, rmPart, rmSplit, rIntS, rStrA, rNiTab, iVL, sAugF, tRepl, rAllL, tSl, tNoPart, tPart, tNotN, List.set_cons_zero, List.set_cons_succ, List.getElem?_cons_zero, List.getElem?_cons_succ, List.map_cons, List.map_nil]); (try simp only [tVarM, tNever, cxK, cpK, tComp_eq, tFor_eq, inner0, inner1, inner2, inner3, Option.join_some, tYes, iStr, iRng1, rIsB, IsB, tCT, rAll, rSum, tSeq, tNext, tIfS, tRet, tDrop, tAsg, gName, tVar, tC, tOp, tUn, tTest, tB, tAnd, tOr, tNot, tAndV, tNotV, tIf, tChain, tCB, tCall, tCons, tNil, tLst, tTup, tDG, sDP, ex_kS, ex_kI, rI0, rI, rU, rEq, rNe, scal_ii, scal_ss, scal_bb, scal_nn, scal_in, scal_si, rLenL, rLenT, rIL, rIT, rIS, rSL, rSQ, rST, rSlS, iL, iT, tML, tMS, rmJoin, rmIndex, rCT, rCTs, rSTs, tFldC, sFldC, tMethC, tMakeC, ipI, tIsN, gTupT, gCons, gNil, atI0, atI1, atI2, atI3, atI4, ofS_inj, gSub, rSetLs, rmAppend, rmExtend, rmPop, rmInsert, rCL, rInL, rInM, rListT, rTupL, rCS, rLenS, rLeS, rInS, tListRev, tDisp, tPairs, HO.dK.injEq, HO.lst.injEq, HO.tup.injEq, HO.ins.injEq, tLstS, tTupS, rCLs, rListTs, rTupLs, rmStarts, rmPart, rmSplit, rIntS, rStrA, rNiTab, iVL, sAugF, tRepl, rAllL, tSl, tNoPart, tPart, L2.start, List.map_cons, List.map_nil, List.length_cons, List.length_nil, List.replicate, List.cons_append, List.nil_append, List.append_nil, List.getElem?_cons_zero, List.getElem?_cons_succ, List.set_cons_zero, List.set_cons_succ, Option.some.injEq, V.int.injEq, V.ref.injEq, V.str.injEq, V.bl.injEq, V.ty.injEq, List.cons.injEq, and_assoc, and_true, true_and, and_self, exists_eq_left, exists_eq_left', exists_eq_right, exists_eq_right', exists_and_left, exists_eq, exists_eq', reduceCtorEq, false_and, and_false, false_or, or_false, exists_false, decide_eq_true_eq, String.reduceEq, String.reduceBEq, Bool.or_true, Bool.true_or, Bool.or_false, Bool.false_or, or_true, true_or, if_true, if_false, Bool.not_eq_true', Nat.reduceAdd, Nat.reduceSub, Nat.zero_add, $[$ids:ident],*]))) | `(tactic| kpf_say ($H:ident, $q:ident, $hq:ident, $hh:ident, $ss:ident) al $G:ident $o) => `(tactic| (refine ⟨by decide, fun $q $hq => ?_⟩; have $hh : upd $H $q $o $q = some $o := upd_same; have $ss : Same $H (upd $H $q $o) := Same.upd0 $hq; generalize upd $H $q $o = $G at $hh:ident $ss:ident ⊢))
variable {P : Program} {w : World} {K : PySem.W.Frag} {mg : Str → Option Value} {base : Heap}
noncomputable abbrev s_number_words : Stmt := top 1
noncomputable abbrev s_parted_words : Stmt := top 2
noncomputable abbrev s_bound_word : Stmt := top 3
noncomputable abbrev s_unlike_words : Stmt := top 4
noncomputable abbrev s_many_words : Stmt := top 5
noncomputable abbrev s_sum_words : Stmt := top 6
noncomputable abbrev s_table_words : Stmt := top 7
noncomputable abbrev s_way_words : Stmt := top 8
noncomputable abbrev s_behind_words : Stmt := top 9
noncomputable abbrev s_same_head_words : Stmt := top 10
noncomputable abbrev s_show_wish : Stmt := top 12
noncomputable abbrev s_is_name : Stmt := top 19
noncomputable abbrev s_words_of : Stmt := top 23
noncomputable abbrev s_number_of : Stmt := top 24
noncomputable abbrev s_Row___init__ : Stmt := inClass (top 25) 0
noncomputable abbrev s_Row_is_done : Stmt := inClass (top 25) 1
noncomputable abbrev s_Row_peek : Stmt := inClass (top 25) 2
noncomputable abbrev s_Row_take_word : Stmt := inClass (top 25) 3
noncomputable abbrev s_Row_take_mark : Stmt := inClass (top 25) 4
noncomputable abbrev s_Row_take_end : Stmt := inClass (top 25) 5
noncomputable abbrev s_Row_take_number : Stmt := inClass (top 25) 6
noncomputable abbrev s_Row_take_numbers : Stmt := inClass (top 25) 7
noncomputable abbrev s_Row_take_some_numbers : Stmt := inClass (top 25) 8
noncomputable abbrev s_Row_take_name : Stmt := inClass (top 25) 9
noncomputable abbrev s_Row_take_some_names : Stmt := inClass (top 25) 10
noncomputable abbrev s_take_unlike : Stmt := top 27
noncomputable abbrev s_take_many : Stmt := top 28
noncomputable abbrev s_take_term : Stmt := top 29
noncomputable abbrev s_take_bound : Stmt := top 30
noncomputable abbrev s_take_sum : Stmt := top 31
noncomputable abbrev s_take_table : Stmt := top 32
noncomputable abbrev s_take_step : Stmt := top 33
noncomputable abbrev s_take_way : Stmt := top 34
noncomputable abbrev s_take_behind : Stmt := top 35
noncomputable abbrev s_take_same_head : Stmt := top 37
noncomputable abbrev s_take_wish : Stmt := top 38
noncomputable abbrev s_read_wish : Stmt := top 39
noncomputable abbrev s__law_deal : Stmt := top 41
noncomputable abbrev s__law_draw : Stmt := top 42
noncomputable abbrev s__law_names : Stmt := top 43
noncomputable abbrev s__law_number : Stmt := top 44
noncomputable abbrev s__law_numbers : Stmt := top 45
noncomputable abbrev s__law_many : Stmt := top 46
noncomputable abbrev s__law_big_sum : Stmt := top 47
noncomputable abbrev s__law_big_rows : Stmt := top 48
noncomputable abbrev s__law_big_way : Stmt := top 49
noncomputable abbrev s__law_big_wish : Stmt := top 50
noncomputable abbrev s__law_pieces : Stmt := top 51
noncomputable abbrev s__law_words : Stmt := top 52
noncomputable abbrev s__law_no_truths : Stmt := top 53
noncomputable abbrev s_law : Stmt := top 54
theorem sc_number_words : FnScope ["numbers"] ["numbers"] (defScope s_number_words) := ⟨rfl, rfl, rfl, by decide +kernel, rfl, by decide +kernel, by decide +kernel⟩
theorem sc_parted_words : FnScope ["rows", "words", "row"] ["rows"] (defScope s_parted_words) := ⟨rfl, rfl, rfl, by decide +kernel, rfl, by decide +kernel, by decide +kernel⟩
theorem sc_bound_word : FnScope ["bound"] ["bound"] (defScope s_bound_word) := ⟨rfl, rfl, rfl, by decide +kernel, rfl, by decide +kernel, by decide +kernel⟩
theorem sc_unlike_words : FnScope ["wish"] ["wish"] (defScope s_unlike_words) := ⟨rfl, rfl, rfl, by decide +kernel, rfl, by decide +kernel, by decide +kernel⟩
theorem sc_many_words : FnScope ["wish"] ["wish"] (defScope s_many_words) := ⟨rfl, rfl, rfl, by decide +kernel, rfl, by decide +kernel, by decide +kernel⟩
theorem sc_sum_words : FnScope ["wish", "words", "term"] ["wish"] (defScope s_sum_words) := ⟨rfl, rfl, rfl, by decide +kernel, rfl, by decide +kernel, by decide +kernel⟩
theorem sc_table_words : FnScope ["wish"] ["wish"] (defScope s_table_words) := ⟨rfl, rfl, rfl, by decide +kernel, rfl, by decide +kernel, by decide +kernel⟩
theorem sc_way_words : FnScope ["wish"] ["wish"] (defScope s_way_words) := ⟨rfl, rfl, rfl, by decide +kernel, rfl, by decide +kernel, by decide +kernel⟩
theorem sc_behind_words : FnScope ["wish"] ["wish"] (defScope s_behind_words) := ⟨rfl, rfl, rfl, by decide +kernel, rfl, by decide +kernel, by decide +kernel⟩
theorem sc_same_head_words : FnScope ["wish"] ["wish"] (defScope s_same_head_words) := ⟨rfl, rfl, rfl, by decide +kernel, rfl, by decide +kernel, by decide +kernel⟩
theorem sc_show_wish : FnScope ["wish", "words", "inner"] ["wish"] (defScope s_show_wish) := ⟨rfl, rfl, rfl, by decide +kernel, rfl, by decide +kernel, by decide +kernel⟩
theorem sc_is_name : FnScope ["thing"] ["thing"] (defScope s_is_name) := ⟨rfl, rfl, rfl, by decide +kernel, rfl, by decide +kernel, by decide +kernel⟩
theorem sc_words_of : FnScope ["text"] ["text"] (defScope s_words_of) := ⟨rfl, rfl, rfl, by decide +kernel, rfl, by decide +kernel, by decide +kernel⟩
theorem sc_number_of : FnScope ["word", "figures"] ["word"] (defScope s_number_of) := ⟨rfl, rfl, rfl, by decide +kernel, rfl, by decide +kernel, by decide +kernel⟩
theorem sc_Row___init__ : FnScope ["self", "text", "line"] ["self", "text", "line"] (defScope s_Row___init__) := ⟨rfl, rfl, rfl, by decide +kernel, rfl, by decide +kernel, by decide +kernel⟩
theorem sc_Row_is_done : FnScope ["self"] ["self"] (defScope s_Row_is_done) := ⟨rfl, rfl, rfl, by decide +kernel, rfl, by decide +kernel, by decide +kernel⟩
theorem sc_Row_peek : FnScope ["self"] ["self"] (defScope s_Row_peek) := ⟨rfl, rfl, rfl, by decide +kernel, rfl, by decide +kernel, by decide +kernel⟩
theorem sc_Row_take_word : FnScope ["self"] ["self"] (defScope s_Row_take_word) := ⟨rfl, rfl, rfl, by decide +kernel, rfl, by decide +kernel, by decide +kernel⟩
theorem sc_Row_take_mark : FnScope ["self", "mark"] ["self", "mark"] (defScope s_Row_take_mark) := ⟨rfl, rfl, rfl, by decide +kernel, rfl, by decide +kernel, by decide +kernel⟩
theorem sc_Row_take_end : FnScope ["self"] ["self"] (defScope s_Row_take_end) := ⟨rfl, rfl, rfl, by decide +kernel, rfl, by decide +kernel, by decide +kernel⟩
theorem sc_Row_take_number : FnScope ["self", "number"] ["self"] (defScope s_Row_take_number) := ⟨rfl, rfl, rfl, by decide +kernel, rfl, by decide +kernel, by decide +kernel⟩
theorem sc_Row_take_numbers : FnScope ["self", "numbers"] ["self"] (defScope s_Row_take_numbers) := ⟨rfl, rfl, rfl, by decide +kernel, rfl, by decide +kernel, by decide +kernel⟩
theorem sc_Row_take_some_numbers : FnScope ["self", "first"] ["self"] (defScope s_Row_take_some_numbers) := ⟨rfl, rfl, rfl, by decide +kernel, rfl, by decide +kernel, by decide +kernel⟩
theorem sc_Row_take_name : FnScope ["self", "name"] ["self"] (defScope s_Row_take_name) := ⟨rfl, rfl, rfl, by decide +kernel, rfl, by decide +kernel, by decide +kernel⟩
theorem sc_Row_take_some_names : FnScope ["self", "names"] ["self"] (defScope s_Row_take_some_names) := ⟨rfl, rfl, rfl, by decide +kernel, rfl, by decide +kernel, by decide +kernel⟩
theorem sc_take_unlike : FnScope ["row"] ["row"] (defScope s_take_unlike) := ⟨rfl, rfl, rfl, by decide +kernel, rfl, by decide +kernel, by decide +kernel⟩
theorem sc_take_many : FnScope ["row", "values", "cells", "low", "high"] ["row"] (defScope s_take_many) := ⟨rfl, rfl, rfl, by decide +kernel, rfl, by decide +kernel, by decide +kernel⟩
theorem sc_take_term : FnScope ["row", "factor", "cell"] ["row"] (defScope s_take_term) := ⟨rfl, rfl, rfl, by decide +kernel, rfl, by decide +kernel, by decide +kernel⟩
theorem sc_take_bound : FnScope ["row"] ["row"] (defScope s_take_bound) := ⟨rfl, rfl, rfl, by decide +kernel, rfl, by decide +kernel, by decide +kernel⟩
theorem sc_take_sum : FnScope ["row", "terms", "low", "high"] ["row"] (defScope s_take_sum) := ⟨rfl, rfl, rfl, by decide +kernel, rfl, by decide +kernel, by decide +kernel⟩
theorem sc_take_table : FnScope ["row", "cells", "rows"] ["row"] (defScope s_take_table) := ⟨rfl, rfl, rfl, by decide +kernel, rfl, by decide +kernel, by decide +kernel⟩
theorem sc_take_step : FnScope ["row", "state", "value", "following"] ["row"] (defScope s_take_step) := ⟨rfl, rfl, rfl, by decide +kernel, rfl, by decide +kernel, by decide +kernel⟩
theorem sc_take_way : FnScope ["row", "cells", "steps", "ends"] ["row"] (defScope s_take_way) := ⟨rfl, rfl, rfl, by decide +kernel, rfl, by decide +kernel, by decide +kernel⟩
theorem sc_take_behind : FnScope ["row", "gap", "cells"] ["row"] (defScope s_take_behind) := ⟨rfl, rfl, rfl, by decide +kernel, rfl, by decide +kernel, by decide +kernel⟩
theorem sc_take_same_head : FnScope ["row", "cell", "values"] ["row"] (defScope s_take_same_head) := ⟨rfl, rfl, rfl, by decide +kernel, rfl, by decide +kernel, by decide +kernel⟩
theorem sc_take_wish : FnScope ["row", "heads", "sort", "wish", "head"] ["row"] (defScope s_take_wish) := ⟨rfl, rfl, rfl, by decide +kernel, rfl, by decide +kernel, by decide +kernel⟩
theorem sc_read_wish : FnScope ["text"] ["text"] (defScope s_read_wish) := ⟨rfl, rfl, rfl, by decide +kernel, rfl, by decide +kernel, by decide +kernel⟩
theorem sc__law_deal : FnScope ["_law_script", "_law_start", "_law_cells", "_law_number_here", "_law_cell"] ["_law_script", "_law_start"] (defScope s__law_deal) := ⟨rfl, rfl, rfl, by decide +kernel, rfl, by decide +kernel, by decide +kernel⟩
theorem sc__law_draw : FnScope ["_law_deal_here", "_law_many_here", "_law_number_here", "_law_one", "_law_other"] ["_law_deal_here", "_law_many_here"] (defScope s__law_draw) := ⟨rfl, rfl, rfl, by decide +kernel, rfl, by decide +kernel, by decide +kernel⟩
theorem sc__law_names : FnScope ["_law_deal_here", "_law_many_here", "_law_letters", "_law_names_here", "_law_k", "_law_word", "_law_place"] ["_law_deal_here", "_law_many_here"] (defScope s__law_names) := ⟨rfl, rfl, rfl, by decide +kernel, rfl, by decide +kernel, by decide +kernel⟩
theorem sc__law_number : FnScope ["_law_deal_here", "_law_most", "_law_way"] ["_law_deal_here", "_law_most"] (defScope s__law_number) := ⟨rfl, rfl, rfl, by decide +kernel, rfl, by decide +kernel, by decide +kernel⟩
theorem sc__law_numbers : FnScope ["_law_deal_here", "_law_many_here", "_law_low", "_law_found", "_law_k"] ["_law_deal_here", "_law_many_here"] (defScope s__law_numbers) := ⟨rfl, rfl, rfl, by decide +kernel, rfl, by decide +kernel, by decide +kernel⟩
theorem sc__law_many : FnScope ["_law_deal_here", "_law_most"] ["_law_deal_here", "_law_most"] (defScope s__law_many) := ⟨rfl, rfl, rfl, by decide +kernel, rfl, by decide +kernel, by decide +kernel⟩
theorem sc__law_big_sum : FnScope ["_law_deal_here", "_law_some", "_law_terms", "_law_name", "_law_a", "_law_bounds"] ["_law_deal_here", "_law_some"] (defScope s__law_big_sum) := ⟨rfl, rfl, rfl, by decide +kernel, rfl, by decide +kernel, by decide +kernel⟩
theorem sc__law_big_rows : FnScope ["_law_deal_here", "_law_wide", "_law_many_here", "_law_first", "_law_place", "_law_rows", "_law_value", "_law_row"] ["_law_deal_here", "_law_wide", "_law_many_here"] (defScope s__law_big_rows) := ⟨rfl, rfl, rfl, by decide +kernel, rfl, by decide +kernel, by decide +kernel⟩
theorem sc__law_big_way : FnScope ["_law_deal_here", "_law_some", "_law_states", "_law_values", "_law_steps", "_law_k", "_law_ends"] ["_law_deal_here", "_law_some"] (defScope s__law_big_way) := ⟨rfl, rfl, rfl, by decide +kernel, rfl, by decide +kernel, by decide +kernel⟩
theorem sc__law_big_wish : FnScope ["_law_deal_here", "_law_names_here", "_law_sort", "_law_some", "_law_low", "_law_inner"] ["_law_deal_here", "_law_names_here", "_law_sort"] (defScope s__law_big_wish) := ⟨rfl, rfl, rfl, by decide +kernel, rfl, by decide +kernel, by decide +kernel⟩
theorem sc__law_pieces : FnScope ["_law_pieces_here", "_law_words_here", "_law_piece"] ["_law_pieces_here"] (defScope s__law_pieces) := ⟨rfl, rfl, rfl, by decide +kernel, rfl, by decide +kernel, by decide +kernel⟩
theorem sc__law_words : FnScope ["_law_wish", "_law_words_here", "_law_a", "_law_name", "_law_ends"] ["_law_wish"] (defScope s__law_words) := ⟨rfl, rfl, rfl, by decide +kernel, rfl, by decide +kernel, by decide +kernel⟩
theorem sc__law_no_truths : FnScope ["_law_thing"] ["_law_thing"] (defScope s__law_no_truths) := ⟨rfl, rfl, rfl, by decide +kernel, rfl, by decide +kernel, by decide +kernel⟩
theorem sc_law : FnScope ["_law_script", "_law_deal_here", "_law_names_here", "_law_sort", "_law_wish", "_law_text", "_law_loose", "_law_told"] ["_law_script"] (defScope s_law) := ⟨rfl, rfl, rfl, by decide +kernel, rfl, by decide +kernel, by decide +kernel⟩
noncomputable def marksV : List V := [.str "in", .str "from", .str "to", .str "end"]
structure Txt (w : World) (K : PySem.W.Frag) (mg : Str → Option Value) (base : Heap) : Prop where
  b_len : mg "len" = none
  b_max : mg "max" = none
  b_min : mg "min" = none
  b_abs : mg "abs" = none
  b_sum : mg "sum" = none
  b_list : mg "list" = none
  b_reversed : mg "reversed" = none
  b_range : mg "range" = none
  b_isinstance : mg "isinstance" = none
  b_all : mg "all" = none
  b_int : mg "int" = none
  b_str : mg "str" = none
  b_bool : mg "bool" = none
  b_tuple : mg "tuple" = none
  c_MARKS : ConstT K mg "MARKS" marksV
  c_FIGURES : ∃ t, mg "FIGURES" = some (.str "0123456789" t)
  c_LONGEST_NAME : ∃ t, mg "LONGEST_NAME" = some (.int 8 t)
  c_MOST_FIGURES : ∃ t, mg "MOST_FIGURES" = some (.int 14 t)
  at_PLAIN_WRITERS : mg "PLAIN_WRITERS" = some (.ref (clsAt mg "PLAIN_WRITERS"))
  tb_PLAIN_WRITERS : TabAt w K (clsAt mg "PLAIN_WRITERS")
  at_PLAIN_TAKERS : mg "PLAIN_TAKERS" = some (.ref (clsAt mg "PLAIN_TAKERS"))
  tb_PLAIN_TAKERS : TabAt w K (clsAt mg "PLAIN_TAKERS")
  at_Row : mg "Row" = some (.ref (clsAt mg "Row"))
  cl_Row : Cls K (clsAt mg "Row")
  no_Row_words : NoAttr K (clsAt mg "Row") "words"
  no_Row_line : NoAttr K (clsAt mg "Row") "line"
  no_Row_place : NoAttr K (clsAt mg "Row") "place"
  nb : NoneBooked base
noncomputable def dealKvs (m sd n : Int) (l : Addr) : List (Key × V) := [(Sum.inr "mixed", .int m), (Sum.inr "seed", .int sd), (Sum.inr "number", .int n), (Sum.inr "left", .ref l)]
structure DealAt (H : Hp) (d l : Addr) : Prop where
  ex : ∃ (m sd n : Int) (xs : List Int), H d = some (.dK (dealKvs m sd n l)) ∧ H l = some (.lst (xs.map V.int)) ∧ 0 ≤ n ∧ (∀ x ∈ xs, 0 ≤ x) ∧ 0 ≤ sd ∧ sd < 2147483648 ∧ xs.length ≤ 63
noncomputable def But (d l : Addr) (H H' : Hp) : Prop := ∀ b o, b ≠ d → b ≠ l → H b = some o → H' b = some o
theorem k_ms : ¬ ((Sum.inr (Str.ofString "mixed") : Key) = Sum.inr (Str.ofString "seed")) := by decide +kernel
theorem k_mn : ¬ ((Sum.inr (Str.ofString "mixed") : Key) = Sum.inr (Str.ofString "number")) := by decide +kernel
theorem k_ml : ¬ ((Sum.inr (Str.ofString "mixed") : Key) = Sum.inr (Str.ofString "left")) := by decide +kernel
theorem k_sn : ¬ ((Sum.inr (Str.ofString "seed") : Key) = Sum.inr (Str.ofString "number")) := by decide +kernel
theorem k_sl : ¬ ((Sum.inr (Str.ofString "seed") : Key) = Sum.inr (Str.ofString "left")) := by decide +kernel
theorem k_nl : ¬ ((Sum.inr (Str.ofString "number") : Key) = Sum.inr (Str.ofString "left")) := by decide +kernel
theorem get_mixed (m sd n : Int) (l : Addr) : valV (dealKvs m sd n l) (Sum.inr "mixed") = some (.int m) := by unfold dealKvs; rw [valV_pos rfl]
theorem get_seed (m sd n : Int) (l : Addr) : valV (dealKvs m sd n l) (Sum.inr "seed") = some (.int sd) := by unfold dealKvs; rw [valV_neg k_ms, valV_pos rfl]
theorem get_number (m sd n : Int) (l : Addr) : valV (dealKvs m sd n l) (Sum.inr "number") = some (.int n) := by unfold dealKvs; rw [valV_neg k_mn, valV_neg k_sn, valV_pos rfl]
theorem get_left (m sd n : Int) (l : Addr) : valV (dealKvs m sd n l) (Sum.inr "left") = some (.ref l) := by unfold dealKvs; rw [valV_neg k_ml, valV_neg k_sl, valV_neg k_nl, valV_pos rfl]
theorem put_number (m sd n y : Int) (l : Addr) : putK (dealKvs m sd n l) (Sum.inr "number") (.int y) = dealKvs m sd y l := by
  unfold putK
  rw [valV_any, get_number]
  simp only [Option.isSome_some, if_true, dealKvs, List.map_cons, List.map_nil, if_neg k_mn, if_neg k_sn, if_neg (Ne.symm k_nl)]
theorem put_seed (m sd n y : Int) (l : Addr) : putK (dealKvs m sd n l) (Sum.inr "seed") (.int y) = dealKvs m y n l := by
  unfold putK
  rw [valV_any, get_seed]
  simp only [Option.isSome_some, if_true, dealKvs, List.map_cons, List.map_nil, if_neg k_ms, if_neg (Ne.symm k_sn), if_neg (Ne.symm k_sl)]
theorem deal_len (m sd n : Int) (l : Addr) : (dealKvs m sd n l).length < sizeLine := by show 4 < sizeLine; decide
theorem cmul_small {i j : Int} (h0 : 0 ≤ i) (h1 : i < 4294967296) : CMul i j := .inl ⟨by omega, by omega⟩
noncomputable def spDraw : Sp := fun vs H Q _ => ∃ (d l : Addr) (m : Int), vs = [.ref d, .int m] ∧ DealAt H d l ∧ 0 < m ∧ m < 18446744073709551616 ∧ ∀ (r : Int) (H' : Hp), 0 ≤ r → r < m → DealAt H' d l → But d l H H' → Q (.int r) H'
theorem merge_deal (m sd n : Int) (l : Addr) : mergeK [] (dealKvs m sd n l) = dealKvs m sd n l := by
  have e1 : putK ([] : List (Key × V)) (Sum.inr (Str.ofString "mixed")) (.int m) = [(Sum.inr (Str.ofString "mixed"), .int m)] := putK_new _ valV_nil
  have e2 : putK [((Sum.inr (Str.ofString "mixed") : Key), V.int m)] (Sum.inr (Str.ofString "seed")) (.int sd) = [(Sum.inr (Str.ofString "mixed"), .int m), (Sum.inr (Str.ofString "seed"), .int sd)] := putK_new _ (by rw [valV_neg k_ms, valV_nil])
  have e3 : putK [((Sum.inr (Str.ofString "mixed") : Key), V.int m), (Sum.inr (Str.ofString "seed"), .int sd)] (Sum.inr (Str.ofString "number")) (.int n) = [(Sum.inr (Str.ofString "mixed"), .int m), (Sum.inr (Str.ofString "seed"), .int sd), (Sum.inr (Str.ofString "number"), .int n)] := putK_new _ (by rw [valV_neg k_mn, valV_neg k_sn, valV_nil])
  have e4 : putK [((Sum.inr (Str.ofString "mixed") : Key), V.int m), (Sum.inr (Str.ofString "seed"), .int sd), (Sum.inr (Str.ofString "number"), .int n)] (Sum.inr (Str.ofString "left")) (.ref l) = dealKvs m sd n l := putK_new _ (by rw [valV_neg k_ml, valV_neg k_sl, valV_neg k_nl, valV_nil])
  show putK (putK (putK (putK ([] : List (Key × V)) (Sum.inr (Str.ofString "mixed")) (.int m)) (Sum.inr (Str.ofString "seed")) (.int sd)) (Sum.inr (Str.ofString "number")) (.int n)) (Sum.inr (Str.ofString "left")) (.ref l) = _
  rw [e1, e2, e3, e4]
theorem cut_ints (ns : List Int) (lo hi : Option Int) : ∃ ms : List Int, cutV (ns.map V.int) lo hi = ms.map V.int ∧ ms.length ≤ ns.length := by
  unfold cutV
  refine ⟨(ns.drop (HT.sIx (ns.map V.int).length 0 lo)).take (HT.sIx (ns.map V.int).length (ns.map V.int).length hi - HT.sIx (ns.map V.int).length 0 lo), by simp [List.map_take, List.map_drop], ?_⟩
  rw [List.length_take, List.length_drop]
  omega
theorem int_at {ms : List Int} {i : Nat} {x : V} (h : (ms.map V.int)[i]? = some x) : ∃ v, x = .int v := by
  rw [List.getElem?_map] at h
  cases e : ms[i]? with
  | none => rw [e] at h; cases h
  | some z => rw [e] at h; exact ⟨z, (Option.some.inj h).symm⟩
noncomputable def spDeal (K : PySem.W.Frag) : Sp := fun vs H Q _ => ∃ (a : Addr) (ns : List Int) (st : Int), vs = [.ref a, .int st] ∧ SqL K H a (ns.map V.int) ∧ ns.length ≤ 63 ∧ 0 ≤ st ∧ st ≤ 63 ∧ ∀ (d l : Addr) (H' : Hp), H d = none → H l = none → DealAt H' d l → Same H H' → Q (.ref d) H'
theorem draw_rd {d l : Addr} {m : Int} {H : Hp} {Q : VK} {E : XK} (D : DealAt H d l) (m0 : 0 < m) (m1 : m < 18446744073709551616) (h : ∀ (r : Int) (H' : Hp), 0 ≤ r → r < m → DealAt H' d l → But d l H H' → Q (.int r) H') : spDraw [.ref d, .int m] H Q E := ⟨d, l, m, rfl, D, m0, m1, h⟩
theorem But.refl {d l : Addr} (H : Hp) : But d l H H := fun _ _ _ _ e => e
theorem But.trans {d l : Addr} {H H1 H2 : Hp} (a : But d l H H1) (b : But d l H1 H2) : But d l H H2 := fun c o h1 h2 e => b c o h1 h2 (a c o h1 h2 e)
theorem But.new {d l p : Addr} {H H1 : Hp} {o : HO} (a : But d l H H1) (hp : H1 p = none) : But d l H (upd H1 p o) := fun c u h1 h2 e => by
  have e1 := a c u h1 h2 e
  rw [upd_ne (ne_of_none e1 hp)]; exact e1
theorem But.same {d l : Addr} {H H1 H2 : Hp} (a : But d l H H1) (s : Same H1 H2) : But d l H H2 := fun c u h1 h2 e => s c u (a c u h1 h2 e)
theorem DealAt.ne {d l p : Addr} {H : Hp} (D : DealAt H d l) (hp : H p = none) : p ≠ d ∧ p ≠ l := by
  obtain ⟨m, sd, n, xs, hd, hl, _⟩ := D.ex
  exact ⟨(ne_of_none hd hp).symm, (ne_of_none hl hp).symm⟩
theorem DealAt.same {d l : Addr} {H H' : Hp} (D : DealAt H d l) (s : Same H H') : DealAt H' d l := by
  obtain ⟨m, sd, n, xs, hd, hl, r⟩ := D.ex
  exact ⟨m, sd, n, xs, s _ _ hd, s _ _ hl, r⟩
theorem DealAt.new {d l p : Addr} {H : Hp} {o : HO} (D : DealAt H d l) (hp : H p = none) : DealAt (upd H p o) d l := D.same (Same.upd0 hp)
theorem DealAt.put {d l p : Addr} {H : Hp} {o : HO} (D : DealAt H d l) (h1 : p ≠ d) (h2 : p ≠ l) : DealAt (upd H p o) d l := by
  obtain ⟨m, sd, n, xs, hd, hl, r⟩ := D.ex
  exact ⟨m, sd, n, xs, by rw [upd_ne h1.symm]; exact hd, by rw [upd_ne h2.symm]; exact hl, r⟩
theorem But.put {d l p : Addr} {H H1 : Hp} {o : HO} (a : But d l H H1) (hp : H p = none) : But d l H (upd H1 p o) := fun c u h1 h2 e => by
  rw [upd_ne (ne_of_none e hp)]; exact a c u h1 h2 e
theorem But.free {d l p : Addr} {H H1 : Hp} (a : But d l H H1) (D : DealAt H1 d l) (hp : H1 p = none) : H p = none := by
  obtain ⟨h1, h2⟩ := D.ne hp
  cases e : H p with
  | none => rfl
  | some o => rw [a p o h1 h2 e] at hp; cases hp
theorem atI_mem {α : Type} {xs : List α} {i : Int} (h0 : 0 ≤ i) (h1 : i < (xs.length : Int)) : ∃ v, atI xs i = some v ∧ v ∈ xs := by
  obtain ⟨n, rfl⟩ := Int.eq_ofNat_of_zero_le h0
  have hn : n < xs.length := by omega
  exact ⟨xs[n], atI_nat (by simp [hn]), List.getElem_mem hn⟩
theorem draw_of {d l p : Addr} {m : Int} {vs : List V} {H : Hp} {Q : VK} {E : XK} (D : DealAt H d l) (hp : H p = none) (m0 : 0 < m) (m1 : m < 18446744073709551616) (hm : m = (vs.length : Int)) (h : ∀ (r : Int) (v : V) (H' : Hp), v ∈ vs → atI vs r = some v → DealAt H' d l → But d l H H' → H' p = some (.lst vs) → Q (.int r) H') : spDraw [.ref d, .int m] (upd H p (.lst vs)) Q E :=
  draw_rd (D.new hp) m0 m1 fun r H' r0 r1 D' B' => by
    obtain ⟨v, e, hv⟩ := atI_mem (xs := vs) r0 (by omega)
    exact h r v H' hv e D' (((But.refl H).new hp).trans B') (B' p _ (D.ne hp).1 (D.ne hp).2 upd_same)
theorem ok__law_draw   (T : Txt w K mg base) (L : FnL K mg "_law_draw" s__law_draw ["_law_deal_here", "_law_many_here"])  : Fn P w K mg base "_law_draw" 1 ["_law_deal_here", "_law_many_here"] (spDraw) := by
  have nd := sc__law_draw.nd
  refine L.ok sc__law_draw (fun vs H Q E h => ?_) (fun f cdv A outer s H vs Q E hr h => ?_) <;> obtain ⟨d, l, m, rfl, D, m0, m1, k⟩ := h
  · rfl
  have hu := hu_of hr
  refine ⟨_, (pss_cons (ps_while PassesOwn.never (PW.pt (pw_and (pt_cmpR op_eq (pe_dg hu (pvM 0) pe_str (fun _ _ => rfl)) pe_int (nomark _)) (pw_and (pt_cmpR op_gt (pe_callB call_lenL rfl T.b_len PySem.boot_len (pa_cons (pe_dg hu (pvM 0) pe_str (fun _ _ => rfl)) pa_nil)) pe_int (nomark _)) (pw_and1 (pt_cmpR op_eq (pe_dg hu (pvM 0) pe_str (fun _ _ => rfl)) pe_int (nomark _)))))) (pss_one (ps_dp hu (pvM 0) pe_str (pe_mL0 PySem.F.slot_list_pop PySem.F.type_list_pop ml_pop (pe_dg hu (pvM 0) pe_str (fun _ _ => rfl))) rfl)))
    (pss_cons (ps_set (i := 2) nd rfl (by first | exact Or.inl rfl | exact Or.inr rfl) (pe_dg hu (pvM 0) pe_str (fun _ _ => rfl)))
    (pss_cons (ps_if (pt_cmpR op_gt (pvM 2) pe_int (nomark _)) (pss_cons (ps_dp hu (pvM 0) pe_str (pe_op op_fdivW (pvM 2) (pvM 1)) rfl)
    (pss_one (ps_ret (pe_op op_mod (pvM 2) (pvM 1))))) pss_nil)
    (pss_cons (ps_set (i := 3) nd rfl (by first | exact Or.inl rfl | exact Or.inr rfl) (pe_op op_mod (pe_op op_add (pe_op op_mul (pe_dg hu (pvM 0) pe_str (fun _ _ => rfl)) pe_int) pe_int) pe_int))
    (pss_cons (ps_dp hu (pvM 0) pe_str (pe_op op_mod (pe_op op_add (pe_op op_mul (pvM 3) pe_int) pe_int) pe_int) rfl)
    (pss_cons (ps_set (i := 4) nd rfl (by first | exact Or.inl rfl | exact Or.inr rfl) (pe_op op_mod (pe_op op_mul (pe_dg hu (pvM 0) pe_str (fun _ _ => rfl)) (pe_dg hu (pvM 0) pe_str (fun _ _ => rfl))) pe_int))
    (pss_one (ps_ret (pe_op op_mod (pe_op op_add (pe_op op_mul (pe_op op_mod (pe_op op_mul (pvM 3) (pvM 3)) pe_int) pe_int) (pvM 4)) (pvM 1)))))))))), ?_⟩
  obtain ⟨mx, sd, n, xs, hd, hl, n0, hx, s0, s1, hlen⟩ := D.ex
  have dl : d ≠ l := ne_of hd hl (by intro z; cases z)
  refine while_rd (fun μ σ H' => ∃ (n : Int) (xs : List Int), σ = [some (.ref d), some (.int m), none, none, none] ∧ H' d = some (.dK (dealKvs mx sd n l)) ∧ H' l = some (.lst (xs.map V.int)) ∧ 0 ≤ n ∧ (∀ x ∈ xs, 0 ≤ x) ∧ xs.length ≤ 63 ∧ But d l H H' ∧ μ = xs.length)
    (fun σ H' => ∃ (n : Int) (xs : List Int), σ = [some (.ref d), some (.int m), none, none, none] ∧ H' d = some (.dK (dealKvs mx sd n l)) ∧ H' l = some (.lst (xs.map V.int)) ∧ 0 ≤ n ∧ (∀ x ∈ xs, 0 ≤ x) ∧ xs.length ≤ 63 ∧ But d l H H')
    ⟨_, n, xs, rfl, hd, hl, n0, hx, hlen, fun b o _ _ e => e, rfl⟩ ?_ ?_
  · rintro R hR μ σ H1 ⟨n1, xs1, rfl, hd1, hl1, n01, hx1, hlen1, bt, rfl⟩
    have hr := hR _ _ ⟨n1, xs1, rfl, hd1, hl1, n01, hx1, hlen1, bt⟩
    (try ctx_has vcx true_and hd1 hl1 get_number get_left get_mixed)
    refine ite2 (fun h1 => ?_) (fun _ => hr)
    refine ite2 (fun h2 => ?_) (fun _ => hr)
    refine ite2 (fun h3 => ?_) (fun _ => hr)
    rcases List.eq_nil_or_concat xs1 with rfl | ⟨ys, z, rfl⟩
    · simp at h2
    refine ⟨fun σ' H' => σ' = [some (.ref d), some (.int m), none, none, none] ∧ H' = upd (upd H1 l (.lst (ys.map V.int))) d (.dK (dealKvs mx sd z l)), ?_, V.int z, by simp, dealKvs mx sd n1 l, by rw [upd_ne dl]; exact hd1, deal_len _ _ _ _, by rw [put_number]; simp⟩
    rintro _ _ ⟨rfl, rfl⟩
    refine ⟨ys.length, by simp, rfl, z, upd_same, ys, by rw [upd_ne dl.symm, upd_same], hx1 z (by simp), fun x hx => hx1 x (by simp [hx]), by simp at hlen1; omega, fun b o h1 h2 e => ?_, rfl⟩
    rw [upd_ne h1, upd_ne h2]
    exact bt b o h1 h2 e
  · rintro σ H1 ⟨n1, xs1, rfl, hd1, hl1, n01, hx1, hlen1, bt⟩
    (try ctx_has vcx true_and hd1 hl1 get_number get_left get_mixed get_seed deal_len put_number put_seed upd_same)
    have fin : ∀ (r sd' n' : Int), 0 ≤ r → r < m → 0 ≤ n' → 0 ≤ sd' → sd' < 2147483648 → Q (.int r) (upd H1 d (HO.dK (dealKvs mx sd' n' l))) := fun r sd' n' r0 r1 n'0 h0 h1 =>
      k r _ r0 r1 ⟨mx, sd', n', xs1, upd_same, by rw [upd_ne dl.symm]; exact hl1, n'0, hx1, h0, h1, hlen1⟩ fun b o h1 h2 e => by rw [upd_ne h1]; exact bt b o h1 h2 e
    refine ite2 (fun h1 => ?_) (fun h1 => ?_)
    · exact ⟨⟨m0, m1⟩, m0, fin _ _ _ (Int.emod_nonneg _ (by omega)) (Int.emod_lt_of_pos _ m0) (Int.ediv_nonneg (by omega) (by omega)) s0 s1⟩
    · generalize hone : (sd * 48271 + 7919) % 2147483647 = one
      have o0 : 0 ≤ one := by omega
      have o1 : one < 2147483647 := by omega
      generalize hsd2 : (one * 40692 + 104729) % 2147483399 = sd2
      have p0 : 0 ≤ sd2 := by omega
      have p1 : sd2 < 2147483399 := by omega
      have q0 := Int.emod_nonneg (one * one) (show (2147483629 : Int) ≠ 0 by decide)
      have q1 := Int.emod_lt_of_pos (one * one) (show (0 : Int) < 2147483629 by decide)
      exact ⟨cmul_small s0 (by omega), by decide, cmul_small o0 (by omega), by decide, cmul_small p0 (by omega), by decide, cmul_small o0 (by omega), by decide, cmul_small q0 (by omega), m0,
        fin _ _ _ (Int.emod_nonneg _ (by omega)) (Int.emod_lt_of_pos _ m0) n01 p0 (by omega)⟩
theorem ok__law_deal   (T : Txt w K mg base) (L : FnL K mg "_law_deal" s__law_deal ["_law_script", "_law_start"])  : Fn P w K mg base "_law_deal" 1 ["_law_script", "_law_start"] (spDeal K) := by
  have nd := sc__law_deal.nd
  refine L.ok sc__law_deal (fun vs H Q E h => ?_) (fun f cdv A outer s H vs Q E hr h => ?_) <;> obtain ⟨a, ns, st, rfl, hS, hlen, st0, st1, k⟩ := h
  · rfl
  have hu := hu_of hr
  refine ⟨_, (pss_cons (ps_setC (i := 2) (N := ["_law_cell"]) (nt := 1) (js := []) nd rfl (by first | exact Or.inl rfl | exact Or.inr rfl) rfl (compOk_of ["_law_script", "_law_start", "_law_cells", "_law_number_here", "_law_cell"] (defScope s__law_deal).names rfl rfl rfl (by decide +kernel)) (pi_LK (K := K) rfl (pe_slice sl_Q (pvM 0) (po_some (pvM 1)) (po_some pe_int))) (fun _ _ _ _ _ _ => (pg_name (i := 0) (show List.Nodup [("_law_cell" : Str)] by decide +kernel) rfl (Or.inl rfl))) (tgOk_name (by decide)) (fun _ _ _ _ _ _ => pts_nil) (fun _ _ _ _ _ _ => (pe_callB (call_max2 rfl) rfl T.b_max (show bootBuiltins "max" = some (.builtin "max") by decide +kernel) (pa_cons (pvM 0) (pa_cons (pe_op op_sub pe_int (pvM 0)) pa_nil)))))
    (pss_cons (ps_set (i := 3) nd rfl (by first | exact Or.inl rfl | exact Or.inr rfl) (pe_op op_add pe_int (pvM 1)))
    (pss_cons (ps_for PassesOwn.never rfl (pi_LK (K := K) rfl (pvM 2)) (pg_name (i := 4) nd rfl (by first | exact Or.inl rfl | exact Or.inr rfl)) (pss_one (ps_set (i := 3) nd rfl (by first | exact Or.inl rfl | exact Or.inr rfl) (pe_op op_mod (pe_op op_add (pe_op op_mul (pvM 3) pe_int) (pvM 4)) pe_int))))
    (pss_one (ps_ret (pe_disp (pps_cons pe_str (pe_op op_mod (pe_callB (call_sum_l rfl) rfl T.b_sum (show bootBuiltins "sum" = some (.builtin "sum") by decide +kernel) (pa_cons (pe_slice sl_Q (pvM 0) po_none (po_some pe_int)) pa_nil)) pe_int) (pps_cons pe_str (pvM 3) (pps_cons pe_str pe_int (pps_cons pe_str (pe_listrev rfl rfl T.b_list rfl T.b_reversed (pvM 2)) pps_nil)))) rfl rfl (by nofun) (by decide))))))), ?_⟩
  (try ctx_has vcx true_and)
  refine ⟨_, hS, fun p hp => ⟨_, upd_same, fun D hD => ?_⟩⟩
  have pD : D ≠ p := by rintro rfl; rw [upd_same] at hD; cases hD
  obtain ⟨ms, hms, hml⟩ := cut_ints ns (some st) (some 63)
  rw [hms] at hD ⊢
  rw [upd_ne pD] at hD
  refine comp_g wlk_list (fun i ys H2 => ∃ cs : List Int, ys = cs.map V.int ∧ cs.length = i ∧ (∀ x ∈ cs, 0 ≤ x) ∧ H2 p = some (.lst (ms.map V.int)) ∧ H2 D = some (.lst ys) ∧ Same H H2)
    ⟨[], rfl, rfl, by simp, by rw [upd_ne pD.symm, upd_same], upd_same, (Same.upd0 hp).upd_new (by rw [upd_ne pD]; exact hD)⟩ (fun i ys H2 zq35 => by obtain ⟨_, _, _, _, h, _⟩ := zq35; exact (.of h)) ?_ ?_
  · rintro i x ys H2 hi hx ⟨cs, rfl, rfl, hc, h1, h2, sm⟩
    obtain ⟨v, rfl⟩ := int_at hx
    (try ctx_has vcx true_and h2)
    have hi : cs.length < 63 := by simp at hi; omega
    refine ⟨by simp; exact small1000 (by omega), cs ++ [if 0 - v > v then 0 - v else v], by simp, by simp, fun x hx => ?_, by rw [upd_ne pD.symm]; exact h1, upd_same, fun b o e => ?_⟩
    · rcases List.mem_append.mp hx with q | q
      · exact hc x q
      · rw [List.mem_singleton.mp q]; split <;> omega
    · rw [upd_ne (ne_of_none e hD)]; exact sm b o e
  · rintro ys H2 ⟨cs, rfl, hc, hpos, h1, h2, sm⟩
    have hcl : cs.length ≤ 63 := by simp at hc; omega
    (try ctx_has vcx true_and h2)
    refine for_g wlk_list (fun i σ H3 => ∃ (z : Int) (v : Option V), σ = [some (.ref a), some (.int st), some (.ref D), some (.int z), v] ∧ 0 ≤ z ∧ z < 2147483648 ∧ H3 = H2)
      ⟨_, _, rfl, by omega, by omega, rfl⟩ (fun i σ H3 zq36 => by obtain ⟨_, _, _, _, _, h⟩ := zq36; exact (by rw [h]; exact .of h2)) ?_ ?_
    · rintro i x σ H3 hi hx ⟨z, v, rfl, z0, z1, rfl⟩
      obtain ⟨y, rfl⟩ := int_at hx
      (try ctx_has vcx true_and)
      exact ⟨cmul_small z0 (by omega), by decide, by omega, by omega⟩
    · rintro σ H3 ⟨z, v, rfl, z0, z1, rfl⟩
      (try ctx_has vcx true_and h2 rSum)
      intro d hd
      refine ⟨_, (sm.upd_new hd).seq hS, fun p2 hp2 => ?_⟩
      have dp2 : p2 ≠ d := by rintro rfl; rw [upd_same] at hp2; cases hp2
      have hp2' : H3 p2 = none := by rwa [upd_ne dp2] at hp2
      obtain ⟨xs, hxs, _⟩ := cut_ints ns none (some 1)
      rw [hxs]
      have nD2 : D ≠ p2 := ne_of_none h2 hp2'
      have nDd : D ≠ d := ne_of_none h2 hd
      refine ⟨xs, .of upd_same, by decide, _, by rw [upd_ne nD2, upd_ne nDd]; exact h2, fun l hl => ?_⟩
      have l1 : l ≠ p2 := by rintro rfl; rw [upd_same] at hl; cases hl
      have l2 : l ≠ d := by rintro rfl; rw [upd_ne dp2.symm, upd_same] at hl; cases hl
      have hl' : H3 l = none := by rwa [upd_ne l1, upd_ne l2] at hl
      refine ⟨by rw [upd_ne l2.symm, upd_ne dp2.symm, upd_same], dealKvs (xs.sum % 2) z 0 l, rfl, by show 4 ≤ 15; decide, ?_⟩
      rw [merge_deal]
      refine k d l _ (sm.free hd) (sm.free hl') ⟨_, z, 0, cs.reverse, upd_same, by rw [upd_ne l2, upd_same, List.map_reverse], by omega, fun x hx => hpos x (List.mem_reverse.mp hx), z0, z1, by simpa using hcl⟩ fun b o e => ?_
      have e3 := sm b o e
      rw [upd_ne (ne_of_none e3 hd), upd_ne (ne_of_none e3 hl'), upd_ne (ne_of_none e3 hp2'), upd_ne (ne_of_none e3 hd)]
      exact e3
noncomputable def spNames : Sp := fun vs H Q _ => ∃ (d l : Addr) (m : Int), vs = [.ref d, .int m] ∧ DealAt H d l ∧ 0 ≤ m ∧ m ≤ 20 ∧ ∀ (p : Addr) (ws : List Str) (H' : Hp), H p = none → NamesOk ws → ws.length = m.toNat → H' p = some (.lst (ws.map V.str)) → DealAt H' d l → But d l H H' → Q (.ref p) H'
theorem nxt_rd {w1 : Str} (n1 : IsNm w1) {P : Str → Prop} (h : P (nxtW w1)) : w1.length ≤ sizeLine ∧ ∃ c, atI w1.cps.toList 0 = some c ∧ ∃ i rest, Builtin.Str.occurrences (Str.ofString "abcdefghijklmnopqrstuvwxyz") { cps := #[c] } 0 (Str.ofString "abcdefghijklmnopqrstuvwxyz").length 1 = i :: rest ∧ (0 : Int) < 26 ∧
    (Str.ofString "abcdefghijklmnopqrstuvwxyz").length ≤ sizeLine ∧ ∃ c, atI (Str.ofString "abcdefghijklmnopqrstuvwxyz").cps.toList (((i : Nat) + 1 : Int) % 26) = some c ∧ w1.length ≤ sizeLine ∧ (Str.mk #[c]).length + (Txt.slice w1 (some 1) none).length ≤ sizeLine ∧ P ((Str.mk #[c]) ++ Txt.slice w1 (some 1) none) := by
  obtain ⟨c, cs, e, hc, hcs, hl⟩ := n1.cons
  have hlw : w1.length ≤ sizeLine := Nat.le_of_lt (small1000 (Nat.le_trans n1.le (by decide)))
  have hs := Txt.slice_le w1 (some 1) none
  have hw := n1.le
  refine ⟨hlw, c, by rw [e]; exact atI_zero _ _, _, _, letters_index hc, by decide, letters_len, _, letters_at (by omega) (by omega), hlw, Nat.le_of_lt (small1000 (by show 1 + _ ≤ 1000; omega)), ?_⟩
  have hc2 := hc
  simp only [smallB, Bool.and_eq_true, decide_eq_true_eq] at hc2
  have hl1 : w1.length = cs.length + 1 := by rw [← len_cps, e]; rfl
  have key : (Str.mk #[97 + ((((c - 97 : Nat) : Int) + 1) % 26).toNat]) ++ Txt.slice w1 (some 1) none = nxtW w1 := by
    apply str_ext
    rw [append_cps, slice_cps, e, hl1]
    have e1 : 97 + ((((c - 97 : Nat) : Int) + 1) % 26).toNat = nxtC c := by unfold nxtC; omega
    have e2 : HT.sIx (cs.length + 1) 0 (some 1) = 1 := by
      show (if (1 : Int) < 0 then ((1 : Int) + ((cs.length + 1 : Nat) : Int)).toNat else min (1 : Int).toNat (cs.length + 1)) = 1
      rw [if_neg (by decide)]
      show min 1 (cs.length + 1) = 1
      omega
    rw [e1, e2, HT.sIx_none]
    simp [nxtW, e, nxtL]
  rw [key]
  exact h
theorem names_while {Dn : Ends} {d p : Addr} {v1 vk vp : Option V} {ws : List Str} {H : Hp} {wd : Str} (hw : IsNm wd) (hws : ws.length ≤ 20) (hp : H p = some (.lst (ws.map V.str)))
    (fin : ∀ (wd' : Str) (H' : Hp), IsNm wd' → wd' ∉ ws → wd' ∉ marks4 → Same H H' → Dn.nx [some (.ref d), v1, some (.str (Str.ofString "abcdefghijklmnopqrstuvwxyz")), some (.ref p), vk, some (.str wd'), vp] H') :
    tWhile
      (tOr (tTest (tOp (rInL false) (tVarM 5) (tVarM 3)))
        (tTest (tOp (rInL false) (tVarM 5) (tLst (tCons (tC (V.str (Str.ofString "in"))) (tCons (tC (V.str (Str.ofString "from"))) (tCons (tC (V.str (Str.ofString "to"))) (tCons (tC (V.str (Str.ofString "end"))) tNil))))))))
      (tAsg (tOp rCS (tOp rIS (tVarM 2) (tOp (rI (fun x j => 0 < j) fun i j => V.int (i % j)) (tOp (rI0 fun i j => V.int (i + j)) (tMS rmIndex (tVarM 2) (tCons (tOp rIS (tVarM 5) (tC (V.int 0))) tNil)) (tC (V.int 1))) (tC (V.int 26))))
          (tSl rSlS (tVarM 5) (tPart (tC (V.int 1))) tNoPart)) (gName 5))
      Dn [some (.ref d), v1, some (.str (Str.ofString "abcdefghijklmnopqrstuvwxyz")), some (.ref p), vk, some (.str wd), vp] H := by
  obtain ⟨μ0, h0⟩ := free_word hw (F := ws ++ marks4) (by simp [marks4]; omega)
  refine while_rd (fun μ σ H' => ∃ wd' : Str, σ = [some (.ref d), v1, some (.str (Str.ofString "abcdefghijklmnopqrstuvwxyz")), some (.ref p), vk, some (.str wd'), vp] ∧ IsNm wd' ∧ nxtN μ wd' ∉ ws ++ marks4 ∧ Same H H')
    (fun σ H' => ∃ wd' : Str, σ = [some (.ref d), v1, some (.str (Str.ofString "abcdefghijklmnopqrstuvwxyz")), some (.ref p), vk, some (.str wd'), vp] ∧ IsNm wd' ∧ wd' ∉ ws ∧ wd' ∉ marks4 ∧ Same H H')
    ⟨μ0, wd, rfl, hw, h0, Same.refl _⟩ ?_ ?_
  · rintro R hR μ σ H1 ⟨w1, rfl, n1, f1, sm⟩
    have hp1 := sm _ _ hp
    have step : ∀ H2, Same H H2 → w1 ∈ ws ++ marks4 → ∀ σ' H', (σ' = [some (.ref d), v1, some (.str (Str.ofString "abcdefghijklmnopqrstuvwxyz")), some (.ref p), vk, some (.str (nxtW w1)), vp] ∧ H' = H2) → ∃ m', m' < μ ∧ ∃ wd' : Str, σ' = [some (.ref d), v1, some (.str (Str.ofString "abcdefghijklmnopqrstuvwxyz")), some (.ref p), vk, some (.str wd'), vp] ∧ IsNm wd' ∧ nxtN m' wd' ∉ ws ++ marks4 ∧ Same H H' := fun H2 sm2 hin => by
      rintro _ _ ⟨rfl, rfl⟩
      cases μ with
      | zero => exact absurd hin f1
      | succ μ => exact ⟨μ, Nat.lt_succ_self _, nxtW w1, rfl, nxtW_nm n1, f1, sm2⟩
    (try ctx_has vcx true_and hp1)
    refine ⟨rfl, flat_strs _, ?_⟩
    rw [inV_strs]
    refine ite2 (fun h => ?_) (fun h => ?_)
    · exact ⟨_, step H1 sm (List.mem_append_left _ (by simpa using h)), nxt_rd n1 (P := fun z => [some (V.ref d), v1, some (.str (Str.ofString "abcdefghijklmnopqrstuvwxyz")), some (.ref p), vk, some (.str z), vp] = [some (V.ref d), v1, some (.str (Str.ofString "abcdefghijklmnopqrstuvwxyz")), some (.ref p), vk, some (.str (nxtW w1)), vp] ∧ H1 = H1) ⟨rfl, rfl⟩⟩
    · refine ⟨by decide, fun q hq => ⟨_, upd_same, rfl, by decide +kernel, ?_⟩⟩
      have sm2 : Same H (upd H1 q (.lst (marks4.map V.str))) := sm.upd_new hq
      show (if inV (V.str w1) (marks4.map V.str) = true then _ else _)
      rw [inV_strs]
      refine ite2 (fun h2 => ?_) (fun h2 => ?_)
      · exact ⟨_, step _ sm2 (List.mem_append_right _ (by simpa using h2)), nxt_rd n1 (P := fun z => [some (V.ref d), v1, some (.str (Str.ofString "abcdefghijklmnopqrstuvwxyz")), some (.ref p), vk, some (.str z), vp] = [some (V.ref d), v1, some (.str (Str.ofString "abcdefghijklmnopqrstuvwxyz")), some (.ref p), vk, some (.str (nxtW w1)), vp] ∧ _ = _) ⟨rfl, rfl⟩⟩
      · exact hR _ _ ⟨w1, rfl, n1, by simpa using h, by simpa using h2, sm2⟩
  · rintro σ H1 ⟨w1, rfl, n1, f1, f2, sm⟩
    exact fin w1 H1 n1 f1 f2 sm
theorem ok__law_names   (T : Txt w K mg base) (L : FnL K mg "_law_names" s__law_names ["_law_deal_here", "_law_many_here"]) (F_law_draw : Fn P w K mg base "_law_draw" 1 ["_law_deal_here", "_law_many_here"] (spDraw)) : Fn P w K mg base "_law_names" 2 ["_law_deal_here", "_law_many_here"] (spNames) := by
  have nd := sc__law_names.nd
  refine L.ok sc__law_names (fun vs H Q E h => ?_) (fun f cdv A outer s H vs Q E hr h => ?_) <;> obtain ⟨d, l, m, rfl, D, m0, m1, k⟩ := h
  · rfl
  have hu := hu_of hr
  refine ⟨_, (pss_cons (ps_set (i := 2) nd rfl (by first | exact Or.inl rfl | exact Or.inr rfl) pe_str)
    (pss_cons (ps_set (i := 3) nd rfl (by first | exact Or.inl rfl | exact Or.inr rfl) (pe_lst pa_nil))
    (pss_cons (ps_for PassesOwn.never rfl (pi_range1 rfl T.b_range (pa_cons (pvM 1) pa_nil)) (pg_name (i := 4) nd rfl (by first | exact Or.inl rfl | exact Or.inr rfl)) (pss_cons (ps_set (i := 5) nd rfl (by first | exact Or.inl rfl | exact Or.inr rfl) (pe_mS PySem.F.slot_str_join PySem.F.type_str_join ms_join pe_str (pa_cons (pe_comp (N := ["_law_j", "_law_letters", "_law_deal_here"]) (nt := 1) (js := [2, 0]) rfl (compOk_of ["_law_deal_here", "_law_many_here", "_law_letters", "_law_names_here", "_law_k", "_law_word", "_law_place"] (defScope s__law_names).names rfl rfl rfl (by decide +kernel)) (pi_range1 rfl T.b_range (pa_cons (pe_op op_add pe_int (pe_callF F_law_draw (hr.mono (by first | decide | omega)) rfl (pa_cons (pvM 0) (pa_cons pe_int pa_nil)))) pa_nil)) (fun _ _ _ _ _ _ => (pg_name (i := 0) (show List.Nodup [("_law_j" : Str), ("_law_letters" : Str), ("_law_deal_here" : Str)] by decide +kernel) rfl (Or.inl rfl))) (tgOk_name (by decide)) (fun _ _ _ _ _ _ => pts_nil) (fun _ _ _ _ _ _ => (pe_ix ix_S (pvM 1) (pe_callF F_law_draw (hr.mono (by first | decide | omega)) rfl (pa_cons (pvM 2) (pa_cons pe_int pa_nil))) (fun _ _ => rfl)))) pa_nil)))
    (pss_cons (ps_if (PW.pt (pw_and (pt_cmpR op_gt (pvM 4) pe_int (nomark _)) (pw_and1 (pt_cmpR op_eq (pe_callF F_law_draw (hr.mono (by first | decide | omega)) rfl (pa_cons (pvM 0) (pa_cons pe_int pa_nil))) pe_int (nomark _))))) (pss_cons (ps_set (i := 6) nd rfl (by first | exact Or.inl rfl | exact Or.inr rfl) (pe_callF F_law_draw (hr.mono (by first | decide | omega)) rfl (pa_cons (pvM 0) (pa_cons (pe_callB call_lenS rfl T.b_len PySem.boot_len (pa_cons (pe_ix ix_L (pvM 3) (pe_un un_neg pe_int) (fun _ _ => rfl)) pa_nil)) pa_nil))))
    (pss_one (ps_set (i := 5) nd rfl (by first | exact Or.inl rfl | exact Or.inr rfl) (pe_op op_catS (pe_op op_catS (pe_slice sl_str (pe_ix ix_L (pvM 3) (pe_un un_neg pe_int) (fun _ _ => rfl)) po_none (po_some (pvM 6))) (pe_ix ix_S (pvM 5) pe_int (fun _ _ => rfl))) (pe_slice sl_str (pe_ix ix_L (pvM 3) (pe_un un_neg pe_int) (fun _ _ => rfl)) (po_some (pe_op op_add (pvM 6) pe_int)) po_none))))) pss_nil)
    (pss_cons (ps_while PassesOwn.never (PW.pt (pw_or (pt_cmpR op_inL (pvM 5) (pvM 3) (by with_unfolding_all rfl)) (pw_or1 (pt_cmpR op_inL (pvM 5) (pe_lst (pa_cons pe_str (pa_cons pe_str (pa_cons pe_str (pa_cons pe_str pa_nil))))) (by with_unfolding_all rfl))))) (pss_one (ps_set (i := 5) nd rfl (by first | exact Or.inl rfl | exact Or.inr rfl) (pe_op op_catS (pe_ix ix_S (pvM 2) (pe_op op_mod (pe_op op_add (pe_mS PySem.F.slot_str_index PySem.F.type_str_index ms_index (pvM 2) (pa_cons (pe_ix ix_S (pvM 5) pe_int (fun _ _ => rfl)) pa_nil)) pe_int) pe_int) (fun _ _ => rfl)) (pe_slice sl_str (pvM 5) (po_some pe_int) po_none)))))
    (pss_one (ps_expr (pe_mL PySem.F.slot_list_append PySem.F.type_list_append ml_append (pvM 3) (pa_cons (pvM 5) pa_nil))))))))
    (pss_one (ps_ret (pvM 3)))))), ?_⟩
  (try ctx_has vcx true_and)
  refine ⟨by decide, fun p hp => ⟨by omega, by omega, ?_⟩⟩
  have np := D.ne hp
  refine for_g wlk_range (fun i σ H' => ∃ (ws : List Str) (vk vw vp : Option V), σ = [some (.ref d), some (.int m), some (.str (Str.ofString "abcdefghijklmnopqrstuvwxyz")), some (.ref p), vk, vw, vp] ∧ NamesOk ws ∧ ws.length = i ∧ H' p = some (.lst (ws.map V.str)) ∧ DealAt H' d l ∧ But d l H H')
    ⟨[], _, _, _, rfl, .nil, rfl, upd_same, D.new hp, (But.refl H).new hp⟩ (fun _ _ _ _ => True.intro) ?_ ?_
  · rintro i x σ H2 hi hx ⟨ws, vk, vw, vp, rfl, ok, hlen, h2, D2, B2⟩
    rw [rngV_length] at hi
    rw [rngV_get hi] at hx
    obtain rfl := Option.some.inj hx
    (try ctx_has vcx true_and)
    refine draw_rd D2 (by decide) (by decide) fun r H3 r0 r1 D3 B3 => ?_
    (try ctx_has vcx true_and)
    refine ⟨by omega, by omega, fun q hq => ?_⟩
    have h3 := B3 p _ np.1 np.2 h2
    have nq := D3.ne hq
    have npq : p ≠ q := ne_of_none h3 hq
    refine comp_g wlk_range (fun j ys H4 => ∃ cs : List Nat, ys = cs.map (fun c => V.str ⟨#[c]⟩) ∧ cs.length = j ∧ (∀ c ∈ cs, smallB c = true) ∧ H4 q = some (.lst ys) ∧ H4 p = some (.lst (ws.map V.str)) ∧ DealAt H4 d l ∧ But d l H H4)
      ⟨[], rfl, rfl, by simp, upd_same, by rw [upd_ne npq]; exact h3, D3.new hq, (B2.trans B3).new hq⟩ (fun _ _ _ _ => True.intro) ?_ ?_
    · rintro j x ys H4 hj hx ⟨cs, rfl, hcl, hcs, h4, h4p, D4, B4⟩
      (try ctx_has vcx true_and)
      rw [rngV_length] at hj
      refine draw_rd D4 (by decide) (by decide) fun r5 H5 r50 r51 D5 B5 => ?_
      have h5 := B5 q _ nq.1 nq.2 h4
      have h5p := B5 p _ np.1 np.2 h4p
      refine ⟨r5, rfl, letters_len, _, letters_at r50 r51, h5, by simp; exact small1000 (by omega), cs ++ [97 + r5.toNat], by simp, by simp; omega, fun c hc => ?_, upd_same, by rw [upd_ne npq]; exact h5p, D5.put nq.1 nq.2, (B4.trans B5).put (B2.free D2 ((B3.free D3 hq)))⟩
      rcases List.mem_append.mp hc with z | z
      · exact hcs c z
      · rw [List.mem_singleton.mp z]
        unfold smallB
        rw [Bool.and_eq_true, decide_eq_true_eq, decide_eq_true_eq]
        omega
    · rintro ys H4 ⟨cs, rfl, hcl, hcs, h4, h4p, D4, B4⟩
      rw [rngV_length] at hcl
      (try ctx_has vcx true_and)
      refine ⟨cs.map fun c => ⟨#[c]⟩, by rw [h4]; simp, by rw [sum_ones, show (Str.ofString "").length = 0 by decide +kernel]; omega, ?_⟩
      have hj := join_signs cs
      generalize Txt.join (Str.ofString "") (cs.map fun c => Str.mk #[c]) = wd at hj ⊢
      obtain ⟨c0, cs', rfl⟩ : ∃ c0 cs', cs = c0 :: cs' := by
        cases cs with
        | nil => simp at hcl; omega
        | cons a b => exact ⟨a, b, rfl⟩
      have nwd : IsNm wd := .of hj (hcs c0 (by simp)) (fun x hx => hcs x (by simp [hx])) (by simp at hcl; omega)
      have hwl : ∀ {w : Str}, IsNm w → w.length ≤ sizeLine := fun h => Nat.le_of_lt (small1000 (Nat.le_trans h.le (by decide)))
      have hws : ws.length ≤ 20 := by omega
      have fin : ∀ (wd' : Str) (H5 H6 : Hp), DealAt H5 d l → But d l H H5 → Same H5 H6 → IsNm wd' → wd' ∉ ws → wd' ∉ marks4 → ∃ ws', NamesOk ws' ∧ ws'.length = i + 1 ∧ upd H6 p (HO.lst (ws.map V.str ++ [V.str wd'])) p = some (HO.lst (ws'.map V.str)) ∧ DealAt (upd H6 p (HO.lst (ws.map V.str ++ [V.str wd']))) d l ∧ But d l H (upd H6 p (HO.lst (ws.map V.str ++ [V.str wd']))) :=
        fun wd' H5 H6 D5 B5 sm n f1 f2 => ⟨ws ++ [wd'], ok.snoc n f1 f2, by simp [hlen], by rw [upd_same]; simp, (D5.same sm).put np.1 np.2, (B5.same sm).put hp⟩
      refine ite2 (fun h => ?_) (fun h => ?_)
      · refine draw_rd D4 (by decide) (by decide) fun r5 H5 r50 r51 D5 B5 => ?_
        (try ctx_has vcx true_and)
        have h5 := B5 p _ np.1 np.2 h4p
        refine ite2 (fun h6 => ?_) (fun h6 => ?_)
        · rcases List.eq_nil_or_concat ws with rfl | ⟨ws0, z, rfl⟩
          · simp at hlen; omega
          have nz : IsNm z := ok.nm z (by simp)
          refine ⟨_, h5, _, by rw [List.concat_eq_append, List.map_append]; exact atI_last _ _, z, rfl, hwl nz, ?_⟩
          refine draw_rd D5 (by have := nz.pos; omega) (by have := nz.le; omega) fun r7 H7 r70 r71 D7 B7 => ?_
          have h7 := B7 p _ np.1 np.2 h5
          (try ctx_has vcx true_and h7)
          have hla : atI (List.map V.str (ws0.concat z)) (-1) = some (V.str z) := by rw [List.concat_eq_append, List.map_append]; exact atI_last _ _
          have l1 := Txt.slice_le z none (some r7)
          have l2 := Txt.slice_le z (some (r7 + 1)) none
          have l3 := nz.le
          refine ⟨_, hla, z, rfl, hwl nz, hwl nwd, c0, by rw [hj]; exact atI_zero _ _, Nat.le_of_lt (small1000 (by show _ + 1 ≤ 1000; omega)), _, hla, z, rfl, hwl nz, Nat.le_of_lt (small1000 (by rw [str_len_append]; show _ + 1 + _ ≤ 1000; omega)), ?_⟩
          refine names_while (edit_nm nz (hcs c0 (by simp)) r70 r71) hws h7 fun wd' H8 n f1 f2 sm => ?_
          have h8 := sm _ _ h7
          (try ctx_has vcx true_and h8)
          exact ⟨by simp only [List.length_map]; exact small1000 (by omega), fin wd' H7 H8 D7 ((B4.trans B5).trans B7) sm n f1 f2⟩
        · refine names_while nwd hws h5 fun wd' H6 n f1 f2 sm => ?_
          have h6 := sm _ _ h5
          (try ctx_has vcx true_and h6)
          exact ⟨by simp; exact small1000 (by omega), fin wd' H5 H6 D5 (B4.trans B5) sm n f1 f2⟩
      · refine names_while nwd hws h4p fun wd' H6 n f1 f2 sm => ?_
        have h6 := sm _ _ h4p
        (try ctx_has vcx true_and h6)
        exact ⟨by simp; exact small1000 (by omega), fin wd' H4 H6 D4 B4 sm n f1 f2⟩
  · rintro σ H2 ⟨ws, vk, vw, vp, rfl, ok, hlen, h2, D2, B2⟩
    (try ctx_has vcx true_and)
    rw [rngV_length] at hlen
    exact k p ws H2 hp ok hlen h2 D2 B2
noncomputable def spNumber : Sp := fun vs H Q _ => ∃ (d l : Addr) (m : Int), vs = [.ref d, .int m] ∧ DealAt H d l ∧ 4 ≤ m ∧ m ≤ 10000000000000 ∧ ∀ (i : Int) (H' : Hp), -m ≤ i → i ≤ m → DealAt H' d l → But d l H H' → Q (.int i) H'
noncomputable def spNumbers : Sp := fun vs H Q _ => ∃ (d l : Addr) (m : Int), vs = [.ref d, .int m] ∧ DealAt H d l ∧ 0 ≤ m ∧ m ≤ 60 ∧ ∀ (p : Addr) (ns : List Int) (H' : Hp), H p = none → ns.length = m.toNat → ns.Nodup → (∀ x ∈ ns, -1000000 ≤ x ∧ x ≤ 1000000) → H' p = some (.tup (ns.map V.int)) → DealAt H' d l → But d l H H' → Q (.ref p) H'
noncomputable def spMany : Sp := fun vs H Q _ => ∃ (d l : Addr) (m : Int), vs = [.ref d, .int m] ∧ DealAt H d l ∧ 0 ≤ m ∧ m ≤ 60 ∧ ∀ (i : Int) (H' : Hp), 0 ≤ i → i ≤ m → DealAt H' d l → But d l H H' → Q (.int i) H'
theorem nodup_ins {ns : List Int} {x : Int} (n : Nat) (h : ns.Nodup) (hx : x ∉ ns) : (ns.take n ++ x :: ns.drop n).Nodup := by
  have e : (ns.take n ++ x :: ns.drop n).Perm (x :: ns) := by
    refine List.perm_middle.trans ?_
    rw [List.take_append_drop]
  exact e.nodup_iff.mpr (List.nodup_cons.mpr ⟨hx, h⟩)
theorem mem_ins {α : Type} {ns : List α} {x y : α} (n : Nat) (h : y ∈ ns.take n ++ x :: ns.drop n) : y = x ∨ y ∈ ns := by
  rcases List.mem_append.mp h with q | q
  · exact .inr (List.mem_of_mem_take q)
  · rcases List.mem_cons.mp q with q | q
    · exact .inl q
    · exact .inr (List.mem_of_mem_drop q)
theorem ok__law_number   (T : Txt w K mg base) (L : FnL K mg "_law_number" s__law_number ["_law_deal_here", "_law_most"]) (F_law_draw : Fn P w K mg base "_law_draw" 1 ["_law_deal_here", "_law_many_here"] (spDraw)) : Fn P w K mg base "_law_number" 2 ["_law_deal_here", "_law_most"] (spNumber) := by
  have nd := sc__law_number.nd
  refine L.ok sc__law_number (fun vs H Q E h => ?_) (fun f cdv A outer s H vs Q E hr h => ?_) <;> obtain ⟨d, l, m, rfl, D, m0, m1, k⟩ := h
  · rfl
  have hu := hu_of hr
  refine ⟨_, (pss_cons (ps_set (i := 2) nd rfl (by first | exact Or.inl rfl | exact Or.inr rfl) (pe_callF F_law_draw (hr.mono (by first | decide | omega)) rfl (pa_cons (pvM 0) (pa_cons pe_int pa_nil))))
    (pss_cons (ps_if (pt_cmpR op_eq (pvM 2) pe_int (nomark _)) (pss_one (ps_ret (pe_op op_sub (pe_callF F_law_draw (hr.mono (by first | decide | omega)) rfl (pa_cons (pvM 0) (pa_cons pe_int pa_nil))) pe_int))) pss_nil)
    (pss_cons (ps_if (pt_cmpR op_eq (pvM 2) pe_int (nomark _)) (pss_one (ps_ret (pe_ix ix_L (pe_lst (pa_cons (pvM 1) (pa_cons (pe_un un_neg (pvM 1)) (pa_cons (pe_op op_sub (pvM 1) pe_int) (pa_cons (pe_op op_sub pe_int (pvM 1)) pa_nil))))) (pe_callF F_law_draw (hr.mono (by first | decide | omega)) rfl (pa_cons (pvM 0) (pa_cons pe_int pa_nil))) (fun _ _ => rfl)))) pss_nil)
    (pss_one (ps_ret (pe_op op_sub (pe_callF F_law_draw (hr.mono (by first | decide | omega)) rfl (pa_cons (pvM 0) (pa_cons (pe_op op_add (pe_op op_mul pe_int (pvM 1)) pe_int) pa_nil))) (pvM 1))))))), ?_⟩
  (try ctx_has vcx true_and)
  refine draw_rd D (by decide) (by decide) fun r H1 r0 r1 D1 B1 => ?_
  (try ctx_has vcx true_and)
  refine ite2 (fun h => ?_) (fun h => ?_)
  · refine draw_rd D1 (by decide) (by decide) fun r2 H2 r20 r21 D2 B2 => ?_
    exact ⟨_, rfl, k _ H2 (by omega) (by omega) D2 (B1.trans B2)⟩
  refine ite2 (fun h => ?_) (fun h => ?_)
  · refine ⟨by decide, fun p hp => ?_⟩
    refine draw_of D1 hp (by decide) (by decide) rfl fun r2 v H2 hv ha D2 B2 h2 => ?_
    refine ⟨_, rfl, _, h2, _, ha, ?_⟩
    simp only [List.mem_cons, List.not_mem_nil, or_false] at hv
    rcases hv with rfl | rfl | rfl | rfl
    all_goals exact k _ H2 (by omega) (by omega) D2 (B1.trans B2)
  · refine ⟨cmul_small (by decide) (by decide), ?_⟩
    refine draw_rd D1 (by omega) (by omega) fun r2 H2 r20 r21 D2 B2 => ?_
    exact ⟨_, rfl, k _ H2 (by omega) (by omega) D2 (B1.trans B2)⟩
theorem ok__law_numbers   (T : Txt w K mg base) (L : FnL K mg "_law_numbers" s__law_numbers ["_law_deal_here", "_law_many_here"]) (F_law_draw : Fn P w K mg base "_law_draw" 1 ["_law_deal_here", "_law_many_here"] (spDraw)) (F_law_number : Fn P w K mg base "_law_number" 2 ["_law_deal_here", "_law_most"] (spNumber)) : Fn P w K mg base "_law_numbers" 3 ["_law_deal_here", "_law_many_here"] (spNumbers) := by
  have nd := sc__law_numbers.nd
  refine L.ok sc__law_numbers (fun vs H Q E h => ?_) (fun f cdv A outer s H vs Q E hr h => ?_) <;> obtain ⟨d, l, m, rfl, D, m0, m1, k⟩ := h
  · rfl
  have hu := hu_of hr
  refine ⟨_, (pss_cons (ps_set (i := 2) nd rfl (by first | exact Or.inl rfl | exact Or.inr rfl) (pe_callF F_law_number (hr.mono (by first | decide | omega)) rfl (pa_cons (pvM 0) (pa_cons pe_int pa_nil))))
    (pss_cons (ps_set (i := 3) nd rfl (by first | exact Or.inl rfl | exact Or.inr rfl) (pe_lst pa_nil))
    (pss_cons (ps_for PassesOwn.never rfl (pi_range1 rfl T.b_range (pa_cons (pvM 1) pa_nil)) (pg_name (i := 4) nd rfl (by first | exact Or.inl rfl | exact Or.inr rfl)) (pss_cons (ps_expr (pe_mL PySem.F.slot_list_insert PySem.F.type_list_insert ml_insert (pvM 3) (pa_cons (pe_callF F_law_draw (hr.mono (by first | decide | omega)) rfl (pa_cons (pvM 0) (pa_cons (pe_op op_add (pe_callB call_lenL rfl T.b_len PySem.boot_len (pa_cons (pvM 3) pa_nil)) pe_int) pa_nil))) (pa_cons (pvM 2) pa_nil))))
    (pss_one (ps_set (i := 2) nd rfl (by first | exact Or.inl rfl | exact Or.inr rfl) (pe_op op_add (pe_op op_add (pvM 2) pe_int) (pe_ix ix_L (pe_lst (pa_cons pe_int (pa_cons pe_int (pa_cons (pe_callF F_law_draw (hr.mono (by first | decide | omega)) rfl (pa_cons (pvM 0) (pa_cons pe_int pa_nil))) pa_nil)))) (pe_callF F_law_draw (hr.mono (by first | decide | omega)) rfl (pa_cons (pvM 0) (pa_cons pe_int pa_nil))) (fun _ _ => rfl)))))))
    (pss_one (ps_ret (pe_callTy call_tupL rfl T.b_tuple (show bootBuiltins "tuple" = some (.type "tuple") by decide +kernel) (pa_cons (pvM 3) pa_nil))))))), ?_⟩
  (try ctx_has vcx true_and)
  refine ⟨d, l, _, rfl, D, by decide, by decide, fun lo H1 lo0 lo1 D1 B1 => ?_⟩
  (try ctx_has vcx true_and)
  refine ⟨by decide, fun p hp => ⟨by omega, by omega, ?_⟩⟩
  have np := D1.ne hp
  refine for_g wlk_range (fun i σ H' => ∃ (ns : List Int) (low : Int) (vk : Option V), σ = [some (.ref d), some (.int m), some (.int low), some (.ref p), vk] ∧ ns.length = i ∧ ns.Nodup ∧ (∀ x ∈ ns, -999000 ≤ x ∧ x < low) ∧ -999000 ≤ low ∧ low ≤ 999000 + 16 * i ∧ H' p = some (.lst (ns.map V.int)) ∧ DealAt H' d l ∧ But d l H H')
    ⟨[], _, _, rfl, rfl, by simp, by simp, lo0, by omega, upd_same, D1.new hp, B1.new hp⟩ (fun _ _ _ _ => True.intro) ?_ ?_
  · rintro i x σ H2 hi hx ⟨ns, low, vk, rfl, hlen, hnd, hall, l0, l1, h2, D2, B2⟩
    rw [rngV_length] at hi
    (try ctx_has vcx true_and h2)
    refine draw_rd D2 (by rw [List.length_map]; omega) (by rw [List.length_map]; omega) fun r3 H3 r30 r31 D3 B3 => ?_
    have h3 := B3 p _ np.1 np.2 h2
    (try ctx_has vcx true_and h3)
    simp only [List.length_map] at r31
    refine ⟨r30, by simp; omega, by simp; exact small1000 (by omega), ?_⟩
    have fr : H p = none := B1.free D1 hp
    refine draw_rd (D3.put np.1 np.2) (by decide) (by decide) fun r4 H4 r40 r41 D4 B4 => ?_
    refine ⟨by decide, fun p2 hp2 => ?_⟩
    refine draw_of D4 hp2 (by decide) (by decide) rfl fun r5 v H5 hv ha D5 B5 h5 => ?_
    have h5p := B5 p _ np.1 np.2 (B4 p _ np.1 np.2 upd_same)
    obtain ⟨y, rfl, y0, y1⟩ : ∃ y : Int, v = .int y ∧ 0 ≤ y ∧ y < 16 := by
      simp only [List.mem_cons, List.not_mem_nil, or_false] at hv
      rcases hv with rfl | rfl | rfl
      · exact ⟨0, rfl, by decide, by decide⟩
      · exact ⟨0, rfl, by decide, by decide⟩
      · exact ⟨r4, rfl, r40, r41⟩
    (try ctx_has vcx true_and h5 ha)
    refine ⟨ns.take r3.toNat ++ low :: ns.drop r3.toNat, by simp; omega, nodup_ins _ hnd (fun q => by have := hall low q; omega), fun z hz => ?_, by omega, by omega, by rw [h5p]; simp, D5, ((B2.trans B3).put fr).trans (B4.trans B5)⟩
    rcases mem_ins _ hz with rfl | q
    · omega
    · have := hall z q; omega
  · rintro σ H2 ⟨ns, low, vk, rfl, hlen, hnd, hall, l0, l1, h2, D2, B2⟩
    rw [rngV_length] at hlen l1
    (try ctx_has vcx true_and h2)
    intro p2 hp2
    exact k p2 ns _ (B2.free D2 hp2) hlen hnd (fun x hx => by have := hall x hx; omega) upd_same (D2.new hp2) (B2.new hp2)
theorem ok__law_many   (T : Txt w K mg base) (L : FnL K mg "_law_many" s__law_many ["_law_deal_here", "_law_most"]) (F_law_draw : Fn P w K mg base "_law_draw" 1 ["_law_deal_here", "_law_many_here"] (spDraw)) : Fn P w K mg base "_law_many" 2 ["_law_deal_here", "_law_most"] (spMany) := by
  have nd := sc__law_many.nd
  refine L.ok sc__law_many (fun vs H Q E h => ?_) (fun f cdv A outer s H vs Q E hr h => ?_) <;> obtain ⟨d, l, m, rfl, D, m0, m1, k⟩ := h
  · rfl
  have hu := hu_of hr
  refine ⟨_, (pss_one (ps_ret (pe_ix ix_L (pe_lst (pa_cons (pe_callF F_law_draw (hr.mono (by first | decide | omega)) rfl (pa_cons (pvM 0) (pa_cons (pe_op op_add (pe_callB (call_min2 rfl) rfl T.b_min (show bootBuiltins "min" = some (.builtin "min") by decide +kernel) (pa_cons (pvM 1) (pa_cons pe_int pa_nil))) pe_int) pa_nil))) (pa_cons (pe_callF F_law_draw (hr.mono (by first | decide | omega)) rfl (pa_cons (pvM 0) (pa_cons (pe_op op_add (pvM 1) pe_int) pa_nil))) (pa_cons (pvM 1) pa_nil)))) (pe_op op_fdivW (pe_callF F_law_draw (hr.mono (by first | decide | omega)) rfl (pa_cons (pvM 0) (pa_cons pe_int pa_nil))) pe_int) (fun _ _ => rfl)))), ?_⟩
  (try ctx_has vcx true_and)
  refine draw_rd D (by split <;> omega) (by split <;> omega) fun r H1 r0 r1 D1 B1 => ?_
  refine draw_rd D1 (by omega) (by omega) fun r2 H2 r20 r21 D2 B2 => ?_
  refine ⟨by decide, fun p hp => ?_⟩
  refine draw_rd (D2.new hp) (by decide) (by decide) fun r3 H3 r30 r31 D3 B3 => ?_
  have h3 := B3 p _ (D2.ne hp).1 (D2.ne hp).2 upd_same
  obtain ⟨v, ha, hv⟩ := atI_mem (xs := [V.int r, V.int r2, V.int m]) (i := r3 / 3) (by omega) (by simp; omega)
  refine ⟨_, rfl, ⟨by decide, by decide⟩, _, h3, _, ha, ?_⟩
  have BB := ((B1.trans B2).new (o := .lst [V.int r, V.int r2, V.int m]) hp).trans B3
  simp only [List.mem_cons, List.not_mem_nil, or_false] at hv
  rcases hv with rfl | rfl | rfl
  · exact k _ H3 r0 (by split at r1 <;> omega) D3 BB
  · exact k _ H3 r20 (by omega) D3 BB
  · exact k _ H3 m0 (by omega) D3 BB
noncomputable def KeepT (H H' : Hp) : Prop := ∀ a vs, H a = some (.tup vs) → H' a = some (.tup vs)
theorem KeepT.trans {H H1 H2 : Hp} (a : KeepT H H1) (b : KeepT H1 H2) : KeepT H H2 := fun p vs h => b p vs (a p vs h)
theorem Same.keepT {H H1 : Hp} (a : Same H H1) : KeepT H H1 := fun p vs h => a p _ h
theorem But.keepT {d l : Addr} {H H1 : Hp} (a : But d l H H1) (D : DealAt H d l) : KeepT H H1 := fun p vs h => by
  obtain ⟨m, sd, n, xs, hd, hl, _⟩ := D.ex
  exact a p _ (ne_of h hd (by intro z; cases z)) (ne_of h hl (by intro z; cases z)) h
theorem keepT_put {H : Hp} {p : Addr} {ys : List V} {o : HO} (h : H p = some (.lst ys)) : KeepT H (upd H p o) := fun b vs e => by
  rw [upd_ne (ne_of e h (by intro z; cases z))]; exact e
inductive Tr where
  | non | bl (b : Bool) | int (i : Int) | str (s : Str) | tup (l : List Tr)
mutual
/-- v stands for the data -/
noncomputable def TV (H : Hp) (v : V) : Tr → Prop
  | .non => v = .non
  | .bl b => v = .bl b
  | .int i => v = .int i
  | .str s => v = .str s ∧ s.length ≤ 20
  | .tup l => ∃ a xs, v = .ref a ∧ H a = some (.tup xs) ∧ TVs H xs l
noncomputable def TVs (H : Hp) (xs : List V) : List Tr → Prop
  | [] => xs = []
  | t :: l => ∃ x ys, xs = x :: ys ∧ TV H x t ∧ TVs H ys l
end
mutual
theorem TV.keep {H H' : Hp} (k : KeepT H H') : ∀ (t : Tr) {v : V}, TV H v t → TV H' v t
  | .non, _, h => h
  | .bl _, _, h => h
  | .int _, _, h => h
  | .str _, _, h => h
  | .tup l, _, h => by
    obtain ⟨a, xs, e, ha, r⟩ := h
    exact ⟨a, xs, e, k _ _ ha, TVs.keep k l r⟩
theorem TVs.keep {H H' : Hp} (k : KeepT H H') : ∀ (l : List Tr) {xs : List V}, TVs H xs l → TVs H' xs l
  | [], _, h => h
  | t :: l, _, h => by
    obtain ⟨x, ys, e, a, b⟩ := h
    exact ⟨x, ys, e, TV.keep k t a, TVs.keep k l b⟩
end
theorem TVs.len {H : Hp} : ∀ {l : List Tr} {xs : List V}, TVs H xs l → xs.length = l.length
  | [], _, h => by rw [show _ = [] from h]; rfl
  | t :: l, _, h => by obtain ⟨x, ys, rfl, _, b⟩ := h; simp [TVs.len b]
theorem TVs.at {H : Hp} : ∀ {l : List Tr} {xs : List V} {i : Nat} {x : V}, TVs H xs l → xs[i]? = some x → ∃ t, l[i]? = some t ∧ TV H x t
  | [], _, i, x, h, e => by rw [show _ = [] from h] at e; simp at e
  | t :: l, _, i, x, h, e => by
    obtain ⟨y, ys, rfl, a, b⟩ := h
    cases i with
    | zero => simp at e; subst e; exact ⟨t, rfl, a⟩
    | succ i => simpa using TVs.at b (by simpa using e)
theorem TVs.app {H : Hp} : ∀ {l m : List Tr} {xs ys : List V}, TVs H xs l → TVs H ys m → TVs H (xs ++ ys) (l ++ m)
  | [], _, _, _, h, h2 => by rw [show _ = [] from h]; exact h2
  | t :: l, _, _, _, h, h2 => by
    obtain ⟨y, zs, rfl, a, b⟩ := h
    exact ⟨y, _, rfl, a, TVs.app b h2⟩
theorem TVs.one {H : Hp} {x : V} {t : Tr} (h : TV H x t) : TVs H [x] [t] := ⟨x, [], rfl, h, rfl⟩
noncomputable def nmB (s : Str) : Bool := decide (1 ≤ s.length) && decide (s.length ≤ 8) && !inV (.str s) marksV && s.cps.toList.all smallB
theorem tv_strs {H : Hp} : ∀ {ws : List Str} {xs : List V}, TVs H xs (ws.map Tr.str) → xs = ws.map V.str
  | [], _, h => h
  | w :: ws, _, h => by
    obtain ⟨y, zs, rfl, a, b⟩ := h
    rw [a.1, tv_strs b]; rfl
theorem tv_nums {H : Hp} : ∀ {ns : List Int} {xs : List V}, TVs H xs (ns.map Tr.int) → xs = ns.map V.int
  | [], _, h => h
  | n :: ns, _, h => by
    obtain ⟨y, zs, rfl, a, b⟩ := h
    rw [show y = V.int n from a, tv_nums b]; rfl
inductive Wp where
  | un (ws : List Str) | ma (ns : List Int) (ws : List Str) (a b : Int) | su (ts : List (Int × Str)) (lo hi : Option Int) | ta (ws : List Str) (rs : List (List Int)) | wa (ws : List Str) (rs : List (List Int)) (es : List Int) | be (ws : List Str) (g : Int)
noncomputable def sortW : Wp → Str
  | .un _ => "unlike" | .ma _ _ _ _ => "many" | .su _ _ _ => "sum" | .ta _ _ => "table" | .wa _ _ _ => "way" | .be _ _ => "behind"
noncomputable def tS (ws : List Str) : Tr := .tup (ws.map Tr.str)
noncomputable def tI (ns : List Int) : Tr := .tup (ns.map Tr.int)
noncomputable def tR (rs : List (List Int)) : Tr := .tup (rs.map tI)
noncomputable def tT (ts : List (Int × Str)) : Tr := .tup (ts.map fun t => .tup [.int t.1, .str t.2])
noncomputable def tO : Option Int → Tr
  | none => .non
  | some i => .int i
noncomputable def trW : Wp → Tr
  | .un ws => .tup [.str "unlike", tS ws]
  | .ma ns ws a b => .tup [.str "many", tI ns, tS ws, .int a, .int b]
  | .su ts lo hi => .tup [.str "sum", tT ts, tO lo, tO hi]
  | .ta ws rs => .tup [.str "table", tS ws, tR rs]
  | .wa ws rs es => .tup [.str "way", tS ws, tR rs, tI es]
  | .be ws g => .tup [.str "behind", tS ws, .int g]
noncomputable def okI (n : Int) : Prop := n.natAbs ≤ 10000000000000
theorem okI.log {n : Int} (h : okI n) : n.natAbs.log2 < 1920 := by
  have h : n.natAbs ≤ 10000000000000 := h
  by_cases z : n.natAbs = 0
  · rw [z]; decide
  · exact Nat.lt_trans ((Nat.log2_lt z).mpr (show n.natAbs < 2 ^ 64 by omega)) (by decide)
noncomputable def okN (ws : List Str) : Prop := 1 ≤ ws.length ∧ ws.length ≤ 12 ∧ ∀ w ∈ ws, nmB w = true
noncomputable def okR (rs : List (List Int)) : Prop := rs.length ≤ 60 ∧ ∀ r ∈ rs, 1 ≤ r.length ∧ r.length ≤ 12 ∧ ∀ n ∈ r, okI n
noncomputable def okL (ns : List Int) : Prop := ns.length ≤ 60 ∧ ∀ n ∈ ns, okI n
noncomputable def okO (o : Option Int) : Prop := ∀ i, o = some i → okI i
noncomputable def okW : Wp → Prop
  | .un ws => okN ws
  | .ma ns ws a b => okL ns ∧ okN ws ∧ okI a ∧ okI b
  | .su ts lo hi => 1 ≤ ts.length ∧ ts.length ≤ 6 ∧ (∀ t ∈ ts, okI t.1 ∧ nmB t.2 = true) ∧ okO lo ∧ okO hi
  | .ta ws rs => okN ws ∧ okR rs
  | .wa ws rs es => okN ws ∧ okR rs ∧ (∀ r ∈ rs, r.length = 3) ∧ okL es
  | .be ws g => okN ws ∧ okI g
noncomputable def sI (n : Int) : Str := Str.ofString (toString n)
noncomputable def nw (ns : List Int) : List Str := ns.map sI
noncomputable def pw (ws : List Str) (r : List Int) : List Str := ws ++ ((if ws.length > 0 then [Str.ofString ";"] else []) ++ nw r)
noncomputable def pws (rs : List (List Int)) : List Str := rs.foldl pw []
noncomputable def bw : Option Int → Str
  | none => "_"
  | some i => sI i
noncomputable def tw (ts : List (Int × Str)) : List Str := ts.flatMap fun t => [sI t.1, t.2]
noncomputable abbrev so (s : String) : Str := Str.ofString s
noncomputable def wdW : Wp → List Str
  | .un ws => so "unlike" :: ws
  | .ma ns ws a b => so "many" :: (nw ns ++ ( so "in" :: (ws ++ [ so "from", sI a, so "to", sI b])))
  | .su ts lo hi => so "sum" :: (tw ts ++ [ so "from", bw lo, so "to", bw hi])
  | .ta ws rs => so "table" :: (ws ++ ( so ":" :: pws rs))
  | .wa ws rs es => so "way" :: (ws ++ ( so ":" :: (pws rs ++ ( so "end" :: nw es))))
  | .be ws g => so "behind" :: sI g :: ws
noncomputable abbrev lS (ws : List Str) : HO := .lst (ws.map V.str)
noncomputable def spNw : Sp := fun vs H Q _ => ∃ (a : Addr) (ns : List Int), vs = [.ref a] ∧ H a = some (.tup (ns.map V.int)) ∧ okL ns ∧ ∀ p H', H p = none → Same H H' → H' p = some (lS (nw ns)) → Q (.ref p) H'
noncomputable def spPw : Sp := fun vs H Q _ => ∃ (v : V) (rs : List (List Int)), vs = [v] ∧ TV H v (tR rs) ∧ okR rs ∧ ∀ p H', Same H H' → H' p = some (lS (pws rs)) → Q (.ref p) H'
noncomputable def spBw : Sp := fun vs H Q _ => ∃ (v : V) (o : Option Int), vs = [v] ∧ TV H v (tO o) ∧ okO o ∧ Q (.str (bw o)) H
noncomputable def spWr (y : Str) : Sp := fun vs H Q _ => ∃ (v : V) (W : Wp), vs = [v] ∧ sortW W = y ∧ TV H v (trW W) ∧ okW W ∧ ∀ p H', Same H H' → H' p = some (lS (wdW W)) → Q (.ref p) H'
theorem pws_len {rs : List (List Int)} {ws : List Str} (h : ∀ r ∈ rs, r.length ≤ 12) : (rs.foldl pw ws).length ≤ ws.length + 13 * rs.length := by
  induction rs generalizing ws with
  | nil => simp
  | cons r rs ih =>
    have h1 := ih (ws := pw ws r) fun x hx => h x (by simp [hx])
    have h2 := h r (by simp)
    have h3 : (pw ws r).length ≤ ws.length + 13 := by
      unfold pw nw
      rw [List.length_append, List.length_append, List.length_map]
      split <;> simp <;> omega
    rw [List.foldl_cons, List.length_cons]
    omega
theorem pw_fin {H H3 : Hp} {p b : Addr} {U Z : List Str} {r : List Int} (hp : H p = none) (hb : H b = some (.tup (r.map V.int))) (h3 : H3 p = some (lS U)) (s3 : Same H H3) (hr : okL r) (hU : U.length ≤ 900) (e : Z = U ++ nw r) :
    spNw [V.ref b] H3 (fun x H1 => ∃ b, x = V.ref b ∧ ∃ xs, H1 p = some (.lst xs) ∧ ∃ zs, H1 b = some (.lst zs) ∧ xs.length + zs.length ≤ sizeLine ∧ upd H1 p (.lst (xs ++ zs)) p = some (lS Z) ∧ Same H (upd H1 p (.lst (xs ++ zs)))) E0 := by
  refine ⟨b, r, rfl, s3 _ _ hb, hr, fun q H4 hq s4 h4 => ⟨q, rfl, _, s4 _ _ h3, _, h4, ?_, by rw [upd_same, e]; show some (HO.lst _) = some (HO.lst ((U ++ nw r).map V.str)); rw [List.map_append], (s3.trans s4).putN hp⟩⟩
  have := hr.1
  simp only [List.length_map, nw]
  exact Nat.le_of_lt (small1000 (by omega))
theorem tw_len : ∀ ts : List (Int × Str), (tw ts).length = 2 * ts.length
  | [] => rfl
  | t :: ts => by
    show ([sI t.1, t.2] ++ tw ts).length = _
    rw [List.length_append, tw_len ts, List.length_cons, List.length_cons, List.length_nil, List.length_cons]
    omega
theorem szl {n : Nat} (h : n ≤ 10000) : n ≤ sizeLine := Nat.le_trans h (by decide)
theorem rep_semi {H3 : Hp} {p1 : Addr} {n : Nat} {Q : VK} (h3 : H3 p1 = some (.lst [V.str (so ";")])) (q : ∀ p H4, Same H3 H4 → H4 p = some (lS (if n > 0 then [so ";"] else [])) → Q (.ref p) H4) : rRep (V.ref p1) (V.int (if 0 < (n : Int) then 1 else 0)) H3 Q := by
  by_cases h : n > 0
  · rw [if_pos (show 0 < (n : Int) by omega)]
    rw [if_pos h] at q
    exact ⟨p1, 1, _, rfl, rfl, h3, by decide, by decide, by decide, fun p hp => q p _ (Same.upd0 hp) upd_same⟩
  · rw [if_neg (show ¬ 0 < (n : Int) by omega)]
    rw [if_neg h] at q
    exact ⟨p1, 0, _, rfl, rfl, h3, by decide, by decide, by decide, fun p hp => q p _ (Same.upd0 hp) upd_same⟩
theorem comp_nw {K : PySem.W.Frag} {b : Addr} {ns : List Int} {Q : VK} {H1 : Hp} {D : Addr} (hb : H1 b = some (.tup (ns.map V.int))) (hok : okL ns) (hD : H1 D = none) (hd : ∀ H2, Same H1 H2 → H2 D = some (lS (nw ns)) → Q (.ref D) H2) :
    CompG (Itt K b) [none] (gName 0) tYes (tCB (fun xs H Q => ∃ i, xs = [V.int i] ∧ i.natAbs.log2 < 1920 ∧ Q (V.str (Str.ofString (toString i))) H) (tCons (tVarM 0) tNil)) Q H1 D := by
  refine comp_mapS wlk_tup (fun v => match v with | .int i => .str (sI i) | _ => .non) hD (fun H' s => .of (s _ _ hb)) (by rw [List.length_map]; have := hok.1; omega) ?_ ?_
  · intro x H2 Q2 hx sm q
    obtain ⟨i, hi, rfl⟩ := List.mem_map.mp hx
    (try ctx_has vcx true_and)
    exact ⟨(hok.2 i hi).log, q H2 (Same.refl _)⟩
  · intro H2 sm h2
    refine hd H2 sm ?_
    rw [h2, List.map_map]
    show some (HO.lst _) = some (HO.lst ((ns.map sI).map V.str))
    rw [List.map_map]
    rfl
theorem tvS {H : Hp} {v : V} {ws : List Str} (tv : TV H v (tS ws)) : ∃ b, v = .ref b ∧ H b = some (.tup (ws.map V.str)) := by
  obtain ⟨b, us, rfl, hb, hu⟩ := tv
  obtain rfl := tv_strs hu
  exact ⟨b, rfl, hb⟩
theorem tvI {H : Hp} {v : V} {ns : List Int} (tv : TV H v (tI ns)) : ∃ b, v = .ref b ∧ H b = some (.tup (ns.map V.int)) := by
  obtain ⟨b, us, rfl, hb, hu⟩ := tv
  obtain rfl := tv_nums hu
  exact ⟨b, rfl, hb⟩
theorem inv_un {W : Wp} (h : sortW W = so "unlike") : ∃ ws, W = .un ws := by
  cases W <;> simp only [sortW, so, ofS_inj, String.reduceEq] at h
  exact ⟨_, rfl⟩
theorem inv_ma {W : Wp} (h : sortW W = so "many") : ∃ ns ws a b, W = .ma ns ws a b := by
  cases W <;> simp only [sortW, so, ofS_inj, String.reduceEq] at h
  exact ⟨_, _, _, _, rfl⟩
theorem inv_su {W : Wp} (h : sortW W = so "sum") : ∃ ts lo hi, W = .su ts lo hi := by
  cases W <;> simp only [sortW, so, ofS_inj, String.reduceEq] at h
  exact ⟨_, _, _, rfl⟩
theorem inv_ta {W : Wp} (h : sortW W = so "table") : ∃ ws rs, W = .ta ws rs := by
  cases W <;> simp only [sortW, so, ofS_inj, String.reduceEq] at h
  exact ⟨_, _, rfl⟩
theorem inv_wa {W : Wp} (h : sortW W = so "way") : ∃ ws rs es, W = .wa ws rs es := by
  cases W <;> simp only [sortW, so, ofS_inj, String.reduceEq] at h
  exact ⟨_, _, _, rfl⟩
theorem inv_be {W : Wp} (h : sortW W = so "behind") : ∃ ws g, W = .be ws g := by
  cases W <;> simp only [sortW, so, ofS_inj, String.reduceEq] at h
  exact ⟨_, _, rfl⟩
theorem ok_number_words   (T : Txt w K mg base) (L : FnL K mg "number_words" s_number_words ["numbers"])  : Fn P w K mg base "number_words" 1 ["numbers"] (spNw) := by
  have nd := sc_number_words.nd
  refine L.ok sc_number_words (fun vs H Q E h => ?_) (fun f cdv A outer s H vs Q E hr h => ?_) <;> obtain ⟨a, ns, rfl, ha, hok, k⟩ := h
  · rfl
  have hu := hu_of hr
  refine ⟨_, (pss_one (ps_ret (pe_comp (N := ["number"]) (nt := 1) (js := []) rfl (compOk_of ["numbers"] (defScope s_number_words).names rfl rfl rfl (by decide +kernel)) (pi_TK (K := K) rfl (pvM 0)) (fun _ _ _ _ _ _ => (pg_name (i := 0) (show List.Nodup [("number" : Str)] by decide +kernel) rfl (Or.inl rfl))) (tgOk_name (by decide)) (fun _ _ _ _ _ _ => pts_nil) (fun _ _ _ _ _ _ => (pe_callTy call_str_int rfl T.b_str (show bootBuiltins "str" = some (.type "str") by decide +kernel) (pa_cons (pvM 0) pa_nil)))))), ?_⟩
  (try ctx_has vcx true_and ha)
  exact fun D hD => comp_nw ha hok hD fun H2 s2 h2 => k D H2 hD s2 h2
theorem ok_bound_word   (T : Txt w K mg base) (L : FnL K mg "bound_word" s_bound_word ["bound"])  : Fn P w K mg base "bound_word" 1 ["bound"] (spBw) := by
  have nd := sc_bound_word.nd
  refine L.ok sc_bound_word (fun vs H Q E h => ?_) (fun f cdv A outer s H vs Q E hr h => ?_) <;> obtain ⟨v, o, rfl, tv, hok, k⟩ := h
  · rfl
  have hu := hu_of hr
  refine ⟨_, (pss_one (ps_ret (pe_ifExp (pt_cmp (pc_isN (pvM 0))) pe_str (pe_callTy call_str_int rfl T.b_str (show bootBuiltins "str" = some (.type "str") by decide +kernel) (pa_cons (pvM 0) pa_nil))))), ?_⟩
  cases o with
  | none => cases (show v = _ from tv); (try ctx_has vcx true_and); exact k
  | some i => cases (show v = _ from tv); (try ctx_has vcx true_and); exact ⟨(hok i rfl).log, k⟩
theorem ok_parted_words   (T : Txt w K mg base) (L : FnL K mg "parted_words" s_parted_words ["rows"]) (Fnumber_words : Fn P w K mg base "number_words" 1 ["numbers"] (spNw)) : Fn P w K mg base "parted_words" 2 ["rows"] (spPw) := by
  have nd := sc_parted_words.nd
  refine L.ok sc_parted_words (fun vs H Q E h => ?_) (fun f cdv A outer s H vs Q E hr h => ?_) <;> obtain ⟨v, rs, rfl, tv, hok, k⟩ := h
  · rfl
  have hu := hu_of hr
  refine ⟨_, (pss_cons (ps_set (i := 1) nd rfl (by first | exact Or.inl rfl | exact Or.inr rfl) (pe_lstS pa_nil))
    (pss_cons (ps_for PassesOwn.never rfl (pi_TK (K := K) rfl (pvM 0)) (pg_name (i := 2) nd rfl (by first | exact Or.inl rfl | exact Or.inr rfl)) (pss_cons (ps_if (pt_cmpR op_gt (pe_callB call_lenL rfl T.b_len PySem.boot_len (pa_cons (pvM 1) pa_nil)) pe_int (nomark _)) (pss_one (ps_expr (pe_mL PySem.F.slot_list_append PySem.F.type_list_append ml_append (pvM 1) (pa_cons pe_str pa_nil)))) pss_nil)
    (pss_one (ps_expr (pe_mL PySem.F.slot_list_extend PySem.F.type_list_extend ml_extend (pvM 1) (pa_cons (pe_callF Fnumber_words (hr.mono (by first | decide | omega)) rfl (pa_cons (pvM 2) pa_nil)) pa_nil))))))
    (pss_one (ps_ret (pvM 1))))), ?_⟩
  obtain ⟨a, xs, rfl, ha, hx⟩ := tv
  (try ctx_has vcx true_and ha)
  refine ⟨by decide, fun p H1 hp s1 h1 => ⟨xs, s1 _ _ ha, ?_⟩⟩
  have hlen : xs.length = rs.length := by rw [hx.len, List.length_map]
  refine for_g wlk_tup (fun i σ H' => ∃ v2, σ = [some (.ref a), some (.ref p), v2] ∧ H' p = some (lS ((rs.take i).foldl pw [])) ∧ Same H H') ⟨_, rfl, h1, s1⟩ (fun i σ H' zq37 => by obtain ⟨_, _, _, s⟩ := zq37; exact (.of (s _ _ ha))) ?_ ?_
  · rintro i x σ H2 hi hxi ⟨v2, rfl, h2, s2⟩
    obtain ⟨t, ht, tx⟩ := hx.at hxi
    rw [List.getElem?_map] at ht
    obtain ⟨r, hr1, rfl⟩ := Option.map_eq_some_iff.mp ht
    obtain ⟨b, ys, rfl, hb, hy⟩ := tx
    obtain rfl := tv_nums hy
    have hb2 := s2 _ _ hb
    obtain ⟨r1, r2, r3⟩ := hok.2 r (List.mem_of_getElem? hr1)
    have hl := pws_len (rs := rs.take i) (ws := []) fun x hx => (hok.2 x (List.mem_of_mem_take hx)).2.1
    have h60 := hok.1
    have h61 : (rs.take i).length ≤ 60 := by rw [List.length_take]; omega
    rw [List.take_add_one, hr1, Option.toList_some, List.foldl_append, List.foldl_cons, List.foldl_nil]
    generalize (rs.take i).foldl pw [] = W at h2 hl
    rw [List.length_nil, Nat.zero_add] at hl
    (try ctx_has vcx true_and h2)
    refine ite2 (fun h => ?_) (fun h => ?_)
    · refine ⟨by rw [List.length_map]; exact small1000 (by omega), ⟨_, upd_same⟩, pw_fin hp hb (U := W ++ [so ";"]) (by rw [upd_same]; simp) (s2.putN hp) ⟨by omega, r3⟩ (by simp; omega) ?_⟩
      rw [List.length_map] at h
      unfold pw
      rw [if_pos (by omega), List.append_assoc]
    · rw [List.length_map] at h
      refine pw_fin hp hb h2 s2 ⟨by omega, r3⟩ (by omega) ?_
      unfold pw
      rw [if_neg (by omega), List.nil_append]
  · rintro σ H2 ⟨v2, rfl, h2, s2⟩
    rw [hlen, List.take_length] at h2
    (try ctx_has vcx true_and)
    exact k p H2 s2 h2
theorem ok_unlike_words   (T : Txt w K mg base) (L : FnL K mg "unlike_words" s_unlike_words ["wish"])  : Fn P w K mg base "unlike_words" 1 ["wish"] (spWr "unlike") := by
  have nd := sc_unlike_words.nd
  refine L.ok sc_unlike_words (fun vs H Q E h => ?_) (fun f cdv A outer s H vs Q E hr h => ?_) <;> obtain ⟨v, W, rfl, hs, tv, ok, k⟩ := h
  · rfl
  have hu := hu_of hr
  refine ⟨_, (pss_one (ps_ret (pe_op op_catLs (pe_lstS (pa_cons pe_str pa_nil)) (pe_callTy call_listTs rfl T.b_list (show bootBuiltins "list" = some (.type "list") by decide +kernel) (pa_cons (pe_ix ix_T (pvM 0) pe_int (fun _ _ => rfl)) pa_nil))))), ?_⟩
  obtain ⟨ws, rfl⟩ := inv_un hs
  obtain ⟨a, xs, rfl, ha, _, _, rfl, ⟨rfl, _⟩, _, _, rfl, ts, e⟩ := tv
  obtain ⟨b, rfl, hb⟩ := tvS ts
  cases (show _ = [] from e)
  have o1 : ws.length ≤ 12 := ok.2.1
  (try ctx_has vcx true_and ha)
  exact ⟨by decide, fun p H1 _ s1 h1 => ⟨_, s1 _ _ ha, _, rfl, _, rfl, _, s1 _ _ hb, fun l H2 s2 h2 => ⟨_, s2 _ _ h1, _, h2, szl (by simp; omega), fun q H3 s3 h3 => k q H3 ((s1.trans s2).trans s3) h3⟩⟩⟩
theorem ok_many_words   (T : Txt w K mg base) (L : FnL K mg "many_words" s_many_words ["wish"]) (Fnumber_words : Fn P w K mg base "number_words" 1 ["numbers"] (spNw)) : Fn P w K mg base "many_words" 2 ["wish"] (spWr "many") := by
  have nd := sc_many_words.nd
  refine L.ok sc_many_words (fun vs H Q E h => ?_) (fun f cdv A outer s H vs Q E hr h => ?_) <;> obtain ⟨v, W, rfl, hs, tv, ok, k⟩ := h
  · rfl
  have hu := hu_of hr
  refine ⟨_, (pss_one (ps_ret (pe_op op_catLs (pe_op op_catLs (pe_op op_catLs (pe_op op_catLs (pe_lstS (pa_cons pe_str pa_nil)) (pe_callF Fnumber_words (hr.mono (by first | decide | omega)) rfl (pa_cons (pe_ix ix_T (pvM 0) pe_int (fun _ _ => rfl)) pa_nil))) (pe_lstS (pa_cons pe_str pa_nil))) (pe_callTy call_listTs rfl T.b_list (show bootBuiltins "list" = some (.type "list") by decide +kernel) (pa_cons (pe_ix ix_T (pvM 0) pe_int (fun _ _ => rfl)) pa_nil))) (pe_lstS (pa_cons pe_str (pa_cons (pe_callTy call_str_int rfl T.b_str (show bootBuiltins "str" = some (.type "str") by decide +kernel) (pa_cons (pe_ix ix_T (pvM 0) pe_int (fun _ _ => rfl)) pa_nil)) (pa_cons pe_str (pa_cons (pe_callTy call_str_int rfl T.b_str (show bootBuiltins "str" = some (.type "str") by decide +kernel) (pa_cons (pe_ix ix_T (pvM 0) pe_int (fun _ _ => rfl)) pa_nil)) pa_nil)))))))), ?_⟩
  obtain ⟨ns, ws, c, d, rfl⟩ := inv_ma hs
  obtain ⟨a, xs, rfl, ha, _, _, rfl, ⟨rfl, _⟩, _, _, rfl, ti, _, _, rfl, ts, _, _, rfl, rfl, _, _, rfl, rfl, e⟩ := tv
  obtain ⟨b, rfl, hb⟩ := tvS ts
  obtain ⟨b2, rfl, hb2⟩ := tvI ti
  cases (show _ = [] from e)
  obtain ⟨on, ow, oc, od⟩ := ok
  have o1 : ws.length ≤ 12 := ow.2.1
  have o2 : ns.length ≤ 60 := on.1
  (try ctx_has vcx true_and ha)
  refine ⟨by decide, fun p H1 _ s1 h1 => ⟨_, s1 _ _ ha, _, rfl, b2, ns, rfl, s1 _ _ hb2, on, fun p2 H2 _ s2 h2 => ⟨_, rfl, _, s2 _ _ h1, _, h2, szl (by simp [nw]; omega), fun p3 H3 s3 h3 => ⟨by decide, fun p4 H4 _ s4 h4 => ⟨_, s4 _ _ h3, _, h4, szl (by simp [nw]; omega), fun p5 H5 s5 h5 => ?_⟩⟩⟩⟩⟩
  have S5 := (((s1.trans s2).trans s3).trans s4).trans s5
  refine ⟨_, S5 _ _ ha, _, rfl, _, rfl, _, S5 _ _ hb, fun p6 H6 s6 h6 => ⟨_, s6 _ _ h5, _, h6, szl (by simp [nw]; omega), fun p7 H7 s7 h7 => ?_⟩⟩
  have S7 := (S5.trans s6).trans s7
  refine ⟨_, S7 _ _ ha, _, rfl, _, rfl, oc.log, _, S7 _ _ ha, _, rfl, _, rfl, od.log, by decide, fun p8 H8 _ s8 h8 => ⟨_, s8 _ _ h7, _, h8, szl (by simp [nw]; omega), fun q H9 s9 h9 => k q H9 ((S7.trans s8).trans s9) ?_⟩⟩
  rw [h9]
  rw [show [V.str (so "from"), V.str (so (toString c)), V.str (so "to"), V.str (so (toString d))] = [so "from", sI c, so "to", sI d].map V.str from rfl]
  simp only [wdW, lS, List.map_append, List.map_cons, List.cons_append, List.nil_append, List.append_assoc]
theorem ok_behind_words   (T : Txt w K mg base) (L : FnL K mg "behind_words" s_behind_words ["wish"])  : Fn P w K mg base "behind_words" 1 ["wish"] (spWr "behind") := by
  have nd := sc_behind_words.nd
  refine L.ok sc_behind_words (fun vs H Q E h => ?_) (fun f cdv A outer s H vs Q E hr h => ?_) <;> obtain ⟨v, W, rfl, hs, tv, ok, k⟩ := h
  · rfl
  have hu := hu_of hr
  refine ⟨_, (pss_one (ps_ret (pe_op op_catLs (pe_lstS (pa_cons pe_str (pa_cons (pe_callTy call_str_int rfl T.b_str (show bootBuiltins "str" = some (.type "str") by decide +kernel) (pa_cons (pe_ix ix_T (pvM 0) pe_int (fun _ _ => rfl)) pa_nil)) pa_nil))) (pe_callTy call_listTs rfl T.b_list (show bootBuiltins "list" = some (.type "list") by decide +kernel) (pa_cons (pe_ix ix_T (pvM 0) pe_int (fun _ _ => rfl)) pa_nil))))), ?_⟩
  obtain ⟨ws, g, rfl⟩ := inv_be hs
  obtain ⟨a, xs, rfl, ha, _, _, rfl, ⟨rfl, _⟩, _, _, rfl, ts, _, _, rfl, rfl, e⟩ := tv
  obtain ⟨b, rfl, hb⟩ := tvS ts
  cases (show _ = [] from e)
  obtain ⟨ow, og⟩ := ok
  have o1 : ws.length ≤ 12 := ow.2.1
  (try ctx_has vcx true_and ha)
  refine ⟨og.log, by decide, fun p H1 _ s1 h1 => ⟨_, s1 _ _ ha, _, rfl, _, rfl, _, s1 _ _ hb, fun l H2 s2 h2 => ⟨_, s2 _ _ h1, _, h2, szl (by simp; omega), fun q H3 s3 h3 => k q H3 ((s1.trans s2).trans s3) h3⟩⟩⟩
theorem ok_sum_words   (T : Txt w K mg base) (L : FnL K mg "sum_words" s_sum_words ["wish"]) (Fbound_word : Fn P w K mg base "bound_word" 1 ["bound"] (spBw)) : Fn P w K mg base "sum_words" 2 ["wish"] (spWr "sum") := by
  have nd := sc_sum_words.nd
  refine L.ok sc_sum_words (fun vs H Q E h => ?_) (fun f cdv A outer s H vs Q E hr h => ?_) <;> obtain ⟨v, W, rfl, hs, tv, ok, k⟩ := h
  · rfl
  have hu := hu_of hr
  refine ⟨_, (pss_cons (ps_set (i := 1) nd rfl (by first | exact Or.inl rfl | exact Or.inr rfl) (pe_lstS (pa_cons pe_str pa_nil)))
    (pss_cons (ps_for PassesOwn.never rfl (pi_TK (K := K) rfl (pe_ix ix_T (pvM 0) pe_int (fun _ _ => rfl))) (pg_name (i := 2) nd rfl (by first | exact Or.inl rfl | exact Or.inr rfl)) (pss_one (ps_expr (pe_mL PySem.F.slot_list_extend PySem.F.type_list_extend ml_extend (pvM 1) (pa_cons (pe_lstS (pa_cons (pe_callTy call_str_int rfl T.b_str (show bootBuiltins "str" = some (.type "str") by decide +kernel) (pa_cons (pe_ix ix_T (pvM 2) pe_int (fun _ _ => rfl)) pa_nil)) (pa_cons (pe_ix ix_T (pvM 2) pe_int (fun _ _ => rfl)) pa_nil))) pa_nil)))))
    (pss_one (ps_ret (pe_op op_catLs (pvM 1) (pe_lstS (pa_cons pe_str (pa_cons (pe_callF Fbound_word (hr.mono (by first | decide | omega)) rfl (pa_cons (pe_ix ix_T (pvM 0) pe_int (fun _ _ => rfl)) pa_nil)) (pa_cons pe_str (pa_cons (pe_callF Fbound_word (hr.mono (by first | decide | omega)) rfl (pa_cons (pe_ix ix_T (pvM 0) pe_int (fun _ _ => rfl)) pa_nil)) pa_nil)))))))))), ?_⟩
  obtain ⟨ts, lo, hi, rfl⟩ := inv_su hs
  obtain ⟨a, xs, rfl, ha, _, _, rfl, ⟨rfl, _⟩, _, _, rfl, ⟨b, us, rfl, hb, hu⟩, x2, _, rfl, tl, x3, _, rfl, th, e⟩ := tv
  cases (show _ = [] from e)
  obtain ⟨o0, o1, ot, ol, oh⟩ := ok
  (try ctx_has vcx true_and ha)
  refine ⟨by decide, fun p H1 hp s1 h1 => ⟨_, s1 _ _ ha, _, rfl, _, rfl, _, s1 _ _ hb, ?_⟩⟩
  have hlen : us.length = ts.length := by rw [hu.len, List.length_map]
  refine for_g wlk_tup (fun i σ H' => ∃ v2, σ = [some (.ref a), some (.ref p), v2] ∧ H' p = some (lS (so "sum" :: tw (ts.take i))) ∧ Same H H') ⟨_, rfl, h1, s1⟩ (fun i σ H' zq38 => by obtain ⟨_, _, _, s⟩ := zq38; exact (.of (s _ _ hb))) ?_ ?_
  · rintro i x σ H2 hi hxi ⟨v2, rfl, h2, s2⟩
    obtain ⟨t, ht, tx⟩ := hu.at hxi
    rw [List.getElem?_map] at ht
    obtain ⟨⟨c, nm⟩, hr1, rfl⟩ := Option.map_eq_some_iff.mp ht
    obtain ⟨d, ys, rfl, hd, _, _, rfl, rfl, _, _, rfl, ⟨rfl, _⟩, e⟩ := tx
    cases (show _ = [] from e)
    have hd2 := s2 _ _ hd
    have oc := (ot (c, nm) (List.mem_of_getElem? hr1)).1
    have hl := tw_len (ts.take i)
    have hl2 : (ts.take i).length ≤ 6 := by rw [List.length_take]; omega
    rw [List.take_add_one, hr1, Option.toList_some]
    rw [show tw (ts.take i ++ [(c, nm)]) = tw (ts.take i) ++ [sI c, nm] by simp [tw]]
    generalize tw (ts.take i) = W at h2 hl ⊢
    (try ctx_has vcx true_and h2 hd2)
    refine ⟨oc.log, by decide, fun p1 H3 _ s3 h3 => ⟨_, s3 _ _ h2, _, h3, szl (by simp; omega), ?_, (s2.trans s3).putN hp⟩⟩
    rw [upd_same, show [V.str (Str.ofString (toString c)), V.str nm] = [sI c, nm].map V.str from rfl]
    simp only [lS, List.map_append, List.map_cons, List.cons_append]
  · rintro σ H2 ⟨v2, rfl, h2, s2⟩
    rw [hlen, List.take_length] at h2
    have hl := tw_len ts
    have ha2 := s2 _ _ ha
    (try ctx_has vcx true_and ha2)
    refine ⟨x2, lo, rfl, TV.keep (Same.keepT s2) _ tl, ol, _, ha2, _, rfl, x3, hi, rfl, TV.keep (Same.keepT s2) _ th, oh, by decide, fun p1 H3 _ s3 h3 => ⟨_, s3 _ _ h2, _, h3, szl (by simp; omega), fun q H4 s4 h4 => k q H4 ((s2.trans s3).trans s4) ?_⟩⟩
    rw [h4, show [V.str (Str.ofString "from"), V.str (bw lo), V.str (Str.ofString "to"), V.str (bw hi)] = [so "from", bw lo, so "to", bw hi].map V.str from rfl]
    simp only [wdW, lS, List.map_append, List.map_cons, List.cons_append]
theorem ok_table_words   (T : Txt w K mg base) (L : FnL K mg "table_words" s_table_words ["wish"]) (Fparted_words : Fn P w K mg base "parted_words" 2 ["rows"] (spPw)) : Fn P w K mg base "table_words" 3 ["wish"] (spWr "table") := by
  have nd := sc_table_words.nd
  refine L.ok sc_table_words (fun vs H Q E h => ?_) (fun f cdv A outer s H vs Q E hr h => ?_) <;> obtain ⟨v, W, rfl, hs, tv, ok, k⟩ := h
  · rfl
  have hu := hu_of hr
  refine ⟨_, (pss_one (ps_ret (pe_op op_catLs (pe_op op_catLs (pe_op op_catLs (pe_lstS (pa_cons pe_str pa_nil)) (pe_callTy call_listTs rfl T.b_list (show bootBuiltins "list" = some (.type "list") by decide +kernel) (pa_cons (pe_ix ix_T (pvM 0) pe_int (fun _ _ => rfl)) pa_nil))) (pe_lstS (pa_cons pe_str pa_nil))) (pe_callF Fparted_words (hr.mono (by first | decide | omega)) rfl (pa_cons (pe_ix ix_T (pvM 0) pe_int (fun _ _ => rfl)) pa_nil))))), ?_⟩
  obtain ⟨ws, rs, rfl⟩ := inv_ta hs
  obtain ⟨a, xs, rfl, ha, _, _, rfl, ⟨rfl, _⟩, _, _, rfl, ts, x2, _, rfl, tr, e⟩ := tv
  obtain ⟨b, rfl, hb⟩ := tvS ts
  cases (show _ = [] from e)
  obtain ⟨ow, or⟩ := ok
  have o1 : ws.length ≤ 12 := ow.2.1
  have o2 := pws_len (rs := rs) (ws := []) fun x hx => (or.2 x hx).2.1
  have o3 := or.1
  change (pws rs).length ≤ _ at o2
  rw [List.length_nil] at o2
  (try ctx_has vcx true_and ha)
  refine ⟨by decide, fun p H1 _ s1 h1 => ⟨_, s1 _ _ ha, _, rfl, _, rfl, _, s1 _ _ hb, fun l H2 s2 h2 => ⟨_, s2 _ _ h1, _, h2, szl (by simp; omega), fun p3 H3 s3 h3 => ⟨by decide, fun p4 H4 _ s4 h4 => ⟨_, s4 _ _ h3, _, h4, szl (by simp; omega), fun p5 H5 s5 h5 => ?_⟩⟩⟩⟩⟩
  have S5 := (((s1.trans s2).trans s3).trans s4).trans s5
  refine ⟨_, S5 _ _ ha, _, rfl, x2, rs, rfl, TV.keep (Same.keepT S5) _ tr, or, fun p6 H6 s6 h6 => ⟨_, rfl, _, s6 _ _ h5, _, h6, szl (by simp; omega), fun q H7 s7 h7 => k q H7 ((S5.trans s6).trans s7) ?_⟩⟩
  rw [h7]
  simp only [wdW, lS, List.map_append, List.map_cons, List.cons_append, List.nil_append, List.append_assoc]
theorem ok_way_words   (T : Txt w K mg base) (L : FnL K mg "way_words" s_way_words ["wish"]) (Fparted_words : Fn P w K mg base "parted_words" 2 ["rows"] (spPw)) (Fnumber_words : Fn P w K mg base "number_words" 1 ["numbers"] (spNw)) : Fn P w K mg base "way_words" 3 ["wish"] (spWr "way") := by
  have nd := sc_way_words.nd
  refine L.ok sc_way_words (fun vs H Q E h => ?_) (fun f cdv A outer s H vs Q E hr h => ?_) <;> obtain ⟨v, W, rfl, hs, tv, ok, k⟩ := h
  · rfl
  have hu := hu_of hr
  refine ⟨_, (pss_one (ps_ret (pe_op op_catLs (pe_op op_catLs (pe_op op_catLs (pe_op op_catLs (pe_op op_catLs (pe_lstS (pa_cons pe_str pa_nil)) (pe_callTy call_listTs rfl T.b_list (show bootBuiltins "list" = some (.type "list") by decide +kernel) (pa_cons (pe_ix ix_T (pvM 0) pe_int (fun _ _ => rfl)) pa_nil))) (pe_lstS (pa_cons pe_str pa_nil))) (pe_callF Fparted_words (hr.mono (by first | decide | omega)) rfl (pa_cons (pe_ix ix_T (pvM 0) pe_int (fun _ _ => rfl)) pa_nil))) (pe_lstS (pa_cons pe_str pa_nil))) (pe_callF Fnumber_words (hr.mono (by first | decide | omega)) rfl (pa_cons (pe_ix ix_T (pvM 0) pe_int (fun _ _ => rfl)) pa_nil))))), ?_⟩
  obtain ⟨ws, rs, es, rfl⟩ := inv_wa hs
  obtain ⟨a, xs, rfl, ha, _, _, rfl, ⟨rfl, _⟩, _, _, rfl, ts, x2, _, rfl, tr, _, _, rfl, ti, e⟩ := tv
  obtain ⟨b, rfl, hb⟩ := tvS ts
  obtain ⟨b2, rfl, hb2⟩ := tvI ti
  cases (show _ = [] from e)
  obtain ⟨ow, or, _, oe⟩ := ok
  have o1 : ws.length ≤ 12 := ow.2.1
  have o2 := pws_len (rs := rs) (ws := []) fun x hx => (or.2 x hx).2.1
  have o3 := or.1
  have o4 := oe.1
  change (pws rs).length ≤ _ at o2
  rw [List.length_nil] at o2
  (try ctx_has vcx true_and ha)
  refine ⟨by decide, fun p H1 _ s1 h1 => ⟨_, s1 _ _ ha, _, rfl, _, rfl, _, s1 _ _ hb, fun l H2 s2 h2 => ⟨_, s2 _ _ h1, _, h2, szl (by simp; omega), fun p3 H3 s3 h3 => ⟨by decide, fun p4 H4 _ s4 h4 => ⟨_, s4 _ _ h3, _, h4, szl (by simp; omega), fun p5 H5 s5 h5 => ?_⟩⟩⟩⟩⟩
  have S5 := (((s1.trans s2).trans s3).trans s4).trans s5
  refine ⟨_, S5 _ _ ha, _, rfl, x2, rs, rfl, TV.keep (Same.keepT S5) _ tr, or, fun p6 H6 s6 h6 => ⟨_, rfl, _, s6 _ _ h5, _, h6, szl (by simp; omega), fun p7 H7 s7 h7 => ⟨by decide, fun p8 H8 _ s8 h8 => ⟨_, s8 _ _ h7, _, h8, szl (by simp; omega), fun p9 H9 s9 h9 => ?_⟩⟩⟩⟩
  have S9 := (((S5.trans s6).trans s7).trans s8).trans s9
  refine ⟨_, S9 _ _ ha, _, rfl, b2, es, rfl, S9 _ _ hb2, oe, fun pA HA _ sA hA => ⟨_, rfl, _, sA _ _ h9, _, hA, szl (by simp [nw]; omega), fun q HB sB hB => k q HB ((S9.trans sA).trans sB) ?_⟩⟩
  rw [hB]
  simp only [wdW, lS, List.map_append, List.map_cons, List.map_nil, List.cons_append, List.nil_append, List.append_assoc]
inductive Wq where
  | pl (W : Wp) | sa (c : Str) (ns : List Int) (W : Wp)
noncomputable def trQ : Wq → Tr
  | .pl W => trW W
  | .sa c ns W => .tup [.str "same", .str c, tI ns, trW W]
noncomputable def okQ : Wq → Prop
  | .pl W => okW W
  | .sa c ns W => nmB c = true ∧ okL ns ∧ okW W
noncomputable def hdW (c : Str) (ns : List Int) : List Str := so "same" :: c :: (nw ns ++ [so ":"])
noncomputable def wdQ : Wq → List Str
  | .pl W => wdW W
  | .sa c ns W => hdW c ns ++ wdW W
noncomputable def spSh : Sp := fun vs H Q _ => ∃ (v : V) (c : Str) (ns : List Int) (W : Wp), vs = [v] ∧ TV H v (trQ (.sa c ns W)) ∧ okL ns ∧ ∀ p H', Same H H' → H' p = some (lS (hdW c ns)) → Q (.ref p) H'
noncomputable def Wd (w : Str) : Prop := sg w ≠ [] ∧ 32 ∉ sg w ∧ 35 ∉ sg w ∧ 10 ∉ sg w ∧ w.length ≤ 20
theorem wd_int {n : Int} (h : okI n) : Wd (sI n) := by
  have h : n.natAbs ≤ 10000000000000 := h
  have hn := num_text (num_int (i := n) (by omega))
  refine ⟨fun e => ?_, PyProof.Rows.int_text_free' 32 ⟨by decide, by decide⟩ n, PyProof.Rows.int_text_free' 35 ⟨by decide, by decide⟩ n, PyProof.Rows.int_text_free' 10 ⟨by decide, by decide⟩ n, by have := hn.2; show (Str.ofString (toString n)).length ≤ 20; omega⟩
  have e1 := sg_int n
  rw [show sg (Str.ofString (toString n)) = [] from e] at e1
  split at e1
  · cases e1
  · exact dig_ne _ e1.symm
theorem wd_nm {w : Str} (h : nmB w = true) : Wd w := by
  simp only [nmB, Bool.and_eq_true, decide_eq_true_eq] at h
  obtain ⟨⟨⟨h1, h2⟩, _⟩, h4⟩ := h
  have hl : w.length = (sg w).length := by simp [Str.length, sg]
  have hn : ∀ c, smallB c = false → c ∉ sg w := fun c hc hm => by
    have := List.all_eq_true.mp h4 c hm
    rw [hc] at this; cases this
  refine ⟨fun e => ?_, hn 32 (by decide), hn 35 (by decide), hn 10 (by decide), by omega⟩
  rw [e] at hl
  simp at hl
  omega
theorem wd_nw {ns : List Int} (h : okL ns) : ∀ w ∈ nw ns, Wd w := fun w hw => by
  obtain ⟨n, hn, rfl⟩ := List.mem_map.mp hw
  exact wd_int (h.2 n hn)
theorem wd_pws {rs : List (List Int)} (h : ∀ r ∈ rs, ∀ n ∈ r, okI n) : ∀ {ws : List Str}, (∀ w ∈ ws, Wd w) → ∀ w ∈ rs.foldl pw ws, Wd w := by
  induction rs with
  | nil => exact fun h => h
  | cons r rs ih =>
    intro ws hw
    refine ih (fun r hr => h r (by simp [hr])) fun w hm => ?_
    unfold pw at hm
    rcases List.mem_append.mp hm with z | z
    · exact hw w z
    · rcases List.mem_append.mp z with z | z
      · split at z
        · rw [List.mem_singleton.mp z]; unfold Wd; decide
        · cases z
      · obtain ⟨n, hn, rfl⟩ := List.mem_map.mp z
        exact wd_int (h r (by simp) n hn)
theorem wd_so {s : String} (h : (sg (so s) ≠ [] ∧ 32 ∉ sg (so s) ∧ 35 ∉ sg (so s) ∧ 10 ∉ sg (so s) ∧ (so s).length ≤ 20)) : Wd (so s) := h
theorem wd_bw {o : Option Int} (h : okO o) : Wd (bw o) := by
  cases o with
  | none => exact wd_so (s := "_") (by decide)
  | some i => exact wd_int (h i rfl)
theorem wd_W {W : Wp} (h : okW W) : (∀ w ∈ wdW W, Wd w) ∧ (wdW W).length ≤ 900 := by
  cases W with
  | un ws =>
    obtain ⟨_, h1, h2⟩ := h
    refine ⟨fun w hw => ?_, by simp [wdW]; omega⟩
    rcases List.mem_cons.mp hw with rfl | z
    · exact wd_so (by decide)
    · exact wd_nm (h2 w z)
  | ma ns ws a b =>
    obtain ⟨hn, ⟨_, h1, h2⟩, ha, hb⟩ := h
    have := hn.1
    refine ⟨fun w hw => ?_, by simp [wdW, nw]; omega⟩
    simp only [wdW, List.mem_cons, List.mem_append, List.not_mem_nil, or_false] at hw
    rcases hw with rfl | z | rfl | z | rfl | rfl | rfl | rfl
    · exact wd_so (by decide)
    · exact wd_nw hn w z
    · exact wd_so (by decide)
    · exact wd_nm (h2 w z)
    · exact wd_so (by decide)
    · exact wd_int ha
    · exact wd_so (by decide)
    · exact wd_int hb
  | su ts lo hi =>
    obtain ⟨_, h1, ht, hl, hh⟩ := h
    have := tw_len ts
    refine ⟨fun w hw => ?_, by simp [wdW]; omega⟩
    simp only [wdW, List.mem_cons, List.mem_append, List.not_mem_nil, or_false] at hw
    rcases hw with rfl | z | rfl | rfl | rfl | rfl
    · exact wd_so (by decide)
    · obtain ⟨t, h3, h4⟩ := List.mem_flatMap.mp z
      simp only [List.mem_cons, List.not_mem_nil, or_false] at h4
      rcases h4 with rfl | rfl
      · exact wd_int (ht t h3).1
      · exact wd_nm (ht t h3).2
    · exact wd_so (by decide)
    · exact wd_bw hl
    · exact wd_so (by decide)
    · exact wd_bw hh
  | ta ws rs =>
    obtain ⟨⟨_, h1, h2⟩, hr⟩ := h
    have o2 := pws_len (rs := rs) (ws := []) fun x hx => (hr.2 x hx).2.1
    have o3 := hr.1
    change (pws rs).length ≤ _ at o2
    rw [List.length_nil] at o2
    refine ⟨fun w hw => ?_, by simp [wdW]; omega⟩
    simp only [wdW, List.mem_cons, List.mem_append] at hw
    rcases hw with rfl | z | rfl | z
    · exact wd_so (by decide)
    · exact wd_nm (h2 w z)
    · exact wd_so (by decide)
    · exact wd_pws (fun r h => (hr.2 r h).2.2) (by simp) w z
  | wa ws rs es =>
    obtain ⟨⟨_, h1, h2⟩, hr, _, he⟩ := h
    have o2 := pws_len (rs := rs) (ws := []) fun x hx => (hr.2 x hx).2.1
    have o3 := hr.1
    have o4 := he.1
    change (pws rs).length ≤ _ at o2
    rw [List.length_nil] at o2
    refine ⟨fun w hw => ?_, by simp [wdW, nw]; omega⟩
    simp only [wdW, List.mem_cons, List.mem_append] at hw
    rcases hw with rfl | z | rfl | z | rfl | z
    · exact wd_so (by decide)
    · exact wd_nm (h2 w z)
    · exact wd_so (by decide)
    · exact wd_pws (fun r h => (hr.2 r h).2.2) (by simp) w z
    · exact wd_so (by decide)
    · exact wd_nw he w z
  | be ws g =>
    obtain ⟨⟨_, h1, h2⟩, hg⟩ := h
    refine ⟨fun w hw => ?_, by simp [wdW]; omega⟩
    simp only [wdW, List.mem_cons] at hw
    rcases hw with rfl | rfl | z
    · exact wd_so (by decide)
    · exact wd_int hg
    · exact wd_nm (h2 w z)
theorem wd_Q {q : Wq} (h : okQ q) : (∀ w ∈ wdQ q, Wd w) ∧ (wdQ q).length ≤ 970 := by
  cases q with
  | pl W => exact ⟨(wd_W h).1, by have := (wd_W h).2; show (wdW W).length ≤ _; omega⟩
  | sa c ns W =>
    obtain ⟨h1, h2, h3⟩ := h
    have := h2.1
    have h4 := wd_W h3
    refine ⟨fun w hw => ?_, by simp [wdQ, hdW, nw]; omega⟩
    simp only [wdQ, hdW, List.mem_cons, List.mem_append, List.not_mem_nil, or_false] at hw
    rcases hw with (rfl | rfl | z | rfl) | z
    · exact wd_so (by decide)
    · exact wd_nm h1
    · exact wd_nw h2 w z
    · exact wd_so (by decide)
    · exact h4.1 w z
theorem sum_len {ws : List Str} (h : ∀ w ∈ ws, Wd w) : (ws.map (·.length)).sum ≤ 20 * ws.length := by
  induction ws with
  | nil => simp
  | cons w ws ih =>
    have h1 := ih fun x hx => h x (by simp [hx])
    have h2 := (h w (by simp)).2.2.2.2
    rw [List.map_cons, List.sum_cons, List.length_cons]
    omega
theorem ok_same_head_words   (T : Txt w K mg base) (L : FnL K mg "same_head_words" s_same_head_words ["wish"]) (Fnumber_words : Fn P w K mg base "number_words" 1 ["numbers"] (spNw)) : Fn P w K mg base "same_head_words" 2 ["wish"] (spSh) := by
  have nd := sc_same_head_words.nd
  refine L.ok sc_same_head_words (fun vs H Q E h => ?_) (fun f cdv A outer s H vs Q E hr h => ?_) <;> obtain ⟨v, c, ns, W, rfl, tv, on, k⟩ := h
  · rfl
  have hu := hu_of hr
  refine ⟨_, (pss_one (ps_ret (pe_op op_catLs (pe_op op_catLs (pe_lstS (pa_cons pe_str (pa_cons (pe_ix ix_T (pvM 0) pe_int (fun _ _ => rfl)) pa_nil))) (pe_callF Fnumber_words (hr.mono (by first | decide | omega)) rfl (pa_cons (pe_ix ix_T (pvM 0) pe_int (fun _ _ => rfl)) pa_nil))) (pe_lstS (pa_cons pe_str pa_nil))))), ?_⟩
  obtain ⟨a, xs, rfl, ha, _, _, rfl, ⟨rfl, _⟩, _, _, rfl, ⟨rfl, _⟩, _, _, rfl, ti, _, _, rfl, tw, e⟩ := tv
  obtain ⟨b, rfl, hb⟩ := tvI ti
  cases (show _ = [] from e)
  have o1 := on.1
  (try ctx_has vcx true_and ha)
  refine ⟨by decide, fun p H1 _ s1 h1 => ⟨_, s1 _ _ ha, _, rfl, b, ns, rfl, s1 _ _ hb, on, fun p2 H2 _ s2 h2 => ⟨_, rfl, _, s2 _ _ h1, _, h2, szl (by simp [nw]; omega), fun p3 H3 s3 h3 => ⟨by decide, fun p4 H4 _ s4 h4 => ⟨_, s4 _ _ h3, _, h4, szl (by simp [nw]; omega), fun q H5 s5 h5 => k q H5 ((((s1.trans s2).trans s3).trans s4).trans s5) ?_⟩⟩⟩⟩⟩
  rw [h5]
  simp only [hdW, lS, List.map_append, List.map_cons, List.map_nil, List.cons_append, List.nil_append, List.append_assoc]
noncomputable def six : List Str := ["unlike", "many", "sum", "table", "way", "behind"]
theorem sort_six (W : Wp) : sortW W ∈ six := by cases W <;> simp [sortW, six]
theorem sort_same (W : Wp) : ¬ sortW W = so "same" := by cases W <;> simp only [sortW, so, ofS_inj, String.reduceEq, not_false_eq_true]
theorem tv_sort {H : Hp} {v : V} {W : Wp} (tv : TV H v (trW W)) : ∃ a ys, v = .ref a ∧ H a = some (.tup (.str (sortW W) :: ys)) := by
  cases W <;> obtain ⟨a, xs, rfl, ha, _, _, rfl, ⟨rfl, _⟩, _⟩ := tv <;> exact ⟨a, _, rfl, ha⟩
noncomputable def spShow : Sp := fun vs H Q _ => ∃ (v : V) (q : Wq), vs = [v] ∧ TV H v (trQ q) ∧ okQ q ∧ ∀ H', Same H H' → Q (.str (Txt.join (so " ") (wdQ q))) H'
theorem ok_show_wish  (FT_PLAIN_WRITERS : ∀ y ∈ six, FnT P w K mg base (clsAt mg "PLAIN_WRITERS") y 4 ["wish"] (spWr y)) (T : Txt w K mg base) (L : FnL K mg "show_wish" s_show_wish ["wish"]) (Fsame_head_words : Fn P w K mg base "same_head_words" 2 ["wish"] (spSh)) : Fn P w K mg base "show_wish" 6 ["wish"] (spShow) := by
  have nd := sc_show_wish.nd
  refine L.ok sc_show_wish (fun vs H Q E h => ?_) (fun f cdv A outer s H vs Q E hr h => ?_) <;> obtain ⟨v, q, rfl, tv, ok, k⟩ := h
  · rfl
  have hu := hu_of hr
  refine ⟨_, (pss_cons (ps_set (i := 1) nd rfl (by first | exact Or.inl rfl | exact Or.inr rfl) (pe_lstS pa_nil))
    (pss_cons (ps_set (i := 2) nd rfl (by first | exact Or.inl rfl | exact Or.inr rfl) (pvM 0))
    (pss_cons (ps_while PassesOwn.never (pt_cmpR op_eq (pe_ix ix_T (pvM 2) pe_int (fun _ _ => rfl)) pe_str (nomark _)) (pss_cons (ps_expr (pe_mL PySem.F.slot_list_extend PySem.F.type_list_extend ml_extend (pvM 1) (pa_cons (pe_callF Fsame_head_words (hr.mono (by first | decide | omega)) rfl (pa_cons (pvM 2) pa_nil)) pa_nil)))
    (pss_one (ps_set (i := 2) nd rfl (by first | exact Or.inl rfl | exact Or.inr rfl) (pe_ix ix_T (pvM 2) pe_int (fun _ _ => rfl))))))
    (pss_one (ps_ret (pe_mS PySem.F.slot_str_join PySem.F.type_str_join ms_join pe_str (pa_cons (pe_op op_catLs (pvM 1) (pe_callT T.tb_PLAIN_WRITERS FT_PLAIN_WRITERS (hr.mono (by first | decide | omega)) rfl T.at_PLAIN_WRITERS (pe_ix ix_T (pvM 2) pe_int (fun _ _ => rfl)) (pa_cons (pvM 2) pa_nil) (fun _ _ => rfl))) pa_nil))))))), ?_⟩
  (try ctx_has vcx true_and)
  refine ⟨by decide, fun p H1 hp s1 h1 => ?_⟩
  refine while_rd (fun μ σ H' => ∃ (us : List Str) (W : Wp) (x : V), σ = [some v, some (.ref p), some x] ∧ H' p = some (lS us) ∧ Same H H' ∧ okW W ∧ us.length ≤ 63 ∧ ((μ = 0 ∧ TV H x (trW W) ∧ wdQ q = us ++ wdW W) ∨ (μ = 1 ∧ us = [] ∧ ∃ c ns, q = .sa c ns W ∧ x = v)))
    (fun σ H' => ∃ (us : List Str) (W : Wp) (x : V), σ = [some v, some (.ref p), some x] ∧ H' p = some (lS us) ∧ Same H H' ∧ okW W ∧ us.length ≤ 63 ∧ TV H x (trW W) ∧ wdQ q = us ++ wdW W) ?_ ?_ ?_
  · cases q with
    | pl W => exact ⟨0, [], W, v, rfl, h1, s1, ok, by simp, .inl ⟨rfl, tv, rfl⟩⟩
    | sa c ns W => exact ⟨1, [], W, v, rfl, h1, s1, ok.2.2, by simp, .inr ⟨rfl, rfl, c, ns, rfl, rfl⟩⟩
  · rintro R hR m σ H2 ⟨us, W, x, rfl, h2, s2, oW, hl, ⟨rfl, tx, e⟩ | ⟨rfl, rfl, c, ns, rfl, rfl⟩⟩
    · obtain ⟨a, ys, rfl, ha⟩ := tv_sort tx
      have ha2 := s2 _ _ ha
      (try ctx_has vcx true_and ha2)
      rw [if_neg (sort_same W)]
      exact hR _ _ ⟨us, W, _, rfl, h2, s2, oW, hl, tx, e⟩
    · have tv0 := tv
      obtain ⟨a, xs, rfl, ha, _, _, rfl, ⟨rfl, _⟩, _, _, rfl, ⟨rfl, _⟩, _, _, rfl, ti, y, _, rfl, tw, e⟩ := tv
      cases (show _ = [] from e)
      have ha2 := s2 _ _ ha
      (try ctx_has vcx true_and ha2)
      refine ⟨fun σ' H' => ∃ x, σ' = [some (.ref a), some (.ref p), some x] ∧ H' p = some (lS (hdW c ns)) ∧ Same H H' ∧ TV H x (trW W), ?_, ⟨_, h2⟩, ?_⟩
      · rintro σ' H' ⟨x, rfl, g1, g2, g3⟩
        exact ⟨0, by decide, hdW c ns, W, x, rfl, g1, g2, oW, by have := ok.2.1.1; simp [hdW, nw]; omega, .inl ⟨rfl, g3, rfl⟩⟩
      · exact ⟨_, c, ns, W, rfl, TV.keep (Same.keepT s2) _ tv0, ok.2.1, fun b H3 s3 h3 => ⟨b, rfl, _, s3 _ _ h2, _, h3, szl (by have := ok.2.1.1; simp [hdW, nw]; omega), _, by rw [upd_ne (ne_of_none ha hp)]; exact s3 _ _ ha2, _, rfl, y, rfl, upd_same, (s2.trans s3).putN hp, tw⟩⟩
  · rintro σ H2 ⟨us, W, x, rfl, h2, s2, oW, hl, tx, e⟩
    obtain ⟨a, ys, rfl, ha⟩ := tv_sort tx
    have ha2 := s2 _ _ ha
    (try ctx_has vcx true_and ha2 tCallT)
    have h5 := wd_Q ok
    rw [e] at h5
    have h6 := sum_len h5.1
    have h7 := (wd_W oW).2
    refine ⟨sort_six W, _, W, rfl, rfl, TV.keep (Same.keepT s2) _ tx, oW, fun b H3 s3 h3 => ⟨b, rfl, _, s3 _ _ h2, _, h3, szl (by simp; omega), fun r H4 s4 h4 => ⟨us ++ wdW W, by rw [h4, List.map_append], ?_, ?_⟩⟩⟩
    · rw [show (Str.ofString " ").length = 1 by decide]
      omega
    · rw [← e]; exact k H4 ((s2.trans s3).trans s4)
theorem ok__law_pieces   (T : Txt w K mg base) (L : FnL K mg "_law_pieces" s__law_pieces ["_law_pieces_here"])  : Fn P w K mg base "_law_pieces" 1 ["_law_pieces_here"] (spPw) := by
  have nd := sc__law_pieces.nd
  refine L.ok sc__law_pieces (fun vs H Q E h => ?_) (fun f cdv A outer s H vs Q E hr h => ?_) <;> obtain ⟨v, rs, rfl, tv, hok, k⟩ := h
  · rfl
  have hu := hu_of hr
  refine ⟨_, (pss_cons (ps_set (i := 1) nd rfl (by first | exact Or.inl rfl | exact Or.inr rfl) (pe_lstS pa_nil))
    (pss_cons (ps_for PassesOwn.never rfl (pi_TK (K := K) rfl (pvM 0)) (pg_name (i := 2) nd rfl (by first | exact Or.inl rfl | exact Or.inr rfl)) (pss_one (ps_set (i := 1) nd rfl (by first | exact Or.inl rfl | exact Or.inr rfl) (pe_op op_catLs (pe_op op_catLs (pvM 1) (pe_op op_rep (pe_lstS (pa_cons pe_str pa_nil)) (pe_callTy call_int1 rfl T.b_int (show bootBuiltins "int" = some (.type "int") by decide +kernel) (pa_cons (pe_cmpR op_gt (pe_callB call_lenL rfl T.b_len PySem.boot_len (pa_cons (pvM 1) pa_nil)) pe_int (nomark _)) pa_nil)))) (pe_comp (N := ["_law_number_here"]) (nt := 1) (js := []) rfl (compOk_of ["_law_pieces_here", "_law_words_here", "_law_piece"] (defScope s__law_pieces).names rfl rfl rfl (by decide +kernel)) (pi_TK (K := K) rfl (pvM 2)) (fun _ _ _ _ _ _ => (pg_name (i := 0) (show List.Nodup [("_law_number_here" : Str)] by decide +kernel) rfl (Or.inl rfl))) (tgOk_name (by decide)) (fun _ _ _ _ _ _ => pts_nil) (fun _ _ _ _ _ _ => (pe_callTy call_str_int rfl T.b_str (show bootBuiltins "str" = some (.type "str") by decide +kernel) (pa_cons (pvM 0) pa_nil))))))))
    (pss_one (ps_ret (pvM 1))))), ?_⟩
  obtain ⟨a, xs, rfl, ha, hx⟩ := tv
  (try ctx_has vcx true_and ha)
  refine ⟨by decide, fun p H1 hp s1 h1 => ⟨xs, s1 _ _ ha, ?_⟩⟩
  have hlen : xs.length = rs.length := by rw [hx.len, List.length_map]
  refine for_g wlk_tup (fun i σ H' => ∃ v2 q, σ = [some (.ref a), some (.ref q), v2] ∧ H' q = some (lS ((rs.take i).foldl pw [])) ∧ Same H H') ⟨_, p, rfl, h1, s1⟩ (fun i σ H' zq39 => by obtain ⟨_, _, _, _, s⟩ := zq39; exact (.of (s _ _ ha))) ?_ ?_
  · rintro i x σ H2 hi hxi ⟨v2, q, rfl, h2, s2⟩
    obtain ⟨t, ht, tx⟩ := hx.at hxi
    rw [List.getElem?_map] at ht
    obtain ⟨r, hr1, rfl⟩ := Option.map_eq_some_iff.mp ht
    obtain ⟨b, ys, rfl, hb, hy⟩ := tx
    obtain rfl := tv_nums hy
    have hb2 := s2 _ _ hb
    obtain ⟨r1, r2, r3⟩ := hok.2 r (List.mem_of_getElem? hr1)
    have hl := pws_len (rs := rs.take i) (ws := []) fun x hx => (hok.2 x (List.mem_of_mem_take hx)).2.1
    have h60 := hok.1
    have h61 : (rs.take i).length ≤ 60 := by rw [List.length_take]; omega
    rw [List.take_add_one, hr1, Option.toList_some, List.foldl_append, List.foldl_cons, List.foldl_nil]
    generalize (rs.take i).foldl pw [] = W at h2 hl
    rw [List.length_nil, Nat.zero_add] at hl
    (try ctx_has vcx true_and h2)
    refine ⟨by decide, fun p1 H3 _ s3 h3 => ⟨_, s3 _ _ h2, ?_⟩⟩
    rw [List.length_map]
    refine rep_semi h3 fun p2 H4 s4 h4 => ⟨p2, rfl, _, s4 _ _ (s3 _ _ h2), _, h4, szl (by simp; split <;> simp <;> omega), fun p5 H5 s5 h5 => ⟨_, s5 _ _ (s4 _ _ (s3 _ _ hb2)), fun D hD => ?_⟩⟩
    refine comp_nw (s5 _ _ (s4 _ _ (s3 _ _ hb2))) ⟨by omega, r3⟩ hD fun H6 s6 h6 => ⟨D, rfl, _, s6 _ _ h5, _, h6, szl (by simp [nw]; split <;> simp <;> omega), fun p7 H7 s7 h7 => ⟨?_, ((((s2.trans s3).trans s4).trans s5).trans s6).trans s7⟩⟩
    rw [h7]
    simp only [lS, pw, List.map_append, List.append_assoc]
  · rintro σ H2 ⟨v2, q, rfl, h2, s2⟩
    rw [hlen, List.take_length] at h2
    (try ctx_has vcx true_and)
    exact k q H2 s2 h2
noncomputable def oV : Option Int → V
  | none => .non
  | some i => .int i
theorem tO_v {H : Hp} {x : V} {o : Option Int} (tv : TV H x (tO o)) : x = oV o := by cases o <;> exact tv
noncomputable def fwV (v : V) : V := match v with | .int i => .str (sI i) | _ => .str (so "_")
theorem fwV_o (o : Option Int) : fwV (oV o) = .str (bw o) := by cases o <;> rfl
noncomputable def spLw (b : Bool) : Sp := fun vs H Q _ => ∃ (v : V) (q : Wq), vs = [v] ∧ TV H v (trQ q) ∧ okQ q ∧ (b = false → ∃ W, q = .pl W) ∧ ∀ p H', Same H H' → H' p = some (lS (wdQ q)) → Q (.ref p) H'
noncomputable def spLwI (b : Bool) : Sp := fun vs H Q E => b = true ∧ spLw false vs H Q E
theorem ok__law_words  {n : Nat} {b : Bool} (T : Txt w K mg base) (L : FnL K mg "_law_words" s__law_words ["_law_wish"]) (F_law_pieces : Fn P w K mg base "_law_pieces" 1 ["_law_pieces_here"] (spPw)) (F_law_words : Fn P w K mg base "_law_words" (n + 2) ["_law_wish"] (spLwI b)) : Fn P w K mg base "_law_words" (n + 3) ["_law_wish"] (spLw b) := by
  have nd := sc__law_words.nd
  refine L.ok sc__law_words (fun vs H Q E h => ?_) (fun f cdv A outer s H vs Q E hr h => ?_) <;> obtain ⟨v, q, rfl, tv, ok, hq, k⟩ := h
  · rfl
  have hu := hu_of hr
  refine ⟨_, (pss_cons (ps_if (pt_cmpR op_eq (pe_ix ix_T (pvM 0) pe_int (fun _ _ => rfl)) pe_str (nomark _)) (pss_cons (ps_set (i := 1) nd rfl (by first | exact Or.inl rfl | exact Or.inr rfl) (pe_op op_catLs (pe_op op_catLs (pe_op op_catLs (pe_lstS (pa_cons pe_str pa_nil)) (pe_comp (N := ["_law_value"]) (nt := 1) (js := []) rfl (compOk_of ["_law_wish", "_law_words_here", "_law_a", "_law_name", "_law_ends"] (defScope s__law_words).names rfl rfl rfl (by decide +kernel)) (pi_TK (K := K) rfl (pe_ix ix_T (pvM 0) pe_int (fun _ _ => rfl))) (fun _ _ _ _ _ _ => (pg_name (i := 0) (show List.Nodup [("_law_value" : Str)] by decide +kernel) rfl (Or.inl rfl))) (tgOk_name (by decide)) (fun _ _ _ _ _ _ => pts_nil) (fun _ _ _ _ _ _ => (pe_callTy call_str_int rfl T.b_str (show bootBuiltins "str" = some (.type "str") by decide +kernel) (pa_cons (pvM 0) pa_nil))))) (pe_lstS (pa_cons pe_str pa_nil))) (pe_callTy call_listTs rfl T.b_list (show bootBuiltins "list" = some (.type "list") by decide +kernel) (pa_cons (pe_ix ix_T (pvM 0) pe_int (fun _ _ => rfl)) pa_nil))))
    (pss_one (ps_ret (pe_op op_catLs (pvM 1) (pe_lstS (pa_cons pe_str (pa_cons (pe_callTy call_str_int rfl T.b_str (show bootBuiltins "str" = some (.type "str") by decide +kernel) (pa_cons (pe_ix ix_T (pvM 0) pe_int (fun _ _ => rfl)) pa_nil)) (pa_cons pe_str (pa_cons (pe_callTy call_str_int rfl T.b_str (show bootBuiltins "str" = some (.type "str") by decide +kernel) (pa_cons (pe_ix ix_T (pvM 0) pe_int (fun _ _ => rfl)) pa_nil)) pa_nil))))))))) pss_nil)
    (pss_cons (ps_if (pt_cmpR op_eq (pe_ix ix_T (pvM 0) pe_int (fun _ _ => rfl)) pe_str (nomark _)) (pss_cons (ps_set (i := 1) nd rfl (by first | exact Or.inl rfl | exact Or.inr rfl) (pe_lstS (pa_cons pe_str pa_nil)))
    (pss_cons (ps_for PassesOwn.never rfl (pi_TK (K := K) rfl (pe_ix ix_T (pvM 0) pe_int (fun _ _ => rfl))) (pg_tupT (n := 2) rfl (pgs_cons (pg_name (i := 2) nd rfl (by first | exact Or.inl rfl | exact Or.inr rfl)) (pgs_cons (pg_name (i := 3) nd rfl (by first | exact Or.inl rfl | exact Or.inr rfl)) pgs_nil))) (pss_one (ps_set (i := 1) nd rfl (by first | exact Or.inl rfl | exact Or.inr rfl) (pe_op op_catLs (pvM 1) (pe_lstS (pa_cons (pe_callTy call_str_int rfl T.b_str (show bootBuiltins "str" = some (.type "str") by decide +kernel) (pa_cons (pvM 2) pa_nil)) (pa_cons (pvM 3) pa_nil)))))))
    (pss_cons (ps_setC (i := 4) (N := ["_law_bound"]) (nt := 1) (js := []) nd rfl (by first | exact Or.inl rfl | exact Or.inr rfl) rfl (compOk_of ["_law_wish", "_law_words_here", "_law_a", "_law_name", "_law_ends"] (defScope s__law_words).names rfl rfl rfl (by decide +kernel)) (pi_TK (K := K) rfl (pe_slice sl_Ts (pvM 0) (po_some pe_int) po_none)) (fun _ _ _ _ _ _ => (pg_name (i := 0) (show List.Nodup [("_law_bound" : Str)] by decide +kernel) rfl (Or.inl rfl))) (tgOk_name (by decide)) (fun _ _ _ _ _ _ => pts_nil) (fun _ _ _ _ _ _ => (pe_ix ix_L (pe_lstS (pa_cons pe_str (pa_cons (pe_callTy call_strA rfl T.b_str (show bootBuiltins "str" = some (.type "str") by decide +kernel) (pa_cons (pvM 0) pa_nil)) pa_nil))) (pe_callTy call_int1 rfl T.b_int (show bootBuiltins "int" = some (.type "int") by decide +kernel) (pa_cons (pe_cmp (pc_notN (pvM 0))) pa_nil)) (fun _ _ => rfl))))
    (pss_one (ps_ret (pe_op op_catLs (pvM 1) (pe_lstS (pa_cons pe_str (pa_cons (pe_ix ix_L (pvM 4) pe_int (fun _ _ => rfl)) (pa_cons pe_str (pa_cons (pe_ix ix_L (pvM 4) pe_int (fun _ _ => rfl)) pa_nil))))))))))) pss_nil)
    (pss_cons (ps_if (pt_cmpR op_eq (pe_ix ix_T (pvM 0) pe_int (fun _ _ => rfl)) pe_str (nomark _)) (pss_one (ps_ret (pe_op op_catLs (pe_op op_catLs (pe_op op_catLs (pe_lstS (pa_cons pe_str pa_nil)) (pe_callTy call_listTs rfl T.b_list (show bootBuiltins "list" = some (.type "list") by decide +kernel) (pa_cons (pe_ix ix_T (pvM 0) pe_int (fun _ _ => rfl)) pa_nil))) (pe_lstS (pa_cons pe_str pa_nil))) (pe_callF F_law_pieces (hr.mono (by first | decide | omega)) rfl (pa_cons (pe_ix ix_T (pvM 0) pe_int (fun _ _ => rfl)) pa_nil))))) pss_nil)
    (pss_cons (ps_if (pt_cmpR op_eq (pe_ix ix_T (pvM 0) pe_int (fun _ _ => rfl)) pe_str (nomark _)) (pss_cons (ps_set (i := 1) nd rfl (by first | exact Or.inl rfl | exact Or.inr rfl) (pe_op op_catLs (pe_op op_catLs (pe_op op_catLs (pe_lstS (pa_cons pe_str pa_nil)) (pe_callTy call_listTs rfl T.b_list (show bootBuiltins "list" = some (.type "list") by decide +kernel) (pa_cons (pe_ix ix_T (pvM 0) pe_int (fun _ _ => rfl)) pa_nil))) (pe_lstS (pa_cons pe_str pa_nil))) (pe_callF F_law_pieces (hr.mono (by first | decide | omega)) rfl (pa_cons (pe_ix ix_T (pvM 0) pe_int (fun _ _ => rfl)) pa_nil))))
    (pss_one (ps_ret (pe_op op_catLs (pe_op op_catLs (pvM 1) (pe_lstS (pa_cons pe_str pa_nil))) (pe_comp (N := ["_law_state"]) (nt := 1) (js := []) rfl (compOk_of ["_law_wish", "_law_words_here", "_law_a", "_law_name", "_law_ends"] (defScope s__law_words).names rfl rfl rfl (by decide +kernel)) (pi_TK (K := K) rfl (pe_ix ix_T (pvM 0) pe_int (fun _ _ => rfl))) (fun _ _ _ _ _ _ => (pg_name (i := 0) (show List.Nodup [("_law_state" : Str)] by decide +kernel) rfl (Or.inl rfl))) (tgOk_name (by decide)) (fun _ _ _ _ _ _ => pts_nil) (fun _ _ _ _ _ _ => (pe_callTy call_str_int rfl T.b_str (show bootBuiltins "str" = some (.type "str") by decide +kernel) (pa_cons (pvM 0) pa_nil)))))))) pss_nil)
    (pss_cons (ps_if (pt_cmpR op_eq (pe_ix ix_T (pvM 0) pe_int (fun _ _ => rfl)) pe_str (nomark _)) (pss_one (ps_ret (pe_op op_catLs (pe_lstS (pa_cons pe_str (pa_cons (pe_callTy call_str_int rfl T.b_str (show bootBuiltins "str" = some (.type "str") by decide +kernel) (pa_cons (pe_ix ix_T (pvM 0) pe_int (fun _ _ => rfl)) pa_nil)) pa_nil))) (pe_callTy call_listTs rfl T.b_list (show bootBuiltins "list" = some (.type "list") by decide +kernel) (pa_cons (pe_ix ix_T (pvM 0) pe_int (fun _ _ => rfl)) pa_nil))))) pss_nil)
    (pss_cons (ps_if (pt_cmpR op_eq (pe_ix ix_T (pvM 0) pe_int (fun _ _ => rfl)) pe_str (nomark _)) (pss_cons (ps_set (i := 1) nd rfl (by first | exact Or.inl rfl | exact Or.inr rfl) (pe_op op_catLs (pe_lstS (pa_cons pe_str (pa_cons (pe_ix ix_T (pvM 0) pe_int (fun _ _ => rfl)) pa_nil))) (pe_comp (N := ["_law_value"]) (nt := 1) (js := []) rfl (compOk_of ["_law_wish", "_law_words_here", "_law_a", "_law_name", "_law_ends"] (defScope s__law_words).names rfl rfl rfl (by decide +kernel)) (pi_TK (K := K) rfl (pe_ix ix_T (pvM 0) pe_int (fun _ _ => rfl))) (fun _ _ _ _ _ _ => (pg_name (i := 0) (show List.Nodup [("_law_value" : Str)] by decide +kernel) rfl (Or.inl rfl))) (tgOk_name (by decide)) (fun _ _ _ _ _ _ => pts_nil) (fun _ _ _ _ _ _ => (pe_callTy call_str_int rfl T.b_str (show bootBuiltins "str" = some (.type "str") by decide +kernel) (pa_cons (pvM 0) pa_nil))))))
    (pss_one (ps_ret (pe_op op_catLs (pe_op op_catLs (pvM 1) (pe_lstS (pa_cons pe_str pa_nil))) (pe_callF F_law_words (hr.mono (by first | decide | omega)) rfl (pa_cons (pe_ix ix_T (pvM 0) pe_int (fun _ _ => rfl)) pa_nil)))))) pss_nil)
    (pss_one (ps_ret (pe_op op_catLs (pe_lstS (pa_cons pe_str pa_nil)) (pe_callTy call_listTs rfl T.b_list (show bootBuiltins "list" = some (.type "list") by decide +kernel) (pa_cons (pe_ix ix_T (pvM 0) pe_int (fun _ _ => rfl)) pa_nil))))))))))), ?_⟩
  cases q with
  | sa c ns W =>
    obtain ⟨a, xs, rfl, ha, _, _, rfl, ⟨rfl, _⟩, _, _, rfl, ⟨rfl, _⟩, _, _, rfl, ti, y, _, rfl, tw, e⟩ := tv
    obtain ⟨b2, rfl, hb⟩ := tvI ti
    cases (show _ = [] from e)
    obtain ⟨_, on, oW⟩ := ok
    have o1 := on.1
    have o2 := (wd_W oW).2
    have hbt : b = true := by
      cases b with
      | false => obtain ⟨W', z⟩ := hq rfl; cases z
      | true => rfl
    (try ctx_has vcx true_and ha)
    refine ⟨by decide, fun p H1 _ s1 h1 => ⟨_, s1 _ _ ha, _, rfl, _, rfl, _, s1 _ _ hb, fun D hD => ?_⟩⟩
    refine comp_nw (s1 _ _ hb) on hD fun H2 s2 h2 => ⟨D, rfl, _, s2 _ _ h1, _, h2, szl (by simp [nw]; omega), fun p3 H3 s3 h3 => ⟨by decide, fun p4 H4 _ s4 h4 => ⟨_, s4 _ _ h3, _, h4, szl (by simp [nw]; omega), fun p5 H5 s5 h5 => ?_⟩⟩⟩
    have S5 := (((s1.trans s2).trans s3).trans s4).trans s5
    refine ⟨_, S5 _ _ ha, _, rfl, hbt, y, .pl W, rfl, TV.keep (Same.keepT S5) _ tw, oW, fun _ => ⟨W, rfl⟩, fun p6 H6 s6 h6 => ⟨_, rfl, _, s6 _ _ h5, _, h6, szl (by simp [nw, wdQ]; omega), fun q H7 s7 h7 => k q H7 ((S5.trans s6).trans s7) ?_⟩⟩
    rw [h7]
    simp only [wdQ, hdW, lS, List.map_append, List.map_cons, List.map_nil, List.cons_append, List.nil_append, List.append_assoc]
  | pl W =>
    cases W with
    | un ws =>
      obtain ⟨a, xs, rfl, ha, _, _, rfl, ⟨rfl, _⟩, _, _, rfl, ts, e⟩ := tv
      obtain ⟨b, rfl, hb⟩ := tvS ts
      cases (show _ = [] from e)
      have o1 : ws.length ≤ 12 := ok.2.1
      (try ctx_has vcx true_and ha)
      exact ⟨by decide, fun p H1 _ s1 h1 => ⟨_, s1 _ _ ha, _, rfl, _, rfl, _, s1 _ _ hb, fun l H2 s2 h2 => ⟨_, s2 _ _ h1, _, h2, szl (by simp; omega), fun q H3 s3 h3 => k q H3 ((s1.trans s2).trans s3) h3⟩⟩⟩
    | ma ns ws c d =>
      obtain ⟨a, xs, rfl, ha, _, _, rfl, ⟨rfl, _⟩, _, _, rfl, ti, _, _, rfl, ts, _, _, rfl, rfl, _, _, rfl, rfl, e⟩ := tv
      obtain ⟨b, rfl, hb⟩ := tvS ts
      obtain ⟨b2, rfl, hb2⟩ := tvI ti
      cases (show _ = [] from e)
      obtain ⟨on, ow, oc, od⟩ := ok
      have o1 : ws.length ≤ 12 := ow.2.1
      have o2 : ns.length ≤ 60 := on.1
      (try ctx_has vcx true_and ha)
      refine ⟨by decide, fun p H1 _ s1 h1 => ⟨_, s1 _ _ ha, _, rfl, _, rfl, _, s1 _ _ hb2, fun D hD => ?_⟩⟩
      refine comp_nw (s1 _ _ hb2) on hD fun H2 s2 h2 => ⟨D, rfl, _, s2 _ _ h1, _, h2, szl (by simp [nw]; omega), fun p3 H3 s3 h3 => ⟨by decide, fun p4 H4 _ s4 h4 => ⟨_, s4 _ _ h3, _, h4, szl (by simp [nw]; omega), fun p5 H5 s5 h5 => ?_⟩⟩⟩
      have S5 := (((s1.trans s2).trans s3).trans s4).trans s5
      refine ⟨_, S5 _ _ ha, _, rfl, _, rfl, _, S5 _ _ hb, fun p6 H6 s6 h6 => ⟨_, s6 _ _ h5, _, h6, szl (by simp [nw]; omega), fun p7 H7 s7 h7 => ?_⟩⟩
      have S7 := (S5.trans s6).trans s7
      refine ⟨_, S7 _ _ ha, _, rfl, _, rfl, oc.log, _, S7 _ _ ha, _, rfl, _, rfl, od.log, by decide, fun p8 H8 _ s8 h8 => ⟨_, s8 _ _ h7, _, h8, szl (by simp [nw]; omega), fun q H9 s9 h9 => k q H9 ((S7.trans s8).trans s9) ?_⟩⟩
      rw [h9]
      rw [show [V.str (so "from"), V.str (so (toString c)), V.str (so "to"), V.str (so (toString d))] = [so "from", sI c, so "to", sI d].map V.str from rfl]
      simp only [wdQ, wdW, lS, List.map_append, List.map_cons, List.cons_append, List.nil_append, List.append_assoc]
    | su ts lo hi =>
      obtain ⟨a, xs, rfl, ha, _, _, rfl, ⟨rfl, _⟩, _, _, rfl, ⟨b, us, rfl, hb, hu⟩, x2, _, rfl, tl, x3, _, rfl, th, e⟩ := tv
      cases (show _ = [] from e)
      obtain ⟨o0, o1, ot, ol, oh⟩ := ok
      (try ctx_has vcx true_and ha)
      refine ⟨by decide, fun p H1 hp s1 h1 => ⟨_, s1 _ _ ha, _, rfl, _, rfl, _, s1 _ _ hb, ?_⟩⟩
      have hlen : us.length = ts.length := by rw [hu.len, List.length_map]
      refine for_g wlk_tup (fun i σ H' => ∃ v2 v3 q, σ = [some (.ref a), some (.ref q), v2, v3, none] ∧ H' q = some (lS (so "sum" :: tw (ts.take i))) ∧ Same H H') ⟨_, _, p, rfl, h1, s1⟩ (fun i σ H' zq40 => by obtain ⟨_, _, _, _, _, s⟩ := zq40; exact (.of (s _ _ hb))) ?_ ?_
      · rintro i x σ H2 hi hxi ⟨v2, v3, q, rfl, h2, s2⟩
        obtain ⟨t, ht, tx⟩ := hu.at hxi
        rw [List.getElem?_map] at ht
        obtain ⟨⟨c, nm⟩, hr1, rfl⟩ := Option.map_eq_some_iff.mp ht
        obtain ⟨d, ys, rfl, hd, _, _, rfl, rfl, _, _, rfl, ⟨rfl, _⟩, e⟩ := tx
        cases (show _ = [] from e)
        have hd2 := s2 _ _ hd
        have oc := (ot (c, nm) (List.mem_of_getElem? hr1)).1
        have hl := tw_len (ts.take i)
        have hl2 : (ts.take i).length ≤ 6 := by rw [List.length_take]; omega
        rw [List.take_add_one, hr1, Option.toList_some]
        rw [show tw (ts.take i ++ [(c, nm)]) = tw (ts.take i) ++ [sI c, nm] by simp [tw]]
        generalize tw (ts.take i) = W at h2 hl ⊢
        (try ctx_has vcx true_and h2 hd2)
        refine ⟨oc.log, by decide, fun p1 H3 _ s3 h3 => ⟨_, s3 _ _ h2, _, h3, szl (by simp; omega), fun p5 H4 s4 h4 => ⟨?_, (s2.trans s3).trans s4⟩⟩⟩
        rw [h4, show [V.str (Str.ofString (toString c)), V.str nm] = [sI c, nm].map V.str from rfl]
        simp only [lS, List.map_append, List.map_cons, List.cons_append]
      · rintro σ H2 ⟨v2, v3, q, rfl, h2, s2⟩
        rw [hlen, List.take_length] at h2
        have hl := tw_len ts
        have ha2 := s2 _ _ ha
        (try ctx_has vcx true_and ha2)
        intro t H3 h3 s3
        replace h3 : H3 t = some (.tup [x2, x3]) := h3
        refine ⟨_, h3, fun D hD => ?_⟩
        obtain rfl := tO_v tl
        obtain rfl := tO_v th
        refine comp_mapS wlk_tup fwV hD (fun H' s => .of (s _ _ h3)) (by simp) ?_ ?_
        · intro x H4 Q2 hx sm q2
          have hx : ∃ o, okO o ∧ x = oV o := by
            rcases List.mem_cons.mp hx with z | z
            · exact ⟨lo, ol, z⟩
            · exact ⟨hi, oh, List.mem_singleton.mp z⟩
          obtain ⟨o, oo, rfl⟩ := hx
          cases o with
          | none =>
            (try ctx_has vcx true_and oV tNotN)
            exact ⟨by decide, fun p6 H5 _ s5 h5 => ⟨_, h5, _, rfl, q2 H5 s5⟩⟩
          | some i =>
            (try ctx_has vcx true_and oV tNotN)
            exact ⟨(oo i rfl).log, by decide, fun p6 H5 _ s5 h5 => ⟨_, h5, _, rfl, q2 H5 s5⟩⟩
        · intro H4 s4 h4
          refine ⟨D, rfl, _, h4, _, rfl, D, rfl, _, h4, _, rfl, by decide, fun p1 H5 _ s5 h5 => ⟨_, s5 _ _ (s4 _ _ (s3 _ _ h2)), _, h5, szl (by simp; omega), fun q6 H6 s6 h6 => k q6 H6 ((((s2.trans s3).trans s4).trans s5).trans s6) ?_⟩⟩
          rw [h6, fwV_o, fwV_o, show [V.str (Str.ofString "from"), V.str (bw lo), V.str (Str.ofString "to"), V.str (bw hi)] = [so "from", bw lo, so "to", bw hi].map V.str from rfl]
          simp only [wdQ, wdW, lS, List.map_append, List.map_cons, List.cons_append]
    | ta ws rs =>
      obtain ⟨a, xs, rfl, ha, _, _, rfl, ⟨rfl, _⟩, _, _, rfl, ts, x2, _, rfl, tr, e⟩ := tv
      obtain ⟨b, rfl, hb⟩ := tvS ts
      cases (show _ = [] from e)
      obtain ⟨ow, or⟩ := ok
      have o1 : ws.length ≤ 12 := ow.2.1
      have o2 := pws_len (rs := rs) (ws := []) fun x hx => (or.2 x hx).2.1
      have o3 := or.1
      change (pws rs).length ≤ _ at o2
      rw [List.length_nil] at o2
      (try ctx_has vcx true_and ha)
      refine ⟨by decide, fun p H1 _ s1 h1 => ⟨_, s1 _ _ ha, _, rfl, _, rfl, _, s1 _ _ hb, fun l H2 s2 h2 => ⟨_, s2 _ _ h1, _, h2, szl (by simp; omega), fun p3 H3 s3 h3 => ⟨by decide, fun p4 H4 _ s4 h4 => ⟨_, s4 _ _ h3, _, h4, szl (by simp; omega), fun p5 H5 s5 h5 => ?_⟩⟩⟩⟩⟩
      have S5 := (((s1.trans s2).trans s3).trans s4).trans s5
      refine ⟨_, S5 _ _ ha, _, rfl, x2, rs, rfl, TV.keep (Same.keepT S5) _ tr, or, fun p6 H6 s6 h6 => ⟨_, rfl, _, s6 _ _ h5, _, h6, szl (by simp; omega), fun q H7 s7 h7 => k q H7 ((S5.trans s6).trans s7) ?_⟩⟩
      rw [h7]
      simp only [wdQ, wdW, lS, List.map_append, List.map_cons, List.cons_append, List.nil_append, List.append_assoc]
    | wa ws rs es =>
      obtain ⟨a, xs, rfl, ha, _, _, rfl, ⟨rfl, _⟩, _, _, rfl, ts, x2, _, rfl, tr, _, _, rfl, ti, e⟩ := tv
      obtain ⟨b, rfl, hb⟩ := tvS ts
      obtain ⟨b2, rfl, hb2⟩ := tvI ti
      cases (show _ = [] from e)
      obtain ⟨ow, or, _, oe⟩ := ok
      have o1 : ws.length ≤ 12 := ow.2.1
      have o2 := pws_len (rs := rs) (ws := []) fun x hx => (or.2 x hx).2.1
      have o3 := or.1
      have o4 := oe.1
      change (pws rs).length ≤ _ at o2
      rw [List.length_nil] at o2
      (try ctx_has vcx true_and ha)
      refine ⟨by decide, fun p H1 _ s1 h1 => ⟨_, s1 _ _ ha, _, rfl, _, rfl, _, s1 _ _ hb, fun l H2 s2 h2 => ⟨_, s2 _ _ h1, _, h2, szl (by simp; omega), fun p3 H3 s3 h3 => ⟨by decide, fun p4 H4 _ s4 h4 => ⟨_, s4 _ _ h3, _, h4, szl (by simp; omega), fun p5 H5 s5 h5 => ?_⟩⟩⟩⟩⟩
      have S5 := (((s1.trans s2).trans s3).trans s4).trans s5
      refine ⟨_, S5 _ _ ha, _, rfl, x2, rs, rfl, TV.keep (Same.keepT S5) _ tr, or, fun p6 H6 s6 h6 => ⟨_, rfl, _, s6 _ _ h5, _, h6, szl (by simp; omega), fun p7 H7 s7 h7 => ⟨by decide, fun p8 H8 _ s8 h8 => ⟨_, s8 _ _ h7, _, h8, szl (by simp; omega), fun p9 H9 s9 h9 => ?_⟩⟩⟩⟩
      have S9 := (((S5.trans s6).trans s7).trans s8).trans s9
      refine ⟨_, S9 _ _ ha, _, rfl, _, rfl, _, S9 _ _ hb2, fun D hD => ?_⟩
      refine comp_nw (S9 _ _ hb2) oe hD fun HA sA hA => ⟨D, rfl, _, sA _ _ h9, _, hA, szl (by simp [nw]; omega), fun q HB sB hB => k q HB ((S9.trans sA).trans sB) ?_⟩
      rw [hB]
      simp only [wdQ, wdW, lS, List.map_append, List.map_cons, List.map_nil, List.cons_append, List.nil_append, List.append_assoc]
    | be ws g =>
      obtain ⟨a, xs, rfl, ha, _, _, rfl, ⟨rfl, _⟩, _, _, rfl, ts, _, _, rfl, rfl, e⟩ := tv
      obtain ⟨b, rfl, hb⟩ := tvS ts
      cases (show _ = [] from e)
      obtain ⟨ow, og⟩ := ok
      have o1 : ws.length ≤ 12 := ow.2.1
      (try ctx_has vcx true_and ha)
      refine ⟨og.log, by decide, fun p H1 _ s1 h1 => ⟨_, s1 _ _ ha, _, rfl, _, rfl, _, s1 _ _ hb, fun l H2 s2 h2 => ⟨_, s2 _ _ h1, _, h2, szl (by simp; omega), fun q H3 s3 h3 => k q H3 ((s1.trans s2).trans s3) h3⟩⟩⟩
noncomputable def spNm : Sp := fun vs H Q _ => ∃ w : Str, vs = [.str w] ∧ w.length ≤ 20 ∧ ∀ H', Same H H' → Q (.bl (nmB w)) H'
noncomputable def numV : Option Int → V
  | none => .non
  | some n => .int n
noncomputable def spNo : Sp := fun vs H Q _ => ∃ w : Str, vs = [.str w] ∧ w.length ≤ 20 ∧ ∀ H', Same H H' → Q (numV (numB w)) H'
noncomputable def spWo : Sp := fun vs H Q _ => ∃ (x : Str) (ws : List Str), vs = [.str x] ∧ x.length ≤ 100000 ∧ wrd (sg (Txt.partition x (so "#")).1) = ws.map sg ∧ ∀ p H', H p = none → Same H H' → H' p = some (lS ws) → Q (.ref p) H'
theorem starts_min (z : Str) : Txt.startswith z (so "-") = true ↔ (sg z).head? = some 45 := by
  have h := StrLaws.subAt_one z 45 0
  rw [List.head?_eq_getElem?]
  rw [← h]
  show (decide (0 + (so "-").length ≤ z.length) && Builtin.Str.subAt z (so "-") 0) = true ↔ _
  rw [Bool.and_eq_true, decide_eq_true_eq]
  rfl
theorem sg_from1 (z : Str) : sg (Txt.slice z (some 1) none) = (sg z).drop 1 := by
  have e := slice_cps z (some 1) none
  show (Txt.slice z (some 1) none).cps.toList = _
  rw [e]
  have hl : (sg z).length = z.length := by simp [Str.length, sg]
  have h1 : HT.sIx z.length 0 (some 1) = min 1 z.length := by simp [HT.sIx]; try omega
  have h2 : HT.sIx z.length z.length none = z.length := by simp [HT.sIx]
  rw [h1, h2]
  cases hz : sg z with
  | nil => simp [show z.cps.toList = [] from hz]
  | cons a l =>
    rw [show z.cps.toList = a :: l from hz]
    rw [hz, List.length_cons] at hl
    rw [show min 1 z.length = 1 by omega, List.drop_succ_cons, List.drop_zero]
    rw [List.take_of_length_le (by omega)]
theorem sg_figs (z : Str) : sg (if Txt.startswith z (so "-") = true then Txt.slice z (some 1) none else z) = figs z := by
  unfold figs
  by_cases h : (sg z).head? = some 45
  · rw [if_pos h, if_pos ((starts_min z).mpr h), sg_from1]
  · rw [if_neg h, if_neg fun x => h ((starts_min z).mp x)]
theorem fig_in (c : Nat) : (!(Builtin.Str.occurrences (so "0123456789") ⟨#[c]⟩ 0 (so "0123456789").length 1).isEmpty) = digB c := by
  rw [StrLaws.found_one]
  rw [show (so "0123456789").cps.toList = [48, 49, 50, 51, 52, 53, 54, 55, 56, 57] by decide]
  unfold digB
  rw [Bool.eq_iff_iff, Bool.and_eq_true, decide_eq_true_eq, decide_eq_true_eq, decide_eq_true_eq]
  simp only [List.mem_cons, List.not_mem_nil, or_false]
  omega
theorem no_fin {H : Hp} {Q : VK} {z f : Str} (hz : z.length ≤ 20) (hf : sg f = figs z) (k : ∀ H', Same H H' → Q (numV (numB z)) H') :
    if 1 ≤ (f.length : Int) then if decide ((f.length : Int) ≤ 14) = false then Q V.non H else ∀ D, H D = none → CompG (Its f) [none] (gName 0) tYes (tOp rInS (tVarM 0) (tC (V.str (Str.ofString "0123456789")))) (fun x H1 => ∃ p, x = V.ref p ∧ ∃ bs, H1 p = some (HO.lst (List.map V.bl bs)) ∧ if bs.all id = false then Q V.non H1 else f.length ≤ sizeLine ∧ ∃ c, atI f.cps.toList 0 = some c ∧ if ({ cps := #[c] } : Str) = Str.ofString "0" then (if decide (z = Str.ofString "0") = false then Q V.non H1 else ∃ n, intText? z = some n ∧ z.length ≤ 640 ∧ Q (V.int n) H1) else ∃ n, intText? z = some n ∧ z.length ≤ 640 ∧ Q (V.int n) H1) H D else Q V.non H := by
  have hl : f.length = (figs z).length := by rw [← hf]; simp [Str.length, sg]
  have no : ¬ (1 ≤ (figs z).length ∧ (figs z).length ≤ 14 ∧ (figs z).all digB = true ∧ ¬ ((figs z).headD 0 = 48 ∧ sg z ≠ [48])) → ∀ H', Same H H' → Q .non H' := fun h H' s => by
    have := k H' s
    rw [show numB z = none from if_neg h] at this
    exact this
  have yes : (1 ≤ (figs z).length ∧ (figs z).length ≤ 14 ∧ (figs z).all digB = true ∧ ¬ ((figs z).headD 0 = 48 ∧ sg z ≠ [48])) → ∀ H', Same H H' → ∃ n, intText? z = some n ∧ z.length ≤ 640 ∧ Q (V.int n) H' := fun h H' s => by
    have e : ∃ n, numB z = some n := ⟨_, if_pos h⟩
    obtain ⟨n, e⟩ := e
    have := k H' s
    rw [e] at this
    exact ⟨n, (num_text e).1, by omega, this⟩
  refine ite2 (fun h1 => ?_) (fun h1 => no (fun c => h1 (by omega)) H (Same.refl _))
  refine ite2 (fun h2 => ?_) (fun h2 => ?_)
  · exact no (fun c => (of_decide_eq_false h2) (by omega)) H (Same.refl _)
  have h2 : ((f.length : Int) ≤ 14) := by simpa using h2
  intro D hD
  refine comp_map wlk_str (f := fun v => match v with | .str x => .bl (digB (x.cps.getD 0 0)) | _ => .non) hD (fun _ _ => True.intro) (by simp [sgnV]; show f.length ≤ 1000; omega) ?_ ?_
  · intro x H2 Q2 hx sm q
    obtain ⟨c, hc, rfl⟩ := List.mem_map.mp hx
    (try ctx_has vcx true_and)
    rw [fig_in]
    exact q
  · intro H2 sm h3
    refine ⟨D, rfl, f.cps.toList.map digB, by rw [h3]; simp [sgnV], ?_⟩
    have eb : (f.cps.toList.map digB).all id = (figs z).all digB := by rw [List.all_map, ← hf]; rfl
    rw [eb]
    refine ite2 (fun h4 => no (fun c => by rw [c.2.2.1] at h4; cases h4) H2 sm) (fun h4 => ?_)
    have h4 : (figs z).all digB = true := by simpa using h4
    cases hc : figs z with
    | nil => rw [hl, hc] at h1; simp at h1
    | cons c l =>
      have hg : f.cps.toList = c :: l := hf.trans hc
      refine ⟨szl (by omega), c, by rw [hg]; exact atI_nat (j := 0) rfl, ?_⟩
      have e0 : (({ cps := #[c] } : Str) = Str.ofString "0") ↔ c = 48 := by
        constructor
        · intro e
          have := congrArg sg e
          rw [show sg (Str.ofString "0") = [48] by decide] at this
          cases this; rfl
        · rintro rfl; decide
      have ez : (z = Str.ofString "0") ↔ sg z = [48] := by
        constructor
        · rintro rfl; decide
        · intro e; exact sg_inj (e.trans (by decide))
      have hh : (figs z).headD 0 = c := by rw [hc]; rfl
      have hlen : 1 ≤ (figs z).length ∧ (figs z).length ≤ 14 := ⟨by omega, by omega⟩
      refine ite2 (fun h5 => ?_) (fun h5 => ?_)
      · have h5 := e0.mp h5
        refine ite2 (fun h6 => ?_) (fun h6 => ?_)
        · have h6 := fun x => (of_decide_eq_false h6) (ez.mpr x)
          exact no (fun d => d.2.2.2 ⟨hh.trans h5, h6⟩) H2 sm
        · have h6 : z = Str.ofString "0" := by simpa using h6
          exact yes ⟨hlen.1, hlen.2, h4, fun d => d.2 (ez.mp h6)⟩ H2 sm
      · exact yes ⟨hlen.1, hlen.2, h4, fun d => h5 (e0.mpr (hh.symm.trans d.1))⟩ H2 sm
theorem ok_is_name   (T : Txt w K mg base) (L : FnL K mg "is_name" s_is_name ["thing"])  : Fn P w K mg base "is_name" 1 ["thing"] (spNm) := by
  have nd := sc_is_name.nd
  refine L.ok sc_is_name (fun vs H Q E h => ?_) (fun f cdv A outer s H vs Q E hr h => ?_) <;> obtain ⟨z, rfl, hz, k⟩ := h
  · rfl
  have hu := hu_of hr
  refine ⟨_, (pss_cons (ps_if (PW.pt (pw_or (pt_not (pt_val (pe_callB call_isB rfl T.b_isinstance (show bootBuiltins "isinstance" = some (.builtin "isinstance") by decide +kernel) (pa_cons (pvM 0) (pa_cons (pe_ty (T := "str") rfl T.b_str (by decide +kernel)) pa_nil))))) (pw_or1 (pt_not (pt_chain op_le op_le pe_int (pe_callB call_lenS rfl T.b_len PySem.boot_len (pa_cons (pvM 0) pa_nil)) (pe_cI T.c_LONGEST_NAME rfl)))))) (pss_one (ps_ret pe_bl)) pss_nil)
    (pss_one (ps_ret (pe_and (pe_cmpR op_notInM (pvM 0) (pe_cT T.c_MARKS rfl) (by with_unfolding_all rfl)) (pe_one (pe_callB (call_allL rfl) rfl T.b_all (show bootBuiltins "all" = some (.builtin "all") by decide +kernel) (pa_cons (pe_comp (N := ["sign"]) (nt := 1) (js := []) rfl (compOk_of ["thing"] (defScope s_is_name).names rfl rfl rfl (by decide +kernel)) (pi_str (pvM 0)) (fun _ _ _ _ _ _ => (pg_name (i := 0) (show List.Nodup [("sign" : Str)] by decide +kernel) rfl (Or.inl rfl))) (tgOk_name (by decide)) (fun _ _ _ _ _ _ => pts_nil) (fun _ _ _ _ _ _ => (pe_chain op_leS op_leS pe_str (pvM 0) pe_str))) pa_nil))))))), ?_⟩
  (try ctx_has vcx true_and)
  simp only [nmB] at k
  refine ⟨Nat.le_of_lt (small1000 (by omega)), ?_⟩
  refine ite2 (fun h1 => ?_) (fun h1 => ?_)
  · refine ite2 (fun h2 => ?_) (fun h2 => ?_)
    · have h2 : ¬ ((z.length : Int) ≤ 8) := of_decide_eq_false h2
      rw [decide_eq_false (show ¬ z.length ≤ 8 by omega)] at k
      simpa using k H (Same.refl _)
    · have h2 : ((z.length : Int) ≤ 8) := by simpa using h2
      rw [decide_eq_true (show 1 ≤ z.length by omega), decide_eq_true (show z.length ≤ 8 by omega)] at k
      intro a ha
      refine ⟨_, ha, rfl, by decide +kernel, ?_⟩
      refine ite2 (fun h3 => ?_) (fun h3 => ?_)
      · intro D hD
        refine comp_map wlk_str (f := fun v => match v with | .str x => .bl (smallB (x.cps.getD 0 0)) | _ => .non) hD (fun _ _ => True.intro) (by simp [sgnV]; show z.length ≤ 1000; omega) ?_ ?_
        · intro x H2 Q2 hx sm q
          obtain ⟨c, hc, rfl⟩ := List.mem_map.mp hx
          (try ctx_has vcx true_and)
          rw [lt_a, lt_z]
          exact small_rd (Q := fun b => Q2 (.bl b) H2) q
        · intro H2 sm h2
          refine ⟨D, rfl, z.cps.toList.map smallB, ?_, ?_⟩
          · rw [h2]; simp [sgnV]
          · rw [h3] at k
            have := k H2 sm
            simpa using this
      · have h3 : inV (.str z) marksV = true := by simpa using h3
        rw [h3] at k
        simpa using k H (Same.refl _)
  · rw [decide_eq_false (show ¬ 1 ≤ z.length by omega)] at k
    simpa using k H (Same.refl _)
theorem ok_number_of   (T : Txt w K mg base) (L : FnL K mg "number_of" s_number_of ["word"])  : Fn P w K mg base "number_of" 1 ["word"] (spNo) := by
  have nd := sc_number_of.nd
  refine L.ok sc_number_of (fun vs H Q E h => ?_) (fun f cdv A outer s H vs Q E hr h => ?_) <;> obtain ⟨z, rfl, hz, k⟩ := h
  · rfl
  have hu := hu_of hr
  refine ⟨_, (pss_cons (ps_set (i := 1) nd rfl (by first | exact Or.inl rfl | exact Or.inr rfl) (pe_ifExp (pt_val (pe_mS PySem.F.slot_str_startswith PySem.F.type_str_startswith ms_startswith (pvM 0) (pa_cons pe_str pa_nil))) (pe_slice sl_str (pvM 0) (po_some pe_int) po_none) (pvM 0)))
    (pss_cons (ps_if (PW.pt (pw_or (pt_not (pt_chain op_le op_le pe_int (pe_callB call_lenS rfl T.b_len PySem.boot_len (pa_cons (pvM 1) pa_nil)) (pe_cI T.c_MOST_FIGURES rfl))) (pw_or1 (pt_not (pt_val (pe_callB (call_allL rfl) rfl T.b_all (show bootBuiltins "all" = some (.builtin "all") by decide +kernel) (pa_cons (pe_comp (N := ["sign"]) (nt := 1) (js := []) rfl (compOk_of ["word", "figures"] (defScope s_number_of).names rfl rfl rfl (by decide +kernel)) (pi_str (pvM 1)) (fun _ _ _ _ _ _ => (pg_name (i := 0) (show List.Nodup [("sign" : Str)] by decide +kernel) rfl (Or.inl rfl))) (tgOk_name (by decide)) (fun _ _ _ _ _ _ => pts_nil) (fun _ _ _ _ _ _ => (pe_cmpR op_inS (pvM 0) (pe_cS T.c_FIGURES rfl) (by with_unfolding_all rfl)))) pa_nil))))))) (pss_one (ps_ret pe_non)) pss_nil)
    (pss_cons (ps_if (PW.pt (pw_and (pt_cmpR op_eq (pe_ix ix_S (pvM 1) pe_int (fun _ _ => rfl)) pe_str (nomark _)) (pw_and1 (pt_cmpR op_ne (pvM 0) pe_str (nomark _))))) (pss_one (ps_ret pe_non)) pss_nil)
    (pss_one (ps_ret (pe_callTy call_intS rfl T.b_int (show bootBuiltins "int" = some (.type "int") by decide +kernel) (pa_cons (pvM 0) pa_nil))))))), ?_⟩
  have hs := sg_figs z
  (try ctx_has vcx true_and)
  refine ite2 (fun h => ?_) (fun h => ?_)
  · rw [if_pos h] at hs
    refine ⟨szl (by omega), szl (by have := Txt.slice_le z (some 1) none; omega), no_fin hz hs k⟩
  · rw [if_neg h] at hs
    exact ⟨szl (by omega), no_fin hz hs k⟩
theorem ok_words_of   (T : Txt w K mg base) (L : FnL K mg "words_of" s_words_of ["text"])  : Fn P w K mg base "words_of" 1 ["text"] (spWo) := by
  have nd := sc_words_of.nd
  refine L.ok sc_words_of (fun vs H Q E h => ?_) (fun f cdv A outer s H vs Q E hr h => ?_) <;> obtain ⟨x, ws, rfl, hx, hw, k⟩ := h
  · rfl
  have hu := hu_of hr
  refine ⟨_, (pss_one (ps_ret (pe_comp (N := ["word"]) (nt := 1) (js := []) rfl (compOk_of ["text"] (defScope s_words_of).names rfl rfl rfl (by decide +kernel)) (pi_LK (K := K) rfl (pe_mS PySem.F.slot_str_split PySem.F.type_str_split ms_split (pe_ix ix_T (pe_mS PySem.F.slot_str_partition PySem.F.type_str_partition ms_partition (pvM 0) (pa_cons pe_str pa_nil)) pe_int (fun _ _ => rfl)) (pa_cons pe_str pa_nil))) (fun _ _ _ _ _ _ => (pg_name (i := 0) (show List.Nodup [("word" : Str)] by decide +kernel) rfl (Or.inl rfl))) (tgOk_name (by decide)) (fun _ _ _ _ _ _ => pts_one (pt_cmpR op_ne (pvM 0) pe_str (nomark _))) (fun _ _ _ _ _ _ => (pvM 0))))), ?_⟩
  (try ctx_has vcx true_and)
  have hl : (Txt.partition x (so "#")).1.length ≤ x.length := by
    have h := congrArg Str.length (StrLaws.partition_sum x (so "#"))
    rw [Str.length_append, Str.length_append] at h
    omega
  refine ⟨by decide, by omega, fun p H1 s1 h1 => ⟨_, h1, _, rfl, _, rfl, by decide, Nat.le_trans hl (by omega), fun p2 H2 s2 h2 => ⟨_, h2, fun D hD => ?_⟩⟩⟩
  have hn : (Txt.split (Txt.partition x (so "#")).1 (so " ")).length ≤ 1000000 := by
    have := PyProof.Rows.split_weight (Txt.partition x (so "#")).1 (so " ") (by decide)
    omega
  refine comp_filterL wlk_list (fun v => !decide (v = V.str Str.empty)) (fun v => v) hD (fun H' s => .of (s _ _ h2)) (by rw [List.length_map]; exact hn) ?_ ?_ ?_
  · intro y H3 Q2 hy sm q
    obtain ⟨w, hw, rfl⟩ := List.mem_map.mp hy
    (try ctx_has vcx true_and)
    have := q H3 (Same.refl _)
    simp only [V.str.injEq] at this
    exact this
  · intro y H3 Q2 hy hp sm q
    (try ctx_has vcx true_and)
    exact q H3 (Same.refl _)
  · intro H3 s3 h3
    refine k D H3 ((s1.trans s2).free hD) ((s1.trans s2).trans s3) ?_
    rw [h3, List.map_id', List.filter_map]
    have e := split_words hw
    rw [← e]
    congr 3
    rw [show Str.ofString " " = ⟨#[32]⟩ by decide]
    refine List.filter_congr fun w _ => ?_
    simp only [Function.comp, V.str.injEq]
noncomputable def fs0 (l : Addr) (p : Nat) : List (Str × V) := [(so "words", .ref l), (so "line", .int 0), (so "place", .int p)]
noncomputable def Rw (mg : Str → Option Value) (H : Hp) (x l : Addr) (ws : List Str) (p : Nat) : Prop := ∃ dx, H x = some (.ins (clsAt mg "Row") dx (fs0 l p)) ∧ H l = some (lS ws) ∧ ws.length ≤ 1000 ∧ (∀ w ∈ ws, w.length ≤ 20) ∧ p ≤ ws.length
theorem lk_words {l : Addr} {p : Nat} : (fs0 l p).lookup (Str.ofString "words") = some (.ref l) := rfl
theorem lk_place {l : Addr} {p : Nat} : (fs0 l p).lookup (Str.ofString "place") = some (.int p) := rfl
theorem lk_is_done {l : Addr} {p : Nat} : (fs0 l p).lookup (Str.ofString "is_done") = none := rfl
theorem lk_peek {l : Addr} {p : Nat} : (fs0 l p).lookup (Str.ofString "peek") = none := rfl
theorem lk_take_word {l : Addr} {p : Nat} : (fs0 l p).lookup (Str.ofString "take_word") = none := rfl
theorem lk_take_mark {l : Addr} {p : Nat} : (fs0 l p).lookup (Str.ofString "take_mark") = none := rfl
theorem lk_take_end {l : Addr} {p : Nat} : (fs0 l p).lookup (Str.ofString "take_end") = none := rfl
theorem lk_take_number {l : Addr} {p : Nat} : (fs0 l p).lookup (Str.ofString "take_number") = none := rfl
theorem lk_take_numbers {l : Addr} {p : Nat} : (fs0 l p).lookup (Str.ofString "take_numbers") = none := rfl
theorem lk_take_some_numbers {l : Addr} {p : Nat} : (fs0 l p).lookup (Str.ofString "take_some_numbers") = none := rfl
theorem lk_take_name {l : Addr} {p : Nat} : (fs0 l p).lookup (Str.ofString "take_name") = none := rfl
theorem lk_take_some_names {l : Addr} {p : Nat} : (fs0 l p).lookup (Str.ofString "take_some_names") = none := rfl
theorem pf_place {l : Addr} {p : Nat} : putF (Str.ofString "place") (.int ((p : Int) + 1)) (fs0 l p) = fs0 l (p + 1) := rfl
noncomputable def BX (x : Addr) (H H' : Hp) : Prop := ∀ a o, a ≠ x → H a = some o → H' a = some o
theorem BX.refl {x : Addr} {H : Hp} : BX x H H := fun _ _ _ h => h
theorem BX.trans {x : Addr} {H H1 H2 : Hp} (a : BX x H H1) (b : BX x H1 H2) : BX x H H2 := fun c o n h => b c o n (a c o n h)
theorem BX.same {x : Addr} {H H1 H2 : Hp} (a : BX x H H1) (b : Same H1 H2) : BX x H H2 := fun c o n h => b c o (a c o n h)
theorem BX.keepT {mg : Str → Option Value} {x l : Addr} {ws : List Str} {p : Nat} {H H1 : Hp} (a : BX x H H1) (r : Rw mg H x l ws p) : KeepT H H1 := fun c vs h => by
  obtain ⟨dx, h1, _⟩ := r
  exact a c _ (ne_of h h1 (by intro z; cases z)) h
theorem Rw.same {mg : Str → Option Value} {x l : Addr} {ws : List Str} {p : Nat} {H H1 : Hp} (r : Rw mg H x l ws p) (s : Same H H1) : Rw mg H1 x l ws p := by
  obtain ⟨dx, h1, h2, h3⟩ := r
  exact ⟨dx, s _ _ h1, s _ _ h2, h3⟩
noncomputable def spDone (mg : Str → Option Value) : Sp := fun vs H Q _ => ∃ (x l : Addr) (ws : List Str) (p : Nat), vs = [.ref x] ∧ Rw mg H x l ws p ∧ Q (.bl (decide (p = ws.length))) H
noncomputable def spPeek (mg : Str → Option Value) : Sp := fun vs H Q _ => ∃ (x l : Addr) (ws : List Str) (p : Nat), vs = [.ref x] ∧ Rw mg H x l ws p ∧ Q (.str (ws.getD p (so ""))) H
noncomputable def spWord (mg : Str → Option Value) : Sp := fun vs H Q _ => ∃ (x l : Addr) (ws : List Str) (p : Nat) (w : Str), vs = [.ref x] ∧ Rw mg H x l ws p ∧ ws[p]? = some w ∧ ∀ H', Rw mg H' x l ws (p + 1) → BX x H H' → Q (.str w) H'
noncomputable def spMark (mg : Str → Option Value) : Sp := fun vs H Q _ => ∃ (x l : Addr) (ws : List Str) (p : Nat) (w : Str), vs = [.ref x, .str w] ∧ Rw mg H x l ws p ∧ ws[p]? = some w ∧ ∀ H', Rw mg H' x l ws (p + 1) → BX x H H' → Q .non H'
noncomputable def spEnd (mg : Str → Option Value) : Sp := fun vs H Q _ => ∃ (x l : Addr) (ws : List Str), vs = [.ref x] ∧ Rw mg H x l ws ws.length ∧ Q .non H
noncomputable def spNum (mg : Str → Option Value) : Sp := fun vs H Q _ => ∃ (x l : Addr) (ws : List Str) (p : Nat) (n : Int), vs = [.ref x] ∧ Rw mg H x l ws p ∧ ws[p]? = some (sI n) ∧ okI n ∧ ∀ H', Rw mg H' x l ws (p + 1) → BX x H H' → Q (.int n) H'
noncomputable def spName (mg : Str → Option Value) : Sp := fun vs H Q _ => ∃ (x l : Addr) (ws : List Str) (p : Nat) (w : Str), vs = [.ref x] ∧ Rw mg H x l ws p ∧ ws[p]? = some w ∧ nmB w = true ∧ ∀ H', Rw mg H' x l ws (p + 1) → BX x H H' → Q (.str w) H'
theorem ok_Row_is_done  (T : Txt w K mg base) (L : MtdL K (Meth K (clsAt mg "Row") "is_done") "is_done" "Row.is_done" s_Row_is_done ["self"])  : FnR P w K mg base (Meth K (clsAt mg "Row") "is_done") 1 ["self"] (spDone mg) := by
  have nd := sc_Row_is_done.nd
  refine L.ok sc_Row_is_done (fun vs H Q E h => ?_) (fun f cdv A outer s H vs Q E hr h => ?_) <;> obtain ⟨x, l, ws, p, rfl, ⟨dx, hx, hl, hn, hw⟩, k⟩ := h
  · rfl
  have hu := hu_of hr
  refine ⟨_, (pss_one (ps_ret (pe_cmpR op_eq (pe_fldC T.cl_Row T.no_Row_place (pvM 0)) (pe_callB call_lenL rfl T.b_len PySem.boot_len (pa_cons (pe_fldC T.cl_Row T.no_Row_words (pvM 0)) pa_nil)) (nomark _)))), ?_⟩
  (try ctx_has vcx true_and hx hl lk_words lk_place)
  rw [List.length_map, show decide ((p : Int) = (ws.length : Int)) = decide (p = ws.length) from decide_eq_decide.mpr (by omega)]
  exact k
theorem ok_Row_peek  (T : Txt w K mg base) (L : MtdL K (Meth K (clsAt mg "Row") "peek") "peek" "Row.peek" s_Row_peek ["self"]) (FRow_is_done : FnR P w K mg base (Meth K (clsAt mg "Row") "is_done") 1 ["self"] (spDone mg)) : FnR P w K mg base (Meth K (clsAt mg "Row") "peek") 2 ["self"] (spPeek mg) := by
  have nd := sc_Row_peek.nd
  refine L.ok sc_Row_peek (fun vs H Q E h => ?_) (fun f cdv A outer s H vs Q E hr h => ?_) <;> obtain ⟨x, l, ws, p, rfl, R, k⟩ := h
  · rfl
  have hu := hu_of hr
  refine ⟨_, (pss_one (ps_ret (pe_ifExp (pt_val (pe_methF0 T.cl_Row FRow_is_done (hr.mono (by first | decide | omega)) (pvM 0))) pe_str (pe_ix ix_L (pe_fldC T.cl_Row T.no_Row_words (pvM 0)) (pe_fldC T.cl_Row T.no_Row_place (pvM 0)) (fun _ _ => rfl))))), ?_⟩
  obtain ⟨dx, hx, hl, hn, hw, hp⟩ := id R
  (try ctx_has vcx true_and hx hl lk_words lk_place lk_is_done)
  refine ⟨x, l, ws, p, rfl, R, _, rfl, ?_⟩
  refine ite2 (fun h => ?_) (fun h => ?_)
  · have h : p = ws.length := of_decide_eq_true h
    rw [show ws.getD p (so "") = so "" by rw [h]; simp] at k
    exact k
  · have h : ¬ p = ws.length := by simpa using h
    exact ⟨dx, _, hx, _, lk_words, dx, _, hx, _, lk_place, l, rfl, _, rfl, _, hl, _, atI_nat (by simp [show p < ws.length by omega]), k⟩
theorem ok_Row_take_word  (T : Txt w K mg base) (L : MtdL K (Meth K (clsAt mg "Row") "take_word") "take_word" "Row.take_word" s_Row_take_word ["self"]) (FRow_is_done : FnR P w K mg base (Meth K (clsAt mg "Row") "is_done") 1 ["self"] (spDone mg)) : FnR P w K mg base (Meth K (clsAt mg "Row") "take_word") 2 ["self"] (spWord mg) := by
  have nd := sc_Row_take_word.nd
  refine L.ok sc_Row_take_word (fun vs H Q E h => ?_) (fun f cdv A outer s H vs Q E hr h => ?_) <;> obtain ⟨x, l, ws, p, w, rfl, R, hp, k⟩ := h
  · rfl
  have hu := hu_of hr
  refine ⟨_, (pss_cons (ps_if (pt_val (pe_methF0 T.cl_Row FRow_is_done (hr.mono (by first | decide | omega)) (pvM 0))) (pss_one ps_never) pss_nil)
    (pss_cons (ps_augF T.cl_Row T.no_Row_place (pvM 0) pe_int ip_add)
    (pss_one (ps_ret (pe_ix ix_L (pe_fldC T.cl_Row T.no_Row_words (pvM 0)) (pe_op op_sub (pe_fldC T.cl_Row T.no_Row_place (pvM 0)) pe_int) (fun _ _ => rfl)))))), ?_⟩
  obtain ⟨dx, hx, hl, hn, hw⟩ := id R
  have hlt : p < ws.length := (List.getElem?_eq_some_iff.mp hp).1
  (try ctx_has vcx true_and hx hl lk_words lk_place lk_is_done)
  refine ⟨x, l, ws, p, rfl, R, _, rfl, ?_⟩
  rw [if_neg (by simp; omega)]
  have hl2 : ∀ o, upd H x o l = some (lS ws) := fun o => by rw [upd_ne (ne_of hl hx (by intro z; cases z))]; exact hl
  refine ⟨dx, _, hx, _, lk_place, _, rfl, dx, _, hx, by show 3 < 1000; decide, dx, _, upd_same, _, rfl, dx, _, upd_same, _, rfl, _, rfl, l, rfl, _, hl2 _, .str w, ?_, k _ ⟨dx, by rw [upd_same, pf_place], hl2 _, hn, hw.1, hlt⟩ fun a o n e => by rw [upd_ne n]; exact e⟩
  rw [show (p : Int) + 1 - 1 = (p : Int) by omega]
  exact atI_nat (by simp [hp])
theorem ok_Row_take_mark  (T : Txt w K mg base) (L : MtdL K (Meth K (clsAt mg "Row") "take_mark") "take_mark" "Row.take_mark" s_Row_take_mark ["self", "mark"]) (FRow_take_word : FnR P w K mg base (Meth K (clsAt mg "Row") "take_word") 2 ["self"] (spWord mg)) : FnR P w K mg base (Meth K (clsAt mg "Row") "take_mark") 3 ["self", "mark"] (spMark mg) := by
  have nd := sc_Row_take_mark.nd
  refine L.ok sc_Row_take_mark (fun vs H Q E h => ?_) (fun f cdv A outer s H vs Q E hr h => ?_) <;> obtain ⟨x, l, ws, p, w, rfl, R, hp, k⟩ := h
  · rfl
  have hu := hu_of hr
  refine ⟨_, (pss_one (ps_if (pt_cmpR op_ne (pe_methF0 T.cl_Row FRow_take_word (hr.mono (by first | decide | omega)) (pvM 0)) (pvM 1) (nomark _)) (pss_one ps_never) pss_nil)), ?_⟩
  obtain ⟨dx, hx, hl, hn, hw⟩ := id R
  (try ctx_has vcx true_and hx lk_take_word)
  exact ⟨x, l, ws, p, w, rfl, R, hp, fun H' r b => by simp only [scal_ss, true_and]; rw [if_neg (by simp)]; exact k H' r b⟩
theorem ok_Row_take_end  (T : Txt w K mg base) (L : MtdL K (Meth K (clsAt mg "Row") "take_end") "take_end" "Row.take_end" s_Row_take_end ["self"]) (FRow_is_done : FnR P w K mg base (Meth K (clsAt mg "Row") "is_done") 1 ["self"] (spDone mg)) : FnR P w K mg base (Meth K (clsAt mg "Row") "take_end") 2 ["self"] (spEnd mg) := by
  have nd := sc_Row_take_end.nd
  refine L.ok sc_Row_take_end (fun vs H Q E h => ?_) (fun f cdv A outer s H vs Q E hr h => ?_) <;> obtain ⟨x, l, ws, rfl, R, k⟩ := h
  · rfl
  have hu := hu_of hr
  refine ⟨_, (pss_one (ps_if (pt_not (pt_val (pe_methF0 T.cl_Row FRow_is_done (hr.mono (by first | decide | omega)) (pvM 0)))) (pss_one ps_never) pss_nil)), ?_⟩
  obtain ⟨dx, hx, hl, hn, hw⟩ := id R
  (try ctx_has vcx true_and hx lk_is_done)
  exact ⟨x, l, ws, _, rfl, R, _, rfl, by rw [if_neg (by simp)]; exact k⟩
theorem ok_Row_take_number  (T : Txt w K mg base) (L : MtdL K (Meth K (clsAt mg "Row") "take_number") "take_number" "Row.take_number" s_Row_take_number ["self"]) (FRow_take_word : FnR P w K mg base (Meth K (clsAt mg "Row") "take_word") 2 ["self"] (spWord mg)) (Fnumber_of : Fn P w K mg base "number_of" 1 ["word"] (spNo)) : FnR P w K mg base (Meth K (clsAt mg "Row") "take_number") 3 ["self"] (spNum mg) := by
  have nd := sc_Row_take_number.nd
  refine L.ok sc_Row_take_number (fun vs H Q E h => ?_) (fun f cdv A outer s H vs Q E hr h => ?_) <;> obtain ⟨x, l, ws, p, n, rfl, R, hp, hn0, k⟩ := h
  · rfl
  have hu := hu_of hr
  refine ⟨_, (pss_cons (ps_set (i := 1) nd rfl (by first | exact Or.inl rfl | exact Or.inr rfl) (pe_callF Fnumber_of (hr.mono (by first | decide | omega)) rfl (pa_cons (pe_methF0 T.cl_Row FRow_take_word (hr.mono (by first | decide | omega)) (pvM 0)) pa_nil)))
    (pss_cons (ps_if (pt_cmp (pc_isN (pvM 1))) (pss_one ps_never) pss_nil)
    (pss_one (ps_ret (pvM 1))))), ?_⟩
  obtain ⟨dx, hx, hl, hn, hw⟩ := id R
  (try ctx_has vcx true_and hx lk_take_word)
  refine ⟨x, l, ws, p, _, rfl, R, hp, fun H' r b => ⟨_, rfl, (wd_int hn0).2.2.2.2, fun H2 s2 => ?_⟩⟩
  have e : numB (sI n) = some n := num_int (i := n) (by have : n.natAbs ≤ 10000000000000 := hn0; omega)
  rw [e]
  show if V.int n = V.non then False else Q (V.int n) H2
  rw [if_neg (by intro z; cases z)]
  exact k H2 (r.same s2) (b.same s2)
theorem ok_Row_take_name  (T : Txt w K mg base) (L : MtdL K (Meth K (clsAt mg "Row") "take_name") "take_name" "Row.take_name" s_Row_take_name ["self"]) (FRow_take_word : FnR P w K mg base (Meth K (clsAt mg "Row") "take_word") 2 ["self"] (spWord mg)) (Fis_name : Fn P w K mg base "is_name" 1 ["thing"] (spNm)) : FnR P w K mg base (Meth K (clsAt mg "Row") "take_name") 3 ["self"] (spName mg) := by
  have nd := sc_Row_take_name.nd
  refine L.ok sc_Row_take_name (fun vs H Q E h => ?_) (fun f cdv A outer s H vs Q E hr h => ?_) <;> obtain ⟨x, l, ws, p, w, rfl, R, hp, hnm, k⟩ := h
  · rfl
  have hu := hu_of hr
  refine ⟨_, (pss_cons (ps_set (i := 1) nd rfl (by first | exact Or.inl rfl | exact Or.inr rfl) (pe_methF0 T.cl_Row FRow_take_word (hr.mono (by first | decide | omega)) (pvM 0)))
    (pss_cons (ps_if (pt_not (pt_val (pe_callF Fis_name (hr.mono (by first | decide | omega)) rfl (pa_cons (pvM 1) pa_nil)))) (pss_one ps_never) pss_nil)
    (pss_one (ps_ret (pvM 1))))), ?_⟩
  obtain ⟨dx, hx, hl, hn, hw⟩ := id R
  (try ctx_has vcx true_and hx lk_take_word)
  refine ⟨x, l, ws, p, _, rfl, R, hp, fun H' r b => ?_⟩
  (try ctx_has vcx true_and)
  refine ⟨w, rfl, (wd_nm hnm).2.2.2.2, fun H2 s2 => ⟨_, rfl, ?_⟩⟩
  rw [hnm, if_neg (by decide)]
  exact k H2 (r.same s2) (b.same s2)
noncomputable def spNums (mg : Str → Option Value) : Sp := fun vs H Q _ => ∃ (x l : Addr) (ws : List Str) (p : Nat) (ns : List Int) (rest : List Str), vs = [.ref x] ∧ Rw mg H x l ws p ∧ ws.drop p = nw ns ++ rest ∧ okL ns ∧ numB (rest.headD (so "")) = none ∧ ∀ a H', H' a = some (.tup (ns.map V.int)) → Rw mg H' x l ws (p + ns.length) → BX x H H' → Q (.ref a) H'
noncomputable def spNums1 (mg : Str → Option Value) : Sp := fun vs H Q _ => ∃ (x l : Addr) (ws : List Str) (p : Nat) (ns : List Int) (rest : List Str), vs = [.ref x] ∧ Rw mg H x l ws p ∧ ws.drop p = nw ns ++ rest ∧ okL ns ∧ 1 ≤ ns.length ∧ numB (rest.headD (so "")) = none ∧ ∀ a H', H' a = some (.tup (ns.map V.int)) → Rw mg H' x l ws (p + ns.length) → BX x H H' → Q (.ref a) H'
noncomputable def spNames1 (mg : Str → Option Value) : Sp := fun vs H Q _ => ∃ (x l : Addr) (ws : List Str) (p : Nat) (us rest : List Str), vs = [.ref x] ∧ Rw mg H x l ws p ∧ ws.drop p = us ++ rest ∧ okN us ∧ nmB (rest.headD (so "")) = false ∧ ∀ a H', H' a = some (.tup (us.map V.str)) → Rw mg H' x l ws (p + us.length) → BX x H H' → Q (.ref a) H'
theorem drop_at {ws us rest : List Str} {p i : Nat} (e : ws.drop p = us ++ rest) (h : i < us.length) : ws[p + i]? = us[i]? := by
  rw [← List.getElem?_drop, e, List.getElem?_append_left h]
theorem drop_end {ws us rest : List Str} {p : Nat} {d : Str} (e : ws.drop p = us ++ rest) : ws.getD (p + us.length) d = rest.headD d := by
  rw [List.getD_eq_getElem?_getD, ← List.getElem?_drop, e, List.getElem?_append_right (Nat.le_refl _), Nat.sub_self]
  cases rest <;> rfl
theorem Rw.put {mg : Str → Option Value} {x l q : Addr} {ws : List Str} {p p0 : Nat} {H H1 : Hp} {o : HO} (r0 : Rw mg H x l ws p0) (r : Rw mg H1 x l ws p) (hq : H q = none) : Rw mg (upd H1 q o) x l ws p := by
  obtain ⟨_, a1, a2, _⟩ := r0
  obtain ⟨dx, h1, h2, h3⟩ := r
  exact ⟨dx, by rw [upd_ne (ne_of_none a1 hq)]; exact h1, by rw [upd_ne (ne_of_none a2 hq)]; exact h2, h3⟩
theorem BX.put {x q : Addr} {H H1 : Hp} {o : HO} (b : BX x H H1) (hq : H q = none) : BX x H (upd H1 q o) := fun a u n e => by
  rw [upd_ne (ne_of_none e hq)]; exact b a u n e
theorem getD_len {mg : Str → Option Value} {H : Hp} {x l : Addr} {ws : List Str} {p : Nat} (r : Rw mg H x l ws p) : (ws.getD p (so "")).length ≤ 20 := by
  obtain ⟨_, _, _, _, hw, _⟩ := r
  rw [List.getD_eq_getElem?_getD]
  cases h : ws[p]? with
  | none => decide
  | some w => exact hw w (List.mem_of_getElem? h)
theorem nw_at {ns : List Int} {i : Nat} {n : Int} (h : ns[i]? = some n) : (nw ns)[i]? = some (sI n) := by unfold nw; rw [List.getElem?_map, h]; rfl
theorem num_sI {n : Int} (h : okI n) : numB (sI n) = some n := num_int (i := n) (by have : n.natAbs ≤ 10000000000000 := h; omega)
theorem take_int {ns : List Int} {i : Nat} {n : Int} (h : ns[i]? = some n) : (ns.take i).map V.int ++ [V.int n] = (ns.take (i + 1)).map V.int := by
  rw [List.take_add_one, h]; simp
theorem take_str {ns : List Str} {i : Nat} {n : Str} (h : ns[i]? = some n) : (ns.take i).map V.str ++ [V.str n] = (ns.take (i + 1)).map V.str := by
  rw [List.take_add_one, h]; simp
theorem ok_Row_take_numbers  (T : Txt w K mg base) (L : MtdL K (Meth K (clsAt mg "Row") "take_numbers") "take_numbers" "Row.take_numbers" s_Row_take_numbers ["self"]) (FRow_peek : FnR P w K mg base (Meth K (clsAt mg "Row") "peek") 2 ["self"] (spPeek mg)) (FRow_take_number : FnR P w K mg base (Meth K (clsAt mg "Row") "take_number") 3 ["self"] (spNum mg)) (Fnumber_of : Fn P w K mg base "number_of" 1 ["word"] (spNo)) : FnR P w K mg base (Meth K (clsAt mg "Row") "take_numbers") 4 ["self"] (spNums mg) := by
  have nd := sc_Row_take_numbers.nd
  refine L.ok sc_Row_take_numbers (fun vs H Q E h => ?_) (fun f cdv A outer s H vs Q E hr h => ?_) <;> obtain ⟨x, l, ws, p, ns, rest, rfl, R, e, ok, hr0, k⟩ := h
  · rfl
  have hu := hu_of hr
  refine ⟨_, (pss_cons (ps_set (i := 1) nd rfl (by first | exact Or.inl rfl | exact Or.inr rfl) (pe_lstS pa_nil))
    (pss_cons (ps_while PassesOwn.never (pt_cmp (pc_notN (pe_callF Fnumber_of (hr.mono (by first | decide | omega)) rfl (pa_cons (pe_methF0 T.cl_Row FRow_peek (hr.mono (by first | decide | omega)) (pvM 0)) pa_nil)))) (pss_one (ps_expr (pe_mL PySem.F.slot_list_append PySem.F.type_list_append ml_append (pvM 1) (pa_cons (pe_methF0 T.cl_Row FRow_take_number (hr.mono (by first | decide | omega)) (pvM 0)) pa_nil)))))
    (pss_one (ps_ret (pe_callTy call_tupLs rfl T.b_tuple (show bootBuiltins "tuple" = some (.type "tuple") by decide +kernel) (pa_cons (pvM 1) pa_nil)))))), ?_⟩
  have o1 := ok.1
  (try ctx_has vcx true_and)
  refine ⟨by decide, fun q H1 hq s1 h1 => ?_⟩
  refine while_rd (fun m σ H' => ∃ i : Nat, σ = [some (.ref x), some (.ref q)] ∧ i ≤ ns.length ∧ m = ns.length - i ∧ H' q = some (.lst ((ns.take i).map V.int)) ∧ Rw mg H' x l ws (p + i) ∧ BX x H H')
    (fun σ H' => σ = [some (.ref x), some (.ref q)] ∧ H' q = some (.lst (ns.map V.int)) ∧ Rw mg H' x l ws (p + ns.length) ∧ BX x H H') ⟨_, 0, rfl, Nat.zero_le _, rfl, h1, R.same s1, BX.refl.same s1⟩ ?_ ?_
  · rintro Rr hR m σ H2 ⟨i, rfl, hi, rfl, h2, r2, b2⟩
    obtain ⟨dx, hx, hl, hn, hw⟩ := id r2
    (try ctx_has vcx true_and hx lk_peek)
    obtain ⟨_, hx0, _⟩ := id R
    have qx : q ≠ x := (ne_of_none hx0 hq).symm
    refine ⟨x, l, ws, p + i, rfl, r2, _, rfl, getD_len r2, fun H3 s3 => ?_⟩
    by_cases hlt : i < ns.length
    · obtain ⟨n, hn1⟩ : ∃ n, ns[i]? = some n := ⟨ns[i], by simp [hlt]⟩
      have hw1 : ws[p + i]? = some (sI n) := (drop_at e (by simpa [nw] using hlt)).trans (nw_at hn1)
      have on := ok.2 n (List.mem_of_getElem? hn1)
      rw [show ws.getD (p + i) (so "") = sI n by rw [List.getD_eq_getElem?_getD, hw1]; rfl, num_sI on]
      show if decide (V.int n = V.non) = false then _ else _
      rw [if_pos (by simp)]
      refine ⟨fun σ' H' => σ' = [some (.ref x), some (.ref q)] ∧ H' q = some (.lst ((ns.take (i + 1)).map V.int)) ∧ Rw mg H' x l ws (p + (i + 1)) ∧ BX x H H', ?_, ⟨_, s3 _ _ h2⟩, dx, _, s3 _ _ hx, lk_take_number, x, l, ws, p + i, n, rfl, r2.same s3, hw1, on, fun H4 r4 b4 => ⟨_, b4 _ _ qx (s3 _ _ h2), by rw [List.length_map]; exact small1000 (by rw [List.length_take]; omega), rfl, by rw [upd_same, take_int hn1], R.put r4 hq, ((b2.same s3).trans b4).put hq⟩⟩
      rintro σ' H' ⟨rfl, g1, g2, g3⟩
      exact ⟨_, by omega, rfl, i + 1, hlt, rfl, g1, g2, g3⟩
    · have hi2 : i = ns.length := by omega
      subst hi2
      have e2 := drop_end (d := so "") e
      rw [show (nw ns).length = ns.length by simp [nw]] at e2
      rw [e2, hr0]
      show if decide (V.non = V.non) = false then _ else _
      rw [if_neg (by simp)]
      rw [List.take_length] at h2
      exact hR _ _ ⟨rfl, s3 _ _ h2, r2.same s3, b2.same s3⟩
  · rintro σ H2 ⟨rfl, h2, r2, b2⟩
    (try ctx_has vcx true_and)
    exact ⟨_, h2, fun a H3 s3 h3 => k a H3 h3 (r2.same s3) (b2.same s3)⟩
theorem ok_Row_take_some_numbers  (T : Txt w K mg base) (L : MtdL K (Meth K (clsAt mg "Row") "take_some_numbers") "take_some_numbers" "Row.take_some_numbers" s_Row_take_some_numbers ["self"]) (FRow_take_number : FnR P w K mg base (Meth K (clsAt mg "Row") "take_number") 3 ["self"] (spNum mg)) (FRow_take_numbers : FnR P w K mg base (Meth K (clsAt mg "Row") "take_numbers") 4 ["self"] (spNums mg)) : FnR P w K mg base (Meth K (clsAt mg "Row") "take_some_numbers") 5 ["self"] (spNums1 mg) := by
  have nd := sc_Row_take_some_numbers.nd
  refine L.ok sc_Row_take_some_numbers (fun vs H Q E h => ?_) (fun f cdv A outer s H vs Q E hr h => ?_) <;> obtain ⟨x, l, ws, p, ns, rest, rfl, R, e, ok, hl1, hr0, k⟩ := h
  · rfl
  have hu := hu_of hr
  refine ⟨_, (pss_cons (ps_set (i := 1) nd rfl (by first | exact Or.inl rfl | exact Or.inr rfl) (pe_methF0 T.cl_Row FRow_take_number (hr.mono (by first | decide | omega)) (pvM 0)))
    (pss_one (ps_ret (pe_op op_catTs (pe_tupS (pa_cons (pvM 1) pa_nil)) (pe_methF0 T.cl_Row FRow_take_numbers (hr.mono (by first | decide | omega)) (pvM 0)))))), ?_⟩
  cases ns with
  | nil => simp at hl1
  | cons n ns =>
    obtain ⟨dx, hx, hl, hn, hw⟩ := id R
    have hw1 : ws[p]? = some (sI n) := by have := drop_at (i := 0) e (by simp [nw]); simpa [nw] using this
    have e2 : ws.drop (p + 1) = nw ns ++ rest := by rw [← List.drop_drop, e]; rfl
    have o1 := ok.1
    rw [List.length_cons] at o1
    (try ctx_has vcx true_and hx lk_take_number)
    refine ⟨x, l, ws, p, n, rfl, R, hw1, ok.2 n (by simp), fun H1 r1 b1 => ⟨by decide, fun q H2 _ s2 h2 => ?_⟩⟩
    obtain ⟨dx1, hx1, _⟩ := id r1
    refine ⟨dx1, _, s2 _ _ hx1, lk_take_numbers, x, l, ws, p + 1, ns, rest, rfl, r1.same s2, e2, ⟨by omega, fun m hm => ok.2 m (by simp [hm])⟩, hr0, fun a H3 h3 r3 b3 => ⟨a, rfl, _, (b3.keepT (r1.same s2)) _ _ h2, _, h3, szl (by simp; omega), fun u H4 h4 s4 => k u H4 h4 ?_ (((b1.same s2).trans b3).same s4)⟩⟩
    have := r3.same s4
    rwa [show p + 1 + ns.length = p + (n :: ns).length by simp; omega] at this
theorem ok_Row_take_some_names  (T : Txt w K mg base) (L : MtdL K (Meth K (clsAt mg "Row") "take_some_names") "take_some_names" "Row.take_some_names" s_Row_take_some_names ["self"]) (FRow_peek : FnR P w K mg base (Meth K (clsAt mg "Row") "peek") 2 ["self"] (spPeek mg)) (FRow_take_name : FnR P w K mg base (Meth K (clsAt mg "Row") "take_name") 3 ["self"] (spName mg)) (Fis_name : Fn P w K mg base "is_name" 1 ["thing"] (spNm)) : FnR P w K mg base (Meth K (clsAt mg "Row") "take_some_names") 4 ["self"] (spNames1 mg) := by
  have nd := sc_Row_take_some_names.nd
  refine L.ok sc_Row_take_some_names (fun vs H Q E h => ?_) (fun f cdv A outer s H vs Q E hr h => ?_) <;> obtain ⟨x, l, ws, p, us, rest, rfl, R, e, ok, hr0, k⟩ := h
  · rfl
  have hu := hu_of hr
  refine ⟨_, (pss_cons (ps_set (i := 1) nd rfl (by first | exact Or.inl rfl | exact Or.inr rfl) (pe_lstS (pa_cons (pe_methF0 T.cl_Row FRow_take_name (hr.mono (by first | decide | omega)) (pvM 0)) pa_nil)))
    (pss_cons (ps_while PassesOwn.never (pt_val (pe_callF Fis_name (hr.mono (by first | decide | omega)) rfl (pa_cons (pe_methF0 T.cl_Row FRow_peek (hr.mono (by first | decide | omega)) (pvM 0)) pa_nil))) (pss_one (ps_expr (pe_mL PySem.F.slot_list_append PySem.F.type_list_append ml_append (pvM 1) (pa_cons (pe_methF0 T.cl_Row FRow_take_name (hr.mono (by first | decide | omega)) (pvM 0)) pa_nil)))))
    (pss_one (ps_ret (pe_callTy call_tupLs rfl T.b_tuple (show bootBuiltins "tuple" = some (.type "tuple") by decide +kernel) (pa_cons (pvM 1) pa_nil)))))), ?_⟩
  obtain ⟨o0, o1, o2⟩ := ok
  obtain ⟨dx, hx, hl, hn, hw⟩ := id R
  have nth : ∀ i, i < us.length → ∃ w, us[i]? = some w ∧ ws[p + i]? = some w ∧ nmB w = true := fun i hi => ⟨us[i], by simp [hi], (drop_at e hi).trans (by simp [hi]), o2 _ (List.getElem_mem hi)⟩
  obtain ⟨w0, u0, p0, n0⟩ := nth 0 (by omega)
  (try ctx_has vcx true_and hx lk_take_name)
  refine ⟨x, l, ws, p, w0, rfl, R, p0, n0, fun H0 r0 b0 => ⟨by decide, fun q H1 hq s1 h1 => ?_⟩⟩
  have hq0 : H q = none := by
    cases hh : H q with
    | none => rfl
    | some o =>
      by_cases z : q = x
      · obtain ⟨_, a1, _⟩ := r0
        rw [z, a1] at hq; cases hq
      · rw [b0 q o z hh] at hq; cases hq
  refine while_rd (fun m σ H' => ∃ i : Nat, σ = [some (.ref x), some (.ref q)] ∧ 1 ≤ i ∧ i ≤ us.length ∧ m = us.length - i ∧ H' q = some (.lst ((us.take i).map V.str)) ∧ Rw mg H' x l ws (p + i) ∧ BX x H H')
    (fun σ H' => σ = [some (.ref x), some (.ref q)] ∧ H' q = some (.lst (us.map V.str)) ∧ Rw mg H' x l ws (p + us.length) ∧ BX x H H') ⟨_, 1, rfl, Nat.le_refl _, o0, rfl, by rw [h1, ← take_str u0]; rfl, r0.same s1, b0.same s1⟩ ?_ ?_
  · rintro Rr hR m σ H2 ⟨i, rfl, hi0, hi, rfl, h2, r2, b2⟩
    obtain ⟨dx2, hx2, hl2, hn2, hw2⟩ := id r2
    (try ctx_has vcx true_and hx2 lk_peek)
    have qx : q ≠ x := (ne_of_none hx hq0).symm
    refine ⟨x, l, ws, p + i, rfl, r2, _, rfl, getD_len r2, fun H3 s3 => ⟨_, rfl, ?_⟩⟩
    by_cases hlt : i < us.length
    · obtain ⟨w1, u1, p1, n1⟩ := nth i hlt
      rw [show ws.getD (p + i) (so "") = w1 by rw [List.getD_eq_getElem?_getD, p1]; rfl, n1]
      rw [if_pos rfl]
      refine ⟨fun σ' H' => σ' = [some (.ref x), some (.ref q)] ∧ H' q = some (.lst ((us.take (i + 1)).map V.str)) ∧ Rw mg H' x l ws (p + (i + 1)) ∧ BX x H H', ?_, ⟨_, s3 _ _ h2⟩, dx2, _, s3 _ _ hx2, lk_take_name, x, l, ws, p + i, w1, rfl, r2.same s3, p1, n1, fun H4 r4 b4 => ⟨_, b4 _ _ qx (s3 _ _ h2), by rw [List.length_map]; exact small1000 (by rw [List.length_take]; omega), rfl, by rw [upd_same, take_str u1], R.put r4 hq0, ((b2.same s3).trans b4).put hq0⟩⟩
      rintro σ' H' ⟨rfl, g1, g2, g3⟩
      exact ⟨_, by omega, rfl, i + 1, by omega, hlt, rfl, g1, g2, g3⟩
    · have hi2 : i = us.length := by omega
      subst hi2
      rw [drop_end (d := so "") e, hr0]
      rw [if_neg (by decide)]
      rw [List.take_length] at h2
      exact hR _ _ ⟨rfl, s3 _ _ h2, r2.same s3, b2.same s3⟩
  · rintro σ H2 ⟨rfl, h2, r2, b2⟩
    (try ctx_has vcx true_and)
    exact ⟨_, h2, fun a H3 s3 h3 => k a H3 h3 (r2.same s3) (b2.same s3)⟩
noncomputable def spRow (mg : Str → Option Value) : Sp := fun vs H Q _ => ∃ (x dx : Addr) (tx : Str) (ws : List Str), vs = [.ref x, .str tx, .int 0] ∧ H x = some (.ins (clsAt mg "Row") dx []) ∧ tx.length ≤ 100000 ∧ wrd (sg (Txt.partition tx (so "#")).1) = ws.map sg ∧ ws.length ≤ 1000 ∧ (∀ w ∈ ws, w.length ≤ 20) ∧ ∀ l H', Rw mg H' x l ws 0 → BX x H H' → Q .non H'
theorem ok_Row___init__  (T : Txt w K mg base) (L : MtdL K (Mk K (clsAt mg "Row")) "__init__" "Row.__init__" s_Row___init__ ["self", "text", "line"]) (Fwords_of : Fn P w K mg base "words_of" 1 ["text"] (spWo)) : FnR P w K mg base (Mk K (clsAt mg "Row")) 2 ["self", "text", "line"] (spRow mg) := by
  have nd := sc_Row___init__.nd
  refine L.ok sc_Row___init__ (fun vs H Q E h => ?_) (fun f cdv A outer s H vs Q E hr h => ?_) <;> obtain ⟨x, dx, tx, ws, rfl, hx, ht, hw, hn, hw2, k⟩ := h
  · rfl
  have hu := hu_of hr
  refine ⟨_, (pss_cons (ps_fldC T.cl_Row T.no_Row_words (pvM 0) (pe_callF Fwords_of (hr.mono (by first | decide | omega)) rfl (pa_cons (pvM 1) pa_nil)) rfl)
    (pss_cons (ps_fldC T.cl_Row T.no_Row_line (pvM 0) (pvM 2) rfl)
    (pss_one (ps_fldC T.cl_Row T.no_Row_place (pvM 0) pe_int rfl)))), ?_⟩
  (try ctx_has vcx true_and)
  refine ⟨tx, ws, rfl, ht, hw, fun l H1 hl s1 h1 => ⟨dx, _, s1 _ _ hx, by decide, ?_⟩⟩
  (try ctx_has vcx true_and upd_same)
  have lx : l ≠ x := (ne_of_none hx hl).symm
  refine ⟨by show 1 < 1000; decide, by show 2 < 1000; decide, k l _ ⟨dx, by rw [upd_same]; rfl, by rw [upd_ne lx, upd_ne lx, upd_ne lx]; exact h1, hn, hw2, Nat.zero_le _⟩ fun a o n e => by rw [upd_ne n, upd_ne n, upd_ne n]; exact s1 _ _ e⟩
noncomputable def spTk (mg : Str → Option Value) (y : Str) : Sp := fun vs H Q _ => ∃ (x l : Addr) (ws : List Str) (p : Nat) (W : Wp), vs = [.ref x] ∧ Rw mg H x l ws p ∧ sortW W = y ∧ okW W ∧ ws.drop p = (wdW W).tail ∧ ∀ v H', TV H' v (trW W) → Rw mg H' x l ws ws.length → BX x H H' → Q v H'
theorem numB_e : numB (so "") = none := by decide
theorem nmB_e : nmB (so "") = false := by decide
theorem drop_len {ws us : List Str} {p : Nat} (e : ws.drop p = us) (h : p ≤ ws.length) : p + us.length = ws.length := by
  have := congrArg List.length e
  rw [List.length_drop] at this
  omega
theorem drop_next {ws us vs : List Str} {p : Nat} (e : ws.drop p = us ++ vs) : ws.drop (p + us.length) = vs := by
  rw [← List.drop_drop, e, List.drop_left]
theorem drop_hd {ws vs : List Str} {w : Str} {p : Nat} (e : ws.drop p = w :: vs) : ws[p]? = some w ∧ ws.drop (p + 1) = vs := by
  refine ⟨?_, drop_next (us := [w]) e⟩
  have := drop_at (us := [w]) (rest := vs) (i := 0) e (by simp)
  simpa using this
theorem rd_end {mg : Str → Option Value} {H : Hp} {x l : Addr} {ws : List Str} {p : Nat} (r : Rw mg H x l ws p) (e : ws.drop p = []) : Rw mg H x l ws ws.length := by
  have h : p ≤ ws.length := let ⟨_, _, _, _, _, h⟩ := r; h
  have := drop_len e h
  simp at this
  rwa [this] at r
section
variable {mg : Str → Option Value} {H : Hp} {x l : Addr} {ws vs us : List Str} {p : Nat} {w : Str} {n : Int} {ns : List Int} {A : V → Hp → Prop}
theorem rd_mark (r : Rw mg H x l ws p) (e : ws.drop p = w :: vs) (k : ∀ H', Rw mg H' x l ws (p + 1) → ws.drop (p + 1) = vs → BX x H H' → A .non H') : ∃ dx fs, H x = some (.ins (clsAt mg (Str.ofString "Row")) dx fs) ∧ fs.lookup (Str.ofString "take_mark") = none ∧ spMark mg [.ref x, .str w] H A E0 := by
  obtain ⟨dx, hx, _⟩ := id r
  exact ⟨dx, _, hx, lk_take_mark, x, l, ws, p, w, rfl, r, (drop_hd e).1, fun H' r' b' => k H' r' (drop_hd e).2 b'⟩
theorem rd_num (r : Rw mg H x l ws p) (e : ws.drop p = sI n :: vs) (o : okI n) (k : ∀ H', Rw mg H' x l ws (p + 1) → ws.drop (p + 1) = vs → BX x H H' → A (.int n) H') : ∃ dx fs, H x = some (.ins (clsAt mg (Str.ofString "Row")) dx fs) ∧ fs.lookup (Str.ofString "take_number") = none ∧ spNum mg [.ref x] H A E0 := by
  obtain ⟨dx, hx, _⟩ := id r
  exact ⟨dx, _, hx, lk_take_number, x, l, ws, p, n, rfl, r, (drop_hd e).1, o, fun H' r' b' => k H' r' (drop_hd e).2 b'⟩
theorem rd_name (r : Rw mg H x l ws p) (e : ws.drop p = w :: vs) (o : nmB w = true) (k : ∀ H', Rw mg H' x l ws (p + 1) → ws.drop (p + 1) = vs → BX x H H' → A (.str w) H') : ∃ dx fs, H x = some (.ins (clsAt mg (Str.ofString "Row")) dx fs) ∧ fs.lookup (Str.ofString "take_name") = none ∧ spName mg [.ref x] H A E0 := by
  obtain ⟨dx, hx, _⟩ := id r
  exact ⟨dx, _, hx, lk_take_name, x, l, ws, p, w, rfl, r, (drop_hd e).1, o, fun H' r' b' => k H' r' (drop_hd e).2 b'⟩
theorem rd_nums (r : Rw mg H x l ws p) (e : ws.drop p = nw ns ++ vs) (o : okL ns) (h : numB (vs.headD (so "")) = none) (k : ∀ a H', H' a = some (.tup (ns.map V.int)) → Rw mg H' x l ws (p + ns.length) → ws.drop (p + ns.length) = vs → BX x H H' → A (.ref a) H') : ∃ dx fs, H x = some (.ins (clsAt mg (Str.ofString "Row")) dx fs) ∧ fs.lookup (Str.ofString "take_numbers") = none ∧ spNums mg [.ref x] H A E0 := by
  obtain ⟨dx, hx, _⟩ := id r
  have e1 := drop_next e
  rw [show (nw ns).length = ns.length by simp [nw]] at e1
  exact ⟨dx, _, hx, lk_take_numbers, x, l, ws, p, ns, vs, rfl, r, e, o, h, fun a H' h' r' b' => k a H' h' r' e1 b'⟩
theorem rd_nums1 (r : Rw mg H x l ws p) (e : ws.drop p = nw ns ++ vs) (o : okL ns) (o1 : 1 ≤ ns.length) (h : numB (vs.headD (so "")) = none) (k : ∀ a H', H' a = some (.tup (ns.map V.int)) → Rw mg H' x l ws (p + ns.length) → ws.drop (p + ns.length) = vs → BX x H H' → A (.ref a) H') : ∃ dx fs, H x = some (.ins (clsAt mg (Str.ofString "Row")) dx fs) ∧ fs.lookup (Str.ofString "take_some_numbers") = none ∧ spNums1 mg [.ref x] H A E0 := by
  obtain ⟨dx, hx, _⟩ := id r
  have e1 := drop_next e
  rw [show (nw ns).length = ns.length by simp [nw]] at e1
  exact ⟨dx, _, hx, lk_take_some_numbers, x, l, ws, p, ns, vs, rfl, r, e, o, o1, h, fun a H' h' r' b' => k a H' h' r' e1 b'⟩
theorem rd_names (r : Rw mg H x l ws p) (e : ws.drop p = us ++ vs) (o : okN us) (h : nmB (vs.headD (so "")) = false) (k : ∀ a H', H' a = some (.tup (us.map V.str)) → Rw mg H' x l ws (p + us.length) → ws.drop (p + us.length) = vs → BX x H H' → A (.ref a) H') : ∃ dx fs, H x = some (.ins (clsAt mg (Str.ofString "Row")) dx fs) ∧ fs.lookup (Str.ofString "take_some_names") = none ∧ spNames1 mg [.ref x] H A E0 := by
  obtain ⟨dx, hx, _⟩ := id r
  exact ⟨dx, _, hx, lk_take_some_names, x, l, ws, p, us, vs, rfl, r, e, o, h, fun a H' h' r' b' => k a H' h' r' (drop_next e) b'⟩
end
theorem tv_S {H : Hp} {a : Addr} {ws : List Str} (h : H a = some (.tup (ws.map V.str))) (hn : ∀ w ∈ ws, nmB w = true) : TV H (.ref a) (tS ws) := by
  refine ⟨a, _, rfl, h, ?_⟩
  clear h
  induction ws with
  | nil => rfl
  | cons w ws ih => exact ⟨_, _, rfl, ⟨rfl, (wd_nm (hn w (by simp))).2.2.2.2⟩, ih fun x hx => hn x (by simp [hx])⟩
theorem tv_I {H : Hp} {a : Addr} {ns : List Int} (h : H a = some (.tup (ns.map V.int))) : TV H (.ref a) (tI ns) := by
  refine ⟨a, _, rfl, h, ?_⟩
  clear h
  induction ns with
  | nil => rfl
  | cons n ns ih => exact ⟨_, _, rfl, rfl, ih⟩
theorem ok_take_unlike   (T : Txt w K mg base) (L : FnL K mg "take_unlike" s_take_unlike ["row"]) (FRow_take_some_names : FnR P w K mg base (Meth K (clsAt mg "Row") "take_some_names") 4 ["self"] (spNames1 mg)) : Fn P w K mg base "take_unlike" 5 ["row"] (spTk mg "unlike") := by
  have nd := sc_take_unlike.nd
  refine L.ok sc_take_unlike (fun vs H Q E h => ?_) (fun f cdv A outer s H vs Q E hr h => ?_) <;> obtain ⟨x, l, ws, p, W, rfl, R, hs, ok, e, k⟩ := h
  · rfl
  have hu := hu_of hr
  refine ⟨_, (pss_one (ps_ret (pe_tupS (pa_cons pe_str (pa_cons (pe_methF0 T.cl_Row FRow_take_some_names (hr.mono (by first | decide | omega)) (pvM 0)) pa_nil))))), ?_⟩
  obtain ⟨us, rfl⟩ := inv_un hs
  (try ctx_has vcx true_and)
  refine rd_names (vs := []) R (by rw [List.append_nil]; exact e) ok nmB_e fun a H1 h1 r1 e1 b1 => ⟨by decide, fun q H2 _ s2 h2 => k _ H2 ⟨q, _, rfl, h2, _, _, rfl, ⟨rfl, by decide⟩, _, _, rfl, tv_S (s2 _ _ h1) ok.2.2, rfl⟩ (rd_end (r1.same s2) e1) (b1.same s2)⟩
theorem ok_take_many   (T : Txt w K mg base) (L : FnL K mg "take_many" s_take_many ["row"]) (FRow_take_numbers : FnR P w K mg base (Meth K (clsAt mg "Row") "take_numbers") 4 ["self"] (spNums mg)) (FRow_take_mark : FnR P w K mg base (Meth K (clsAt mg "Row") "take_mark") 3 ["self", "mark"] (spMark mg)) (FRow_take_some_names : FnR P w K mg base (Meth K (clsAt mg "Row") "take_some_names") 4 ["self"] (spNames1 mg)) (FRow_take_number : FnR P w K mg base (Meth K (clsAt mg "Row") "take_number") 3 ["self"] (spNum mg)) : Fn P w K mg base "take_many" 5 ["row"] (spTk mg "many") := by
  have nd := sc_take_many.nd
  refine L.ok sc_take_many (fun vs H Q E h => ?_) (fun f cdv A outer s H vs Q E hr h => ?_) <;> obtain ⟨x, l, ws, p, W, rfl, R, hs, ok, e, k⟩ := h
  · rfl
  have hu := hu_of hr
  refine ⟨_, (pss_cons (ps_set (i := 1) nd rfl (by first | exact Or.inl rfl | exact Or.inr rfl) (pe_methF0 T.cl_Row FRow_take_numbers (hr.mono (by first | decide | omega)) (pvM 0)))
    (pss_cons (ps_expr (pe_methF T.cl_Row FRow_take_mark (hr.mono (by first | decide | omega)) (pvM 0) (pa_cons pe_str pa_nil)))
    (pss_cons (ps_set (i := 2) nd rfl (by first | exact Or.inl rfl | exact Or.inr rfl) (pe_methF0 T.cl_Row FRow_take_some_names (hr.mono (by first | decide | omega)) (pvM 0)))
    (pss_cons (ps_expr (pe_methF T.cl_Row FRow_take_mark (hr.mono (by first | decide | omega)) (pvM 0) (pa_cons pe_str pa_nil)))
    (pss_cons (ps_set (i := 3) nd rfl (by first | exact Or.inl rfl | exact Or.inr rfl) (pe_methF0 T.cl_Row FRow_take_number (hr.mono (by first | decide | omega)) (pvM 0)))
    (pss_cons (ps_expr (pe_methF T.cl_Row FRow_take_mark (hr.mono (by first | decide | omega)) (pvM 0) (pa_cons pe_str pa_nil)))
    (pss_cons (ps_set (i := 4) nd rfl (by first | exact Or.inl rfl | exact Or.inr rfl) (pe_methF0 T.cl_Row FRow_take_number (hr.mono (by first | decide | omega)) (pvM 0)))
    (pss_one (ps_ret (pe_tupS (pa_cons pe_str (pa_cons (pvM 1) (pa_cons (pvM 2) (pa_cons (pvM 3) (pa_cons (pvM 4) pa_nil))))))))))))))), ?_⟩
  obtain ⟨ns, us, c, d, rfl⟩ := inv_ma hs
  obtain ⟨on, ou, oc, od⟩ := ok
  have e : ws.drop p = nw ns ++ (so "in" :: (us ++ [so "from", sI c, so "to", sI d])) := e
  (try ctx_has vcx true_and)
  refine rd_nums R e on (by show numB (so "in") = none; decide) fun a H1 h1 r1 e1 b1 => ?_
  refine rd_mark r1 e1 fun H2 r2 e2 b2 => rd_names r2 e2 ou (by show nmB (so "from") = false; decide) fun a2 H3 h3 r3 e3 b3 => ?_
  refine rd_mark r3 e3 fun H4 r4 e4 b4 => rd_num r4 e4 oc fun H5 r5 e5 b5 => rd_mark r5 e5 fun H6 r6 e6 b6 => rd_num r6 e6 od fun H7 r7 e7 b7 => ⟨by decide, fun q H8 _ s8 h8 => ?_⟩
  have k3 : KeepT H3 H8 := ((((b4.keepT r3).trans (b5.keepT r4)).trans (b6.keepT r5)).trans (b7.keepT r6)).trans (Same.keepT s8)
  have k1 : KeepT H1 H8 := ((b2.keepT r1).trans (b3.keepT r2)).trans k3
  exact k _ H8 ⟨q, _, rfl, h8, _, _, rfl, ⟨rfl, by decide⟩, _, _, rfl, tv_I (k1 _ _ h1), _, _, rfl, tv_S (k3 _ _ h3) ou.2.2, _, _, rfl, rfl, _, _, rfl, rfl, rfl⟩ (rd_end (r7.same s8) e7) (((((((b1.trans b2).trans b3).trans b4).trans b5).trans b6).trans b7).same s8)
theorem ok_take_behind   (T : Txt w K mg base) (L : FnL K mg "take_behind" s_take_behind ["row"]) (FRow_take_some_names : FnR P w K mg base (Meth K (clsAt mg "Row") "take_some_names") 4 ["self"] (spNames1 mg)) (FRow_take_number : FnR P w K mg base (Meth K (clsAt mg "Row") "take_number") 3 ["self"] (spNum mg)) : Fn P w K mg base "take_behind" 5 ["row"] (spTk mg "behind") := by
  have nd := sc_take_behind.nd
  refine L.ok sc_take_behind (fun vs H Q E h => ?_) (fun f cdv A outer s H vs Q E hr h => ?_) <;> obtain ⟨x, l, ws, p, W, rfl, R, hs, ok, e, k⟩ := h
  · rfl
  have hu := hu_of hr
  refine ⟨_, (pss_cons (ps_set (i := 1) nd rfl (by first | exact Or.inl rfl | exact Or.inr rfl) (pe_methF0 T.cl_Row FRow_take_number (hr.mono (by first | decide | omega)) (pvM 0)))
    (pss_cons (ps_set (i := 2) nd rfl (by first | exact Or.inl rfl | exact Or.inr rfl) (pe_methF0 T.cl_Row FRow_take_some_names (hr.mono (by first | decide | omega)) (pvM 0)))
    (pss_one (ps_ret (pe_tupS (pa_cons pe_str (pa_cons (pvM 2) (pa_cons (pvM 1) pa_nil)))))))), ?_⟩
  obtain ⟨us, g, rfl⟩ := inv_be hs
  obtain ⟨ou, og⟩ := ok
  have e : ws.drop p = sI g :: us := e
  (try ctx_has vcx true_and)
  refine rd_num R e og fun H1 r1 e1 b1 => rd_names (vs := []) r1 (by rw [List.append_nil]; exact e1) ou nmB_e fun a H2 h2 r2 e2 b2 => ⟨by decide, fun q H3 _ s3 h3 => k _ H3 ⟨q, _, rfl, h3, _, _, rfl, ⟨rfl, by decide⟩, _, _, rfl, tv_S (s3 _ _ h2) ou.2.2, _, _, rfl, rfl, rfl⟩ (rd_end (r2.same s3) e2) ((b1.trans b2).same s3)⟩
theorem rd_peek {mg : Str → Option Value} {H : Hp} {x l : Addr} {ws vs : List Str} {p : Nat} {A : V → Hp → Prop} (r : Rw mg H x l ws p) (e : ws.drop p = vs) (k : A (.str (vs.headD (so ""))) H) : ∃ dx fs, H x = some (.ins (clsAt mg (Str.ofString "Row")) dx fs) ∧ fs.lookup (Str.ofString "peek") = none ∧ spPeek mg [.ref x] H A E0 := by
  obtain ⟨dx, hx, _⟩ := id r
  have e1 := drop_end (us := []) (rest := vs) (d := so "") e
  exact ⟨dx, _, hx, lk_peek, x, l, ws, p, rfl, r, by rw [show p = p + ([] : List Str).length from rfl, e1]; exact k⟩
theorem sI_ne {i : Int} {w : Str} {c : Nat} (h : c ∈ sg w) (hc : c ≠ 45 ∧ (c < 48 ∨ 57 < c)) : ¬ sI i = w := fun e => by
  rw [← e] at h
  exact PyProof.Rows.int_text_free' c hc i h
noncomputable def spTerm (mg : Str → Option Value) : Sp := fun vs H Q _ => ∃ (x l : Addr) (ws : List Str) (p : Nat) (c : Int) (w : Str) (us : List Str), vs = [.ref x] ∧ Rw mg H x l ws p ∧ ws.drop p = sI c :: w :: us ∧ okI c ∧ nmB w = true ∧ ∀ a H', H' a = some (.tup [.int c, .str w]) → Rw mg H' x l ws (p + 1 + 1) → ws.drop (p + 1 + 1) = us → BX x H H' → Q (.ref a) H'
noncomputable def spBound (mg : Str → Option Value) : Sp := fun vs H Q _ => ∃ (x l : Addr) (ws : List Str) (p : Nat) (o : Option Int) (us : List Str), vs = [.ref x] ∧ Rw mg H x l ws p ∧ ws.drop p = bw o :: us ∧ okO o ∧ ∀ H', Rw mg H' x l ws (p + 1) → ws.drop (p + 1) = us → BX x H H' → Q (oV o) H'
theorem tv_O {H : Hp} (o : Option Int) : TV H (oV o) (tO o) := by cases o <;> rfl
noncomputable def tmT (t : Int × Str) : Tr := .tup [.int t.1, .str t.2]
theorem ok_take_term   (T : Txt w K mg base) (L : FnL K mg "take_term" s_take_term ["row"]) (FRow_take_name : FnR P w K mg base (Meth K (clsAt mg "Row") "take_name") 3 ["self"] (spName mg)) (FRow_take_number : FnR P w K mg base (Meth K (clsAt mg "Row") "take_number") 3 ["self"] (spNum mg)) : Fn P w K mg base "take_term" 4 ["row"] (spTerm mg) := by
  have nd := sc_take_term.nd
  refine L.ok sc_take_term (fun vs H Q E h => ?_) (fun f cdv A outer s H vs Q E hr h => ?_) <;> obtain ⟨x, l, ws, p, c, w, us, rfl, R, e, oc, ow, k⟩ := h
  · rfl
  have hu := hu_of hr
  refine ⟨_, (pss_cons (ps_set (i := 1) nd rfl (by first | exact Or.inl rfl | exact Or.inr rfl) (pe_methF0 T.cl_Row FRow_take_number (hr.mono (by first | decide | omega)) (pvM 0)))
    (pss_cons (ps_set (i := 2) nd rfl (by first | exact Or.inl rfl | exact Or.inr rfl) (pe_methF0 T.cl_Row FRow_take_name (hr.mono (by first | decide | omega)) (pvM 0)))
    (pss_one (ps_ret (pe_tupS (pa_cons (pvM 1) (pa_cons (pvM 2) pa_nil))))))), ?_⟩
  (try ctx_has vcx true_and)
  exact rd_num R e oc fun H1 r1 e1 b1 => rd_name r1 e1 ow fun H2 r2 e2 b2 => ⟨by decide, fun q H3 _ s3 h3 => k q H3 h3 (r2.same s3) e2 ((b1.trans b2).same s3)⟩
theorem ok_take_bound   (T : Txt w K mg base) (L : FnL K mg "take_bound" s_take_bound ["row"]) (FRow_peek : FnR P w K mg base (Meth K (clsAt mg "Row") "peek") 2 ["self"] (spPeek mg)) (FRow_take_mark : FnR P w K mg base (Meth K (clsAt mg "Row") "take_mark") 3 ["self", "mark"] (spMark mg)) (FRow_take_number : FnR P w K mg base (Meth K (clsAt mg "Row") "take_number") 3 ["self"] (spNum mg)) : Fn P w K mg base "take_bound" 4 ["row"] (spBound mg) := by
  have nd := sc_take_bound.nd
  refine L.ok sc_take_bound (fun vs H Q E h => ?_) (fun f cdv A outer s H vs Q E hr h => ?_) <;> obtain ⟨x, l, ws, p, o, us, rfl, R, e, oo, k⟩ := h
  · rfl
  have hu := hu_of hr
  refine ⟨_, (pss_cons (ps_if (pt_cmpR op_eq (pe_methF0 T.cl_Row FRow_peek (hr.mono (by first | decide | omega)) (pvM 0)) pe_str (nomark _)) (pss_cons (ps_expr (pe_methF T.cl_Row FRow_take_mark (hr.mono (by first | decide | omega)) (pvM 0) (pa_cons pe_str pa_nil)))
    (pss_one (ps_ret pe_non))) pss_nil)
    (pss_one (ps_ret (pe_methF0 T.cl_Row FRow_take_number (hr.mono (by first | decide | omega)) (pvM 0))))), ?_⟩
  (try ctx_has vcx true_and)
  refine rd_peek R e ?_
  cases o with
  | none =>
    (try ctx_has vcx true_and List.headD_cons bw)
    exact rd_mark R e k
  | some i =>
    (try ctx_has vcx true_and List.headD_cons bw)
    rw [if_neg (sI_ne (c := 95) (by decide) (by decide))]
    exact rd_num R e (oo i rfl) k
theorem ok_take_sum   (T : Txt w K mg base) (L : FnL K mg "take_sum" s_take_sum ["row"]) (FRow_peek : FnR P w K mg base (Meth K (clsAt mg "Row") "peek") 2 ["self"] (spPeek mg)) (FRow_take_mark : FnR P w K mg base (Meth K (clsAt mg "Row") "take_mark") 3 ["self", "mark"] (spMark mg)) (Ftake_term : Fn P w K mg base "take_term" 4 ["row"] (spTerm mg)) (Ftake_bound : Fn P w K mg base "take_bound" 4 ["row"] (spBound mg)) : Fn P w K mg base "take_sum" 5 ["row"] (spTk mg "sum") := by
  have nd := sc_take_sum.nd
  refine L.ok sc_take_sum (fun vs H Q E h => ?_) (fun f cdv A outer s H vs Q E hr h => ?_) <;> obtain ⟨x, l, ws, p, W, rfl, R, hs, ok, e, k⟩ := h
  · rfl
  have hu := hu_of hr
  refine ⟨_, (pss_cons (ps_set (i := 1) nd rfl (by first | exact Or.inl rfl | exact Or.inr rfl) (pe_lstS (pa_cons (pe_callF Ftake_term (hr.mono (by first | decide | omega)) rfl (pa_cons (pvM 0) pa_nil)) pa_nil)))
    (pss_cons (ps_while PassesOwn.never (pt_cmpR op_ne (pe_methF0 T.cl_Row FRow_peek (hr.mono (by first | decide | omega)) (pvM 0)) pe_str (nomark _)) (pss_one (ps_expr (pe_mL PySem.F.slot_list_append PySem.F.type_list_append ml_append (pvM 1) (pa_cons (pe_callF Ftake_term (hr.mono (by first | decide | omega)) rfl (pa_cons (pvM 0) pa_nil)) pa_nil)))))
    (pss_cons (ps_expr (pe_methF T.cl_Row FRow_take_mark (hr.mono (by first | decide | omega)) (pvM 0) (pa_cons pe_str pa_nil)))
    (pss_cons (ps_set (i := 2) nd rfl (by first | exact Or.inl rfl | exact Or.inr rfl) (pe_callF Ftake_bound (hr.mono (by first | decide | omega)) rfl (pa_cons (pvM 0) pa_nil)))
    (pss_cons (ps_expr (pe_methF T.cl_Row FRow_take_mark (hr.mono (by first | decide | omega)) (pvM 0) (pa_cons pe_str pa_nil)))
    (pss_cons (ps_set (i := 3) nd rfl (by first | exact Or.inl rfl | exact Or.inr rfl) (pe_callF Ftake_bound (hr.mono (by first | decide | omega)) rfl (pa_cons (pvM 0) pa_nil)))
    (pss_one (ps_ret (pe_tupS (pa_cons pe_str (pa_cons (pe_callTy call_tupLs rfl T.b_tuple (show bootBuiltins "tuple" = some (.type "tuple") by decide +kernel) (pa_cons (pvM 1) pa_nil)) (pa_cons (pvM 2) (pa_cons (pvM 3) pa_nil))))))))))))), ?_⟩
  obtain ⟨ts, lo, hi, rfl⟩ := inv_su hs
  obtain ⟨o0, o1, ot, ol, oh⟩ := ok
  cases ts with
  | nil => simp at o0
  | cons t0 ts0 =>
    obtain ⟨c0, w0⟩ := t0
    have e : ws.drop p = sI c0 :: w0 :: (tw ts0 ++ [so "from", bw lo, so "to", bw hi]) := e
    (try ctx_has vcx true_and)
    refine ⟨x, l, ws, p, c0, w0, _, rfl, R, e, (ot (c0, w0) (by simp)).1, (ot (c0, w0) (by simp)).2, fun a0 H0 h0 r0 e0 b0 => ⟨by decide, fun q H1 hq s1 h1 => ?_⟩⟩
    have qx : q ≠ x := by
      obtain ⟨_, a1, _⟩ := r0
      rintro rfl
      rw [a1] at hq; cases hq
    have hq0 : H q = none := by
      cases hh : H q with
      | none => rfl
      | some o => rw [b0 q o qx hh] at hq; cases hq
    have wt0 : (w0 : Str).length ≤ 20 := (wd_nm (ot (c0, w0) (by simp)).2).2.2.2.2
    refine while_rd (fun m σ H' => ∃ (i pi : Nat) (xs : List V), σ = [some (.ref x), some (.ref q), none, none] ∧ i ≤ ts0.length ∧ m = ts0.length - i ∧ H' q = some (.lst xs) ∧ TVs H' xs (((c0, w0) :: ts0.take i).map tmT) ∧ Rw mg H' x l ws pi ∧ ws.drop pi = tw (ts0.drop i) ++ [so "from", bw lo, so "to", bw hi] ∧ BX x H H')
      (fun σ H' => ∃ (pi : Nat) (xs : List V), σ = [some (.ref x), some (.ref q), none, none] ∧ H' q = some (.lst xs) ∧ TVs H' xs (((c0, w0) :: ts0).map tmT) ∧ Rw mg H' x l ws pi ∧ ws.drop pi = [so "from", bw lo, so "to", bw hi] ∧ BX x H H')
      ⟨_, 0, _, _, rfl, Nat.zero_le _, rfl, h1, ⟨_, _, rfl, ⟨a0, _, rfl, s1 _ _ h0, _, _, rfl, rfl, _, _, rfl, ⟨rfl, wt0⟩, rfl⟩, rfl⟩, r0.same s1, e0, b0.same s1⟩ ?_ ?_
    · rintro Rr hR m σ H2 ⟨i, pi, xs, rfl, hi2, rfl, h2, t2, r2, e2, b2⟩
      have hxl : xs.length = i + 1 := by rw [t2.len]; simp; omega
      (try ctx_has vcx true_and)
      refine rd_peek r2 e2 ?_
      by_cases hlt : i < ts0.length
      · obtain ⟨c, w, hcw⟩ : ∃ c w, ts0[i]? = some (c, w) := ⟨ts0[i].1, ts0[i].2, by simp [hlt]⟩
        have ed : ts0.drop i = (c, w) :: ts0.drop (i + 1) := by rw [List.drop_eq_getElem_cons hlt]; have := hcw; simp [hlt] at this; rw [this]
        rw [ed] at e2 ⊢
        have otc := ot (c, w) (by simp [List.mem_of_getElem? hcw])
        have e3 : ws.drop pi = sI c :: w :: (tw (ts0.drop (i + 1)) ++ [so "from", bw lo, so "to", bw hi]) := e2
        refine ⟨rfl, ?_⟩
        show if decide (V.str (sI c) = V.str (Str.ofString "from")) = false then _ else _
        rw [if_pos (decide_eq_false fun z => sI_ne (c := 102) (by decide) (by decide) (V.str.inj z))]
        refine ⟨fun σ' H' => ∃ (pi' : Nat) (xs' : List V), σ' = [some (.ref x), some (.ref q), none, none] ∧ H' q = some (.lst xs') ∧ TVs H' xs' (tmT (c0, w0) :: (ts0.take (i + 1)).map tmT) ∧ Rw mg H' x l ws pi' ∧ ws.drop pi' = tw (ts0.drop (i + 1)) ++ [so "from", bw lo, so "to", bw hi] ∧ BX x H H', ?_, ⟨_, h2⟩, x, l, ws, pi, c, w, _, rfl, r2, e3, otc.1, otc.2, fun a H3 h3 r3 e4 b3 => ⟨xs, b3 _ _ qx h2, small1000 (by rw [List.length_cons] at o1; omega), pi + 1 + 1, xs ++ [.ref a], rfl, upd_same, ?_, R.put r3 hq0, e4, (b2.trans b3).put hq0⟩⟩
        · rintro σ' H' ⟨pi', xs', rfl, g1, g2, g3, g4, g5⟩
          exact ⟨_, by omega, rfl, i + 1, hlt, rfl, pi', xs', g1, g2, g3, g4, g5⟩
        · have hq3 := b3 _ _ qx h2
          have kk : KeepT H2 (upd H3 q (.lst (xs ++ [.ref a]))) := (b3.keepT r2).trans (keepT_put hq3)
          have ta : TV (upd H3 q (.lst (xs ++ [.ref a]))) (.ref a) (tmT (c, w)) := ⟨a, _, rfl, by rw [upd_ne (ne_of h3 hq3 (by intro z; cases z))]; exact h3, _, _, rfl, rfl, _, _, rfl, ⟨rfl, (wd_nm otc.2).2.2.2.2⟩, rfl⟩
          have t3 := (TVs.keep kk _ t2).app (TVs.one ta)
          rw [List.take_add_one, hcw, Option.toList_some, List.map_append]
          exact t3
      · have hi3 : i = ts0.length := by omega
        subst hi3
        rw [List.drop_length] at e2 ⊢
        rw [List.take_length] at t2
        refine ⟨rfl, ?_⟩
        show if decide (V.str (so "from") = V.str (Str.ofString "from")) = false then _ else _
        rw [if_neg (by simp)]
        exact hR _ _ ⟨pi, xs, rfl, h2, t2, r2, e2, b2⟩
    · rintro σ H2 ⟨pi, xs, rfl, h2, t2, r2, e2, b2⟩
      (try ctx_has vcx true_and)
      refine rd_mark r2 e2 fun H3 r3 e3 b3 => ⟨x, l, ws, _, lo, _, rfl, r3, e3, ol, fun H4 r4 e4 b4 => rd_mark r4 e4 fun H5 r5 e5 b5 => ⟨x, l, ws, _, hi, _, rfl, r5, e5, oh, fun H6 r6 e6 b6 => ⟨xs, b6 _ _ qx (b5 _ _ qx (b4 _ _ qx (b3 _ _ qx h2))), fun a H7 s7 h7 => ⟨by decide, fun u H8 _ s8 h8 => ?_⟩⟩⟩⟩
      have kk : KeepT H2 H8 := ((((b3.keepT r2).trans (b4.keepT r3)).trans (b5.keepT r4)).trans (b6.keepT r5)).trans (Same.keepT (s7.trans s8))
      exact k _ H8 ⟨u, _, rfl, h8, _, _, rfl, ⟨rfl, by decide⟩, _, _, rfl, ⟨a, xs, rfl, s8 _ _ h7, TVs.keep kk _ t2⟩, _, _, rfl, tv_O lo, _, _, rfl, tv_O hi, rfl⟩ (rd_end (r6.same (s7.trans s8)) e6) (((((b2.trans b3).trans b4).trans b5).trans b6).same (s7.trans s8))
noncomputable def sq : List (List Int) → List Str
  | [] => []
  | r :: rs => so ";" :: (nw r ++ sq rs)
theorem foldl_sq : ∀ (rs : List (List Int)) {us : List Str}, us ≠ [] → rs.foldl pw us = us ++ sq rs
  | [], us, _ => by simp [sq]
  | r :: rs, us, h => by
    have h1 : us.length > 0 := List.length_pos_iff.mpr h
    have e : pw us r = us ++ (so ";" :: nw r) := by unfold pw; rw [if_pos h1]; rfl
    rw [List.foldl_cons, foldl_sq rs (by rw [e]; simp), e, List.append_assoc]
    rfl
theorem pws_sq {r : List Int} {rs : List (List Int)} (h : 1 ≤ r.length) : pws (r :: rs) = nw r ++ sq rs := by
  show rs.foldl pw (pw [] r) = _
  have e : pw [] r = nw r := by simp [pw]
  rw [e]
  refine foldl_sq rs fun z => ?_
  have := congrArg List.length z
  simp [nw] at this
  rw [this] at h
  simp at h
noncomputable def lf (rs : List (List Int)) (i : Nat) : List Str := if i = 0 then pws rs else sq (rs.drop i)
theorem lf_next {rs : List (List Int)} {i : Nat} {r : List Int} (h : rs[i]? = some r) (hr : 1 ≤ r.length) : lf rs i = (if i = 0 then [] else [so ";"]) ++ (nw r ++ lf rs (i + 1)) := by
  have hlt : i < rs.length := (List.getElem?_eq_some_iff.mp h).1
  have ed : rs.drop i = r :: rs.drop (i + 1) := by rw [List.drop_eq_getElem_cons hlt]; have := h; simp [hlt] at this; rw [this]
  have e2 : lf rs (i + 1) = sq (rs.drop (i + 1)) := if_neg (by omega)
  rw [e2]
  unfold lf
  by_cases z : i = 0
  · subst z
    rw [List.drop_zero] at ed
    rw [if_pos rfl, if_pos rfl, ed, pws_sq hr]
    rfl
  · rw [if_neg z, if_neg z, ed]
    rfl
theorem lf_end {rs : List (List Int)} : lf rs rs.length = [] := by
  unfold lf
  split
  · rename_i h; rw [List.length_eq_zero_iff.mp h]; rfl
  · rw [List.drop_length]; rfl
theorem sq_hd {rs : List (List Int)} {i : Nat} {tl : List Str} (h : numB (tl.headD (so "")) = none) : numB ((lf rs (i + 1) ++ tl).headD (so "")) = none := by
  rw [show lf rs (i + 1) = sq (rs.drop (i + 1)) from if_neg (by omega)]
  cases rs.drop (i + 1) with
  | nil => exact h
  | cons r rs => show numB (so ";") = none; decide
theorem rd_done {mg : Str → Option Value} {H : Hp} {x l : Addr} {ws : List Str} {p : Nat} {A : V → Hp → Prop} (r : Rw mg H x l ws p) (k : A (.bl (decide (ws.drop p = []))) H) : ∃ dx fs, H x = some (.ins (clsAt mg (Str.ofString "Row")) dx fs) ∧ fs.lookup (Str.ofString "is_done") = none ∧ spDone mg [.ref x] H A E0 := by
  obtain ⟨dx, hx, _, _, _, hp⟩ := id r
  refine ⟨dx, _, hx, lk_is_done, x, l, ws, p, rfl, r, ?_⟩
  rwa [show decide (p = ws.length) = decide (ws.drop p = []) from decide_eq_decide.mpr (by rw [List.drop_eq_nil_iff]; omega)]
theorem ok_take_table   (T : Txt w K mg base) (L : FnL K mg "take_table" s_take_table ["row"]) (FRow_take_some_names : FnR P w K mg base (Meth K (clsAt mg "Row") "take_some_names") 4 ["self"] (spNames1 mg)) (FRow_take_mark : FnR P w K mg base (Meth K (clsAt mg "Row") "take_mark") 3 ["self", "mark"] (spMark mg)) (FRow_is_done : FnR P w K mg base (Meth K (clsAt mg "Row") "is_done") 1 ["self"] (spDone mg)) (FRow_take_some_numbers : FnR P w K mg base (Meth K (clsAt mg "Row") "take_some_numbers") 5 ["self"] (spNums1 mg)) : Fn P w K mg base "take_table" 6 ["row"] (spTk mg "table") := by
  have nd := sc_take_table.nd
  refine L.ok sc_take_table (fun vs H Q E h => ?_) (fun f cdv A outer s H vs Q E hr h => ?_) <;> obtain ⟨x, l, ws, p, W, rfl, R, hs, ok, e, k⟩ := h
  · rfl
  have hu := hu_of hr
  refine ⟨_, (pss_cons (ps_set (i := 1) nd rfl (by first | exact Or.inl rfl | exact Or.inr rfl) (pe_methF0 T.cl_Row FRow_take_some_names (hr.mono (by first | decide | omega)) (pvM 0)))
    (pss_cons (ps_expr (pe_methF T.cl_Row FRow_take_mark (hr.mono (by first | decide | omega)) (pvM 0) (pa_cons pe_str pa_nil)))
    (pss_cons (ps_set (i := 2) nd rfl (by first | exact Or.inl rfl | exact Or.inr rfl) (pe_lstS pa_nil))
    (pss_cons (ps_while PassesOwn.never (pt_not (pt_val (pe_methF0 T.cl_Row FRow_is_done (hr.mono (by first | decide | omega)) (pvM 0)))) (pss_cons (ps_if (pt_cmpR op_gt (pe_callB call_lenL rfl T.b_len PySem.boot_len (pa_cons (pvM 2) pa_nil)) pe_int (nomark _)) (pss_one (ps_expr (pe_methF T.cl_Row FRow_take_mark (hr.mono (by first | decide | omega)) (pvM 0) (pa_cons pe_str pa_nil)))) pss_nil)
    (pss_one (ps_expr (pe_mL PySem.F.slot_list_append PySem.F.type_list_append ml_append (pvM 2) (pa_cons (pe_methF0 T.cl_Row FRow_take_some_numbers (hr.mono (by first | decide | omega)) (pvM 0)) pa_nil))))))
    (pss_one (ps_ret (pe_tupS (pa_cons pe_str (pa_cons (pvM 1) (pa_cons (pe_callTy call_tupLs rfl T.b_tuple (show bootBuiltins "tuple" = some (.type "tuple") by decide +kernel) (pa_cons (pvM 2) pa_nil)) pa_nil)))))))))), ?_⟩
  obtain ⟨us, rs, rfl⟩ := inv_ta hs
  obtain ⟨ou, or⟩ := ok
  have e : ws.drop p = us ++ (so ":" :: lf rs 0) := e
  have o60 := or.1
  (try ctx_has vcx true_and)
  refine rd_names R e ou (by show nmB (so ":") = false; decide) fun a H1 h1 r1 e1 b1 => rd_mark r1 e1 fun H2 r2 e2 b2 => ⟨by decide, fun q H3 hq s3 h3 => ?_⟩
  have k13 : KeepT H1 H3 := (b2.keepT r1).trans (Same.keepT s3)
  have b03 := (b1.trans b2).same s3
  have qx : q ≠ x := by
    obtain ⟨_, a1, _⟩ := r2
    rintro rfl
    rw [a1] at hq; cases hq
  have hq0 : H q = none := by
    cases hh : H q with
    | none => rfl
    | some o => rw [(b1.trans b2) q o qx hh] at hq; cases hq
  refine while_rd (fun m σ H' => ∃ (i pi : Nat) (xs : List V), σ = [some (.ref x), some (.ref a), some (.ref q)] ∧ i ≤ rs.length ∧ m = rs.length - i ∧ H' q = some (.lst xs) ∧ TVs H' xs ((rs.take i).map tI) ∧ Rw mg H' x l ws pi ∧ ws.drop pi = lf rs i ∧ BX x H H' ∧ KeepT H1 H')
    (fun σ H' => ∃ (pi : Nat) (xs : List V), σ = [some (.ref x), some (.ref a), some (.ref q)] ∧ H' q = some (.lst xs) ∧ TVs H' xs (rs.map tI) ∧ Rw mg H' x l ws pi ∧ ws.drop pi = [] ∧ BX x H H' ∧ KeepT H1 H')
    ⟨_, 0, _, _, rfl, Nat.zero_le _, rfl, h3, rfl, r2.same s3, e2, b03, k13⟩ ?_ ?_
  · rintro Rr hR m σ H4 ⟨i, pi, xs, rfl, hi2, rfl, h4, t4, r4, e4, b4, k4⟩
    have hxl : xs.length = i := by rw [t4.len]; simp; omega
    (try ctx_has vcx true_and)
    refine rd_done r4 ?_
    by_cases hlt : i < rs.length
    · obtain ⟨r, hr1⟩ : ∃ r, rs[i]? = some r := ⟨rs[i], by simp [hlt]⟩
      obtain ⟨q1, q2, q3⟩ := or.2 r (List.mem_of_getElem? hr1)
      have e5 := e4.trans (lf_next hr1 q1)
      have hh : numB ((lf rs (i + 1)).headD (so "")) = none := by have := sq_hd (rs := rs) (i := i) (tl := []) numB_e; rwa [List.append_nil] at this
      have hne : ¬ ws.drop pi = [] := by
        intro z
        rw [e5] at z
        have z3 := congrArg List.length (List.append_eq_nil_iff.mp (List.append_eq_nil_iff.mp z).2).1
        rw [show (nw r).length = r.length by simp [nw], List.length_nil] at z3
        omega
      refine ⟨_, rfl, ?_⟩
      rw [if_pos (decide_eq_false hne)]
      refine ⟨fun σ' H' => ∃ (pi' : Nat) (xs' : List V), σ' = [some (.ref x), some (.ref a), some (.ref q)] ∧ H' q = some (.lst xs') ∧ TVs H' xs' ((rs.take (i + 1)).map tI) ∧ Rw mg H' x l ws pi' ∧ ws.drop pi' = lf rs (i + 1) ∧ BX x H H' ∧ KeepT H1 H', ?_, xs, h4, ?_⟩
      · rintro σ' H' ⟨pi', xs', rfl, g1, g2, g3, g4, g5, g6⟩
        exact ⟨_, by omega, rfl, i + 1, hlt, rfl, pi', xs', g1, g2, g3, g4, g5, g6⟩
      have fin : ∀ (H5 H6 : Hp) (pi5 : Nat) (a5 : Addr), Rw mg H5 x l ws pi5 → BX x H4 H5 → H6 a5 = some (.tup (r.map V.int)) → Rw mg H6 x l ws (pi5 + r.length) → ws.drop (pi5 + r.length) = lf rs (i + 1) → BX x H5 H6 →
          ∃ (pi' : Nat) (xs' : List V), [some (V.ref x), some (V.ref a), some (V.ref q)] = [some (V.ref x), some (V.ref a), some (V.ref q)] ∧ upd H6 q (.lst (xs ++ [.ref a5])) q = some (.lst xs') ∧ TVs (upd H6 q (.lst (xs ++ [.ref a5]))) xs' ((rs.take (i + 1)).map tI) ∧ Rw mg (upd H6 q (.lst (xs ++ [.ref a5]))) x l ws pi' ∧ ws.drop pi' = lf rs (i + 1) ∧ BX x H (upd H6 q (.lst (xs ++ [.ref a5]))) ∧ KeepT H1 (upd H6 q (.lst (xs ++ [.ref a5]))) := by
        intro H5 H6 pi5 a5 r5 b5 h6 r6 e6 b6
        have hq6 := b6 _ _ qx (b5 _ _ qx h4)
        have kk : KeepT H4 (upd H6 q (.lst (xs ++ [.ref a5]))) := ((b5.keepT r4).trans (b6.keepT r5)).trans (keepT_put hq6)
        have ta : TV (upd H6 q (.lst (xs ++ [.ref a5]))) (.ref a5) (tI r) := tv_I (by rw [upd_ne (ne_of h6 hq6 (by intro z; cases z))]; exact h6)
        refine ⟨_, _, rfl, upd_same, ?_, R.put r6 hq0, e6, ((b4.trans b5).trans b6).put hq0, k4.trans kk⟩
        rw [List.take_add_one, hr1, Option.toList_some, List.map_append]
        exact (TVs.keep kk _ t4).app (TVs.one ta)
      by_cases hz : i = 0
      · rw [if_pos hz, List.nil_append] at e5
        rw [if_neg (by omega)]
        exact ⟨⟨_, h4⟩, rd_nums1 r4 e5 ⟨by omega, q3⟩ q1 hh fun a5 H6 h6 r6 e6 b6 => ⟨xs, b6 _ _ qx h4, small1000 (by omega), fin H4 H6 pi a5 r4 BX.refl h6 r6 e6 b6⟩⟩
      · rw [if_neg hz, List.singleton_append] at e5
        rw [if_pos (by omega)]
        exact rd_mark r4 e5 fun H5 r5 e6 b5 => ⟨⟨_, b5 _ _ qx h4⟩, rd_nums1 r5 e6 ⟨by omega, q3⟩ q1 hh fun a5 H6 h6 r6 e7 b6 => ⟨xs, b6 _ _ qx (b5 _ _ qx h4), small1000 (by omega), fin H5 H6 _ a5 r5 b5 h6 r6 e7 b6⟩⟩
    · have hi3 : i = rs.length := by omega
      subst hi3
      rw [lf_end] at e4
      rw [List.take_length] at t4
      refine ⟨_, rfl, ?_⟩
      rw [if_neg (by rw [e4]; decide)]
      exact hR _ _ ⟨pi, xs, rfl, h4, t4, r4, e4, b4, k4⟩
  · rintro σ H4 ⟨pi, xs, rfl, h4, t4, r4, e4, b4, k4⟩
    (try ctx_has vcx true_and)
    exact ⟨xs, h4, fun a2 H5 s5 h5 => ⟨by decide, fun u H6 _ s6 h6 => k _ H6 ⟨u, _, rfl, h6, _, _, rfl, ⟨rfl, by decide⟩, _, _, rfl, tv_S (s6 _ _ (s5 _ _ (k4 _ _ h1))) ou.2.2, _, _, rfl, ⟨a2, xs, rfl, s6 _ _ h5, TVs.keep (Same.keepT (s5.trans s6)) _ t4⟩, rfl⟩ (rd_end (r4.same (s5.trans s6)) e4) (b4.same (s5.trans s6))⟩⟩
noncomputable def spStep (mg : Str → Option Value) : Sp := fun vs H Q _ => ∃ (x l : Addr) (ws : List Str) (p : Nat) (r : List Int) (us : List Str), vs = [.ref x] ∧ Rw mg H x l ws p ∧ ws.drop p = nw r ++ us ∧ r.length = 3 ∧ (∀ n ∈ r, okI n) ∧ ∀ a H', H' a = some (.tup (r.map V.int)) → Rw mg H' x l ws (p + r.length) → ws.drop (p + r.length) = us → BX x H H' → Q (.ref a) H'
noncomputable def spHead (mg : Str → Option Value) : Sp := fun vs H Q _ => ∃ (x l : Addr) (ws : List Str) (p : Nat) (c : Str) (ns : List Int) (us : List Str), vs = [.ref x] ∧ Rw mg H x l ws p ∧ ws.drop p = hdW c ns ++ us ∧ nmB c = true ∧ okL ns ∧ ∀ a H', TV H' (.ref a) (.tup [.str c, tI ns]) → Rw mg H' x l ws (p + (hdW c ns).length) → ws.drop (p + (hdW c ns).length) = us → BX x H H' → Q (.ref a) H'
theorem ok_take_step   (T : Txt w K mg base) (L : FnL K mg "take_step" s_take_step ["row"]) (FRow_take_number : FnR P w K mg base (Meth K (clsAt mg "Row") "take_number") 3 ["self"] (spNum mg)) : Fn P w K mg base "take_step" 4 ["row"] (spStep mg) := by
  have nd := sc_take_step.nd
  refine L.ok sc_take_step (fun vs H Q E h => ?_) (fun f cdv A outer s H vs Q E hr h => ?_) <;> obtain ⟨x, l, ws, p, r, us, rfl, R, e, hl3, ok, k⟩ := h
  · rfl
  have hu := hu_of hr
  refine ⟨_, (pss_cons (ps_set (i := 1) nd rfl (by first | exact Or.inl rfl | exact Or.inr rfl) (pe_methF0 T.cl_Row FRow_take_number (hr.mono (by first | decide | omega)) (pvM 0)))
    (pss_cons (ps_set (i := 2) nd rfl (by first | exact Or.inl rfl | exact Or.inr rfl) (pe_methF0 T.cl_Row FRow_take_number (hr.mono (by first | decide | omega)) (pvM 0)))
    (pss_cons (ps_set (i := 3) nd rfl (by first | exact Or.inl rfl | exact Or.inr rfl) (pe_methF0 T.cl_Row FRow_take_number (hr.mono (by first | decide | omega)) (pvM 0)))
    (pss_one (ps_ret (pe_tupS (pa_cons (pvM 1) (pa_cons (pvM 2) (pa_cons (pvM 3) pa_nil))))))))), ?_⟩
  match r, hl3 with
  | [n1, n2, n3], _ =>
    have e : ws.drop p = sI n1 :: sI n2 :: sI n3 :: us := e
    (try ctx_has vcx true_and)
    exact rd_num R e (ok n1 (by simp)) fun H1 r1 e1 b1 => rd_num r1 e1 (ok n2 (by simp)) fun H2 r2 e2 b2 => rd_num r2 e2 (ok n3 (by simp)) fun H3 r3 e3 b3 => ⟨by decide, fun q H4 _ s4 h4 => k q H4 h4 (r3.same s4) e3 (((b1.trans b2).trans b3).same s4)⟩
theorem ok_take_same_head   (T : Txt w K mg base) (L : FnL K mg "take_same_head" s_take_same_head ["row"]) (FRow_take_mark : FnR P w K mg base (Meth K (clsAt mg "Row") "take_mark") 3 ["self", "mark"] (spMark mg)) (FRow_take_name : FnR P w K mg base (Meth K (clsAt mg "Row") "take_name") 3 ["self"] (spName mg)) (FRow_take_numbers : FnR P w K mg base (Meth K (clsAt mg "Row") "take_numbers") 4 ["self"] (spNums mg)) : Fn P w K mg base "take_same_head" 5 ["row"] (spHead mg) := by
  have nd := sc_take_same_head.nd
  refine L.ok sc_take_same_head (fun vs H Q E h => ?_) (fun f cdv A outer s H vs Q E hr h => ?_) <;> obtain ⟨x, l, ws, p, c, ns, us, rfl, R, e, oc, on, k⟩ := h
  · rfl
  have hu := hu_of hr
  refine ⟨_, (pss_cons (ps_expr (pe_methF T.cl_Row FRow_take_mark (hr.mono (by first | decide | omega)) (pvM 0) (pa_cons pe_str pa_nil)))
    (pss_cons (ps_set (i := 1) nd rfl (by first | exact Or.inl rfl | exact Or.inr rfl) (pe_methF0 T.cl_Row FRow_take_name (hr.mono (by first | decide | omega)) (pvM 0)))
    (pss_cons (ps_set (i := 2) nd rfl (by first | exact Or.inl rfl | exact Or.inr rfl) (pe_methF0 T.cl_Row FRow_take_numbers (hr.mono (by first | decide | omega)) (pvM 0)))
    (pss_cons (ps_expr (pe_methF T.cl_Row FRow_take_mark (hr.mono (by first | decide | omega)) (pvM 0) (pa_cons pe_str pa_nil)))
    (pss_one (ps_ret (pe_tupS (pa_cons (pvM 1) (pa_cons (pvM 2) pa_nil))))))))), ?_⟩
  have e : ws.drop p = so "same" :: c :: ((nw ns ++ [so ":"]) ++ us) := e
  rw [List.append_assoc] at e
  (try ctx_has vcx true_and)
  refine rd_mark R e fun H1 r1 e1 b1 => rd_name r1 e1 oc fun H2 r2 e2 b2 => rd_nums r2 e2 on (by show numB (so ":") = none; decide) fun a H3 h3 r3 e3 b3 => rd_mark r3 e3 fun H4 r4 e4 b4 => ⟨by decide, fun q H5 _ s5 h5 => ?_⟩
  have hlen : p + 1 + 1 + ns.length + 1 = p + (hdW c ns).length := by simp [hdW, nw]; omega
  rw [hlen] at r4 e4
  exact k q H5 ⟨q, _, rfl, h5, _, _, rfl, ⟨rfl, (wd_nm oc).2.2.2.2⟩, _, _, rfl, tv_I (s5 _ _ (b4.keepT r3 _ _ h3)), rfl⟩ (r4.same s5) e4 ((((b1.trans b2).trans b3).trans b4).same s5)
theorem ok_take_way   (T : Txt w K mg base) (L : FnL K mg "take_way" s_take_way ["row"]) (FRow_take_some_names : FnR P w K mg base (Meth K (clsAt mg "Row") "take_some_names") 4 ["self"] (spNames1 mg)) (FRow_take_mark : FnR P w K mg base (Meth K (clsAt mg "Row") "take_mark") 3 ["self", "mark"] (spMark mg)) (FRow_peek : FnR P w K mg base (Meth K (clsAt mg "Row") "peek") 2 ["self"] (spPeek mg)) (Ftake_step : Fn P w K mg base "take_step" 4 ["row"] (spStep mg)) (FRow_take_numbers : FnR P w K mg base (Meth K (clsAt mg "Row") "take_numbers") 4 ["self"] (spNums mg)) : Fn P w K mg base "take_way" 6 ["row"] (spTk mg "way") := by
  have nd := sc_take_way.nd
  refine L.ok sc_take_way (fun vs H Q E h => ?_) (fun f cdv A outer s H vs Q E hr h => ?_) <;> obtain ⟨x, l, ws, p, W, rfl, R, hs, ok, e, k⟩ := h
  · rfl
  have hu := hu_of hr
  refine ⟨_, (pss_cons (ps_set (i := 1) nd rfl (by first | exact Or.inl rfl | exact Or.inr rfl) (pe_methF0 T.cl_Row FRow_take_some_names (hr.mono (by first | decide | omega)) (pvM 0)))
    (pss_cons (ps_expr (pe_methF T.cl_Row FRow_take_mark (hr.mono (by first | decide | omega)) (pvM 0) (pa_cons pe_str pa_nil)))
    (pss_cons (ps_set (i := 2) nd rfl (by first | exact Or.inl rfl | exact Or.inr rfl) (pe_lstS pa_nil))
    (pss_cons (ps_while PassesOwn.never (pt_cmpR op_ne (pe_methF0 T.cl_Row FRow_peek (hr.mono (by first | decide | omega)) (pvM 0)) pe_str (nomark _)) (pss_cons (ps_if (pt_cmpR op_gt (pe_callB call_lenL rfl T.b_len PySem.boot_len (pa_cons (pvM 2) pa_nil)) pe_int (nomark _)) (pss_one (ps_expr (pe_methF T.cl_Row FRow_take_mark (hr.mono (by first | decide | omega)) (pvM 0) (pa_cons pe_str pa_nil)))) pss_nil)
    (pss_one (ps_expr (pe_mL PySem.F.slot_list_append PySem.F.type_list_append ml_append (pvM 2) (pa_cons (pe_callF Ftake_step (hr.mono (by first | decide | omega)) rfl (pa_cons (pvM 0) pa_nil)) pa_nil))))))
    (pss_cons (ps_expr (pe_methF T.cl_Row FRow_take_mark (hr.mono (by first | decide | omega)) (pvM 0) (pa_cons pe_str pa_nil)))
    (pss_cons (ps_set (i := 3) nd rfl (by first | exact Or.inl rfl | exact Or.inr rfl) (pe_methF0 T.cl_Row FRow_take_numbers (hr.mono (by first | decide | omega)) (pvM 0)))
    (pss_one (ps_ret (pe_tupS (pa_cons pe_str (pa_cons (pvM 1) (pa_cons (pe_callTy call_tupLs rfl T.b_tuple (show bootBuiltins "tuple" = some (.type "tuple") by decide +kernel) (pa_cons (pvM 2) pa_nil)) (pa_cons (pvM 3) pa_nil))))))))))))), ?_⟩
  obtain ⟨us, rs, es, rfl⟩ := inv_wa hs
  obtain ⟨ou, or, o3, oe⟩ := ok
  have e : ws.drop p = us ++ (so ":" :: (lf rs 0 ++ (so "end" :: nw es))) := e
  have o60 := or.1
  (try ctx_has vcx true_and)
  refine rd_names R e ou (by show nmB (so ":") = false; decide) fun a H1 h1 r1 e1 b1 => rd_mark r1 e1 fun H2 r2 e2 b2 => ⟨by decide, fun q H3 hq s3 h3 => ?_⟩
  have k13 : KeepT H1 H3 := (b2.keepT r1).trans (Same.keepT s3)
  have b03 := (b1.trans b2).same s3
  have qx : q ≠ x := by
    obtain ⟨_, a1, _⟩ := r2
    rintro rfl
    rw [a1] at hq; cases hq
  have hq0 : H q = none := by
    cases hh : H q with
    | none => rfl
    | some o => rw [(b1.trans b2) q o qx hh] at hq; cases hq
  refine while_rd (fun m σ H' => ∃ (i pi : Nat) (xs : List V), σ = [some (.ref x), some (.ref a), some (.ref q), none] ∧ i ≤ rs.length ∧ m = rs.length - i ∧ H' q = some (.lst xs) ∧ TVs H' xs ((rs.take i).map tI) ∧ Rw mg H' x l ws pi ∧ ws.drop pi = lf rs i ++ (so "end" :: nw es) ∧ BX x H H' ∧ KeepT H1 H')
    (fun σ H' => ∃ (pi : Nat) (xs : List V), σ = [some (.ref x), some (.ref a), some (.ref q), none] ∧ H' q = some (.lst xs) ∧ TVs H' xs (rs.map tI) ∧ Rw mg H' x l ws pi ∧ ws.drop pi = so "end" :: nw es ∧ BX x H H' ∧ KeepT H1 H')
    ⟨_, 0, _, _, rfl, Nat.zero_le _, rfl, h3, rfl, r2.same s3, e2, b03, k13⟩ ?_ ?_
  · rintro Rr hR m σ H4 ⟨i, pi, xs, rfl, hi2, rfl, h4, t4, r4, e4, b4, k4⟩
    have hxl : xs.length = i := by rw [t4.len]; simp; omega
    (try ctx_has vcx true_and)
    refine rd_peek r4 e4 ?_
    by_cases hlt : i < rs.length
    · obtain ⟨r, hr1⟩ : ∃ r, rs[i]? = some r := ⟨rs[i], by simp [hlt]⟩
      obtain ⟨q1, q2, q3⟩ := or.2 r (List.mem_of_getElem? hr1)
      have e5 : ws.drop pi = (if i = 0 then [] else [so ";"]) ++ (nw r ++ (lf rs (i + 1) ++ (so "end" :: nw es))) := by rw [e4, lf_next hr1 q1, List.append_assoc, List.append_assoc]
      have hr3 := o3 r (List.mem_of_getElem? hr1)
      have hz0 : ¬ V.str ((ws.drop pi).headD (so "")) = V.str (Str.ofString "end") := fun z => by
        have z := V.str.inj z
        rw [e5] at z
        clear q1 q2 q3 hr1 e5
        match r, hr3 with
        | [n1, n2, n3], _ =>
          by_cases hz : i = 0
          · rw [if_pos hz] at z
            exact sI_ne (c := 101) (by decide) (by decide) (show sI n1 = so "end" from z)
          · rw [if_neg hz] at z
            exact absurd (show so ";" = so "end" from z) (by decide)
      rw [← e4]
      refine ⟨rfl, ?_⟩
      rw [if_pos (decide_eq_false hz0)]
      refine ⟨fun σ' H' => ∃ (pi' : Nat) (xs' : List V), σ' = [some (.ref x), some (.ref a), some (.ref q), none] ∧ H' q = some (.lst xs') ∧ TVs H' xs' ((rs.take (i + 1)).map tI) ∧ Rw mg H' x l ws pi' ∧ ws.drop pi' = lf rs (i + 1) ++ (so "end" :: nw es) ∧ BX x H H' ∧ KeepT H1 H', ?_, xs, h4, ?_⟩
      · rintro σ' H' ⟨pi', xs', rfl, g1, g2, g3, g4, g5, g6⟩
        exact ⟨_, by omega, rfl, i + 1, hlt, rfl, pi', xs', g1, g2, g3, g4, g5, g6⟩
      have fin : ∀ (H5 H6 : Hp) (pi5 : Nat) (a5 : Addr), Rw mg H5 x l ws pi5 → BX x H4 H5 → H6 a5 = some (.tup (r.map V.int)) → Rw mg H6 x l ws (pi5 + r.length) → ws.drop (pi5 + r.length) = lf rs (i + 1) ++ (so "end" :: nw es) → BX x H5 H6 →
          ∃ (pi' : Nat) (xs' : List V), [some (V.ref x), some (V.ref a), some (V.ref q), none] = [some (V.ref x), some (V.ref a), some (V.ref q), none] ∧ upd H6 q (.lst (xs ++ [.ref a5])) q = some (.lst xs') ∧ TVs (upd H6 q (.lst (xs ++ [.ref a5]))) xs' ((rs.take (i + 1)).map tI) ∧ Rw mg (upd H6 q (.lst (xs ++ [.ref a5]))) x l ws pi' ∧ ws.drop pi' = lf rs (i + 1) ++ (so "end" :: nw es) ∧ BX x H (upd H6 q (.lst (xs ++ [.ref a5]))) ∧ KeepT H1 (upd H6 q (.lst (xs ++ [.ref a5]))) := by
        intro H5 H6 pi5 a5 r5 b5 h6 r6 e6 b6
        have hq6 := b6 _ _ qx (b5 _ _ qx h4)
        have kk : KeepT H4 (upd H6 q (.lst (xs ++ [.ref a5]))) := ((b5.keepT r4).trans (b6.keepT r5)).trans (keepT_put hq6)
        have ta : TV (upd H6 q (.lst (xs ++ [.ref a5]))) (.ref a5) (tI r) := tv_I (by rw [upd_ne (ne_of h6 hq6 (by intro z; cases z))]; exact h6)
        refine ⟨_, _, rfl, upd_same, ?_, R.put r6 hq0, e6, ((b4.trans b5).trans b6).put hq0, k4.trans kk⟩
        rw [List.take_add_one, hr1, Option.toList_some, List.map_append]
        exact (TVs.keep kk _ t4).app (TVs.one ta)
      by_cases hz : i = 0
      · rw [if_pos hz, List.nil_append] at e5
        rw [if_neg (by omega)]
        exact ⟨⟨_, h4⟩, x, l, ws, _, r, _, rfl, r4, e5, hr3, q3, fun a5 H6 h6 r6 e6 b6 => ⟨xs, b6 _ _ qx h4, small1000 (by omega), fin H4 H6 pi a5 r4 BX.refl h6 r6 e6 b6⟩⟩
      · rw [if_neg hz, List.singleton_append] at e5
        rw [if_pos (by omega)]
        exact rd_mark r4 e5 fun H5 r5 e6 b5 => ⟨⟨_, b5 _ _ qx h4⟩, x, l, ws, _, r, _, rfl, r5, e6, hr3, q3, fun a5 H6 h6 r6 e7 b6 => ⟨xs, b6 _ _ qx (b5 _ _ qx h4), small1000 (by omega), fin H5 H6 _ a5 r5 b5 h6 r6 e7 b6⟩⟩
    · have hi3 : i = rs.length := by omega
      subst hi3
      rw [lf_end, List.nil_append] at e4
      rw [List.take_length] at t4
      rw [lf_end, List.nil_append]
      refine ⟨rfl, ?_⟩
      rw [if_neg (by simp)]
      exact hR _ _ ⟨pi, xs, rfl, h4, t4, r4, e4, b4, k4⟩
  · rintro σ H4 ⟨pi, xs, rfl, h4, t4, r4, e4, b4, k4⟩
    (try ctx_has vcx true_and)
    refine rd_mark r4 e4 fun H5 r5 e5 b5 => rd_nums (vs := []) r5 (by rw [List.append_nil]; exact e5) oe numB_e fun a5 H6 h6 r6 e6 b6 => ⟨xs, b6 _ _ qx (b5 _ _ qx h4), fun a2 H7 s7 h7 => ⟨by decide, fun u H8 _ s8 h8 => ?_⟩⟩
    have k48 : KeepT H4 H8 := ((b5.keepT r4).trans (b6.keepT r5)).trans (Same.keepT (s7.trans s8))
    exact k _ H8 ⟨u, _, rfl, h8, _, _, rfl, ⟨rfl, by decide⟩, _, _, rfl, tv_S (k48 _ _ (k4 _ _ h1)) ou.2.2, _, _, rfl, ⟨a2, xs, rfl, s8 _ _ h7, TVs.keep k48 _ t4⟩, _, _, rfl, tv_I (s8 _ _ (s7 _ _ h6)), rfl⟩ (rd_end (r6.same (s7.trans s8)) e6) (((b4.trans b5).trans b6).same (s7.trans s8))
noncomputable def spTW (mg : Str → Option Value) : Sp := fun vs H Q _ => ∃ (x l : Addr) (q : Wq), vs = [.ref x] ∧ Rw mg H x l (wdQ q) 0 ∧ okQ q ∧ ∀ v H', TV H' v (trQ q) → BX x H H' → Q v H'
theorem wd_hd (W : Wp) : ∃ us, wdW W = sortW W :: us := by cases W <;> exact ⟨_, rfl⟩
theorem six_any {s : Str} (h : s ∈ six) : (six.any fun y => decide (y = s)) = true := List.any_eq_true.mpr ⟨s, h, by simp⟩
theorem ok_take_wish  (TN : TabN w K (clsAt mg "PLAIN_TAKERS") six) (HS : (clsAt mg "PLAIN_TAKERS" == sysModules) = false) (FT_PLAIN_TAKERS : ∀ y ∈ six, FnT P w K mg base (clsAt mg "PLAIN_TAKERS") y 7 ["row"] (spTk mg y)) (T : Txt w K mg base) (L : FnL K mg "take_wish" s_take_wish ["row"]) (FRow_peek : FnR P w K mg base (Meth K (clsAt mg "Row") "peek") 2 ["self"] (spPeek mg)) (FRow_take_word : FnR P w K mg base (Meth K (clsAt mg "Row") "take_word") 2 ["self"] (spWord mg)) (Ftake_same_head : Fn P w K mg base "take_same_head" 5 ["row"] (spHead mg)) (FRow_take_end : FnR P w K mg base (Meth K (clsAt mg "Row") "take_end") 2 ["self"] (spEnd mg)) : Fn P w K mg base "take_wish" 9 ["row"] (spTW mg) := by
  have nd := sc_take_wish.nd
  refine L.ok sc_take_wish (fun vs H Q E h => ?_) (fun f cdv A outer s H vs Q E hr h => ?_) <;> obtain ⟨x, l, q, rfl, R, ok, k⟩ := h
  · rfl
  have hu := hu_of hr
  refine ⟨_, (pss_cons (ps_set (i := 1) nd rfl (by first | exact Or.inl rfl | exact Or.inr rfl) (pe_lstS pa_nil))
    (pss_cons (ps_while PassesOwn.never (pt_cmpR op_eq (pe_methF0 T.cl_Row FRow_peek (hr.mono (by first | decide | omega)) (pvM 0)) pe_str (nomark _)) (pss_one (ps_expr (pe_mL PySem.F.slot_list_append PySem.F.type_list_append ml_append (pvM 1) (pa_cons (pe_callF Ftake_same_head (hr.mono (by first | decide | omega)) rfl (pa_cons (pvM 0) pa_nil)) pa_nil)))))
    (pss_cons (ps_set (i := 2) nd rfl (by first | exact Or.inl rfl | exact Or.inr rfl) (pe_methF0 T.cl_Row FRow_take_word (hr.mono (by first | decide | omega)) (pvM 0)))
    (pss_cons (ps_if (pt_cmpR (op_notInTab TN HS) (pvM 2) (pe_glob (v := .ref (clsAt mg "PLAIN_TAKERS")) rfl T.at_PLAIN_TAKERS rfl) (by with_unfolding_all rfl)) (pss_one ps_never) pss_nil)
    (pss_cons (ps_set (i := 3) nd rfl (by first | exact Or.inl rfl | exact Or.inr rfl) (pe_callT T.tb_PLAIN_TAKERS FT_PLAIN_TAKERS (hr.mono (by first | decide | omega)) rfl T.at_PLAIN_TAKERS (pvM 2) (pa_cons (pvM 0) pa_nil) (fun _ _ => rfl)))
    (pss_cons (ps_expr (pe_methF0 T.cl_Row FRow_take_end (hr.mono (by first | decide | omega)) (pvM 0)))
    (pss_cons (ps_for PassesOwn.never rfl (pi_revL (K := K) rfl rfl T.b_reversed (pa_cons (pvM 1) pa_nil)) (pg_name (i := 4) nd rfl (by first | exact Or.inl rfl | exact Or.inr rfl)) (pss_one (ps_set (i := 3) nd rfl (by first | exact Or.inl rfl | exact Or.inr rfl) (pe_tupS (pa_cons pe_str (pa_cons (pe_ix ix_T (pvM 4) pe_int (fun _ _ => rfl)) (pa_cons (pe_ix ix_T (pvM 4) pe_int (fun _ _ => rfl)) (pa_cons (pvM 3) pa_nil))))))))
    (pss_one (ps_ret (pvM 3)))))))))), ?_⟩
  (try ctx_has vcx true_and)
  refine ⟨by decide, fun g H1 hg s1 h1 => ?_⟩
  obtain ⟨dx0, hx0, _⟩ := id R
  have gx : g ≠ x := (ne_of_none hx0 hg).symm
  refine while_rd (fun m σ H' => σ = [some (.ref x), some (.ref g), none, none, none] ∧ BX x H H' ∧ ∃ W, okW W ∧ ((m = 1 ∧ H' g = some (.lst []) ∧ Rw mg H' x l (wdQ q) 0 ∧ ∃ c ns, q = .sa c ns W) ∨ (m = 0 ∧ ∃ pi xs, H' g = some (.lst xs) ∧ Rw mg H' x l (wdQ q) pi ∧ (wdQ q).drop pi = wdW W ∧ ((xs = [] ∧ q = .pl W) ∨ ∃ c ns a, xs = [.ref a] ∧ q = .sa c ns W ∧ TV H' (.ref a) (.tup [.str c, tI ns])))))
    (fun σ H' => σ = [some (.ref x), some (.ref g), none, none, none] ∧ BX x H H' ∧ ∃ W, okW W ∧ ∃ pi xs, H' g = some (.lst xs) ∧ Rw mg H' x l (wdQ q) pi ∧ (wdQ q).drop pi = wdW W ∧ ((xs = [] ∧ q = .pl W) ∨ ∃ c ns a, xs = [.ref a] ∧ q = .sa c ns W ∧ TV H' (.ref a) (.tup [.str c, tI ns]))) ?_ ?_ ?_
  · cases q with
    | pl W => exact ⟨0, rfl, BX.refl.same s1, W, ok, .inr ⟨rfl, 0, [], h1, R.same s1, rfl, .inl ⟨rfl, rfl⟩⟩⟩
    | sa c ns W => exact ⟨1, rfl, BX.refl.same s1, W, ok.2.2, .inl ⟨rfl, h1, R.same s1, c, ns, rfl⟩⟩
  · rintro Rr hR m σ H2 ⟨rfl, b2, W, oW, ⟨rfl, h2, r2, c, ns, rfl⟩ | ⟨rfl, pi, xs, h2, r2, e2, hh⟩⟩
    · (try ctx_has vcx true_and)
      refine rd_peek r2 (vs := wdQ (.sa c ns W)) rfl ?_
      refine ⟨rfl, ?_⟩
      rw [if_pos (by rfl)]
      refine ⟨fun σ' H' => σ' = [some (.ref x), some (.ref g), none, none, none] ∧ BX x H H' ∧ ∃ pi a, H' g = some (.lst [.ref a]) ∧ Rw mg H' x l (wdQ (.sa c ns W)) pi ∧ (wdQ (.sa c ns W)).drop pi = wdW W ∧ TV H' (.ref a) (.tup [.str c, tI ns]), ?_, ⟨_, h2⟩, x, l, _, 0, c, ns, wdW W, rfl, r2, rfl, ok.1, ok.2.1, fun a H3 t3 r3 e3 b3 => ⟨[], b3 _ _ gx h2, by decide, rfl, (b2.trans b3).put hg, _, a, upd_same, R.put r3 hg, e3, TV.keep (keepT_put (b3 _ _ gx h2)) _ t3⟩⟩
      rintro σ' H' ⟨rfl, g1, pi, a, g2, g3, g4, g5⟩
      exact ⟨0, by decide, rfl, g1, W, oW, .inr ⟨rfl, pi, _, g2, g3, g4, ⟨c, ns, a, rfl, rfl, g5⟩⟩⟩
    · (try ctx_has vcx true_and)
      refine rd_peek r2 e2 ?_
      obtain ⟨us, eu⟩ := wd_hd W
      refine ⟨rfl, ?_⟩
      rw [if_neg (by rw [eu]; exact fun z => sort_same W (V.str.inj z))]
      exact hR _ _ ⟨rfl, b2, W, oW, pi, xs, h2, r2, e2, hh⟩
  · rintro σ H2 ⟨rfl, b2, W, oW, pi, xs, h2, r2, e2, hh⟩
    obtain ⟨us, eu⟩ := wd_hd W
    obtain ⟨dx2, hx2, _⟩ := id r2
    rw [eu] at e2
    (try ctx_has vcx true_and hx2 lk_take_word)
    refine ⟨x, l, _, pi, sortW W, rfl, r2, (drop_hd e2).1, fun H3 r3 b3 => ?_⟩
    (try ctx_has vcx true_and tCallT)
    rw [if_neg (by rw [six_any (sort_six W)]; decide)]
    refine ⟨sort_six W, x, l, _, pi + 1, W, rfl, r3, rfl, oW, (drop_hd e2).2.trans (by rw [eu]; rfl), fun v H4 t4 r4 b4 => ?_⟩
    obtain ⟨dx4, hx4, _⟩ := id r4
    have hg4 := b4 _ _ gx (b3 _ _ gx h2)
    refine ⟨dx4, _, hx4, lk_take_end, x, l, _, rfl, r4, xs, hg4, ?_⟩
    rcases hh with ⟨rfl, rfl⟩ | ⟨c, ns, a, rfl, rfl, ta⟩
    · refine for_g wlk_revL (fun i σ H' => σ = [some (.ref x), some (.ref g), some (.str (sortW W)), some v, none] ∧ H' = H4) ⟨rfl, rfl⟩ (fun i σ H' h => by rw [h.2]; exact .of hg4) ?_ ?_
      · intro i y σ H5 hi
        simp at hi
      · rintro σ H5 ⟨rfl, rfl⟩
        (try ctx_has vcx true_and)
        exact k v _ t4 ((b2.trans b3).trans b4)
    · have ta4 := TV.keep ((b3.keepT r2).trans (b4.keepT r3)) _ ta
      obtain ⟨_, ys, hy, ha, _, _, rfl, ⟨rfl, wc⟩, z, _, rfl, tz, ez⟩ := ta4
      cases hy
      cases (show _ = [] from ez)
      refine for_g wlk_revL (fun i σ H' => Same H4 H' ∧ ((i = 0 ∧ σ = [some (.ref x), some (.ref g), some (.str (sortW W)), some v, none]) ∨ (i = 1 ∧ ∃ u v4, σ = [some (.ref x), some (.ref g), some (.str (sortW W)), some u, v4] ∧ TV H' u (trQ (.sa c ns W))))) ⟨Same.refl _, .inl ⟨rfl, rfl⟩⟩ (fun i σ H' h => .of (h.1 _ _ hg4)) ?_ ?_
      · rintro i y σ H5 hi hy ⟨s5, ⟨rfl, rfl⟩ | ⟨rfl, _⟩⟩
        · have hy : y = .ref a := by simpa using hy.symm
          subst hy
          have ha5 := s5 _ _ ha
          (try ctx_has vcx true_and ha5)
          refine ⟨by decide, fun u H6 _ s6 h6 => ⟨s5.trans s6, ⟨u, _, rfl, h6, _, _, rfl, ⟨rfl, by decide⟩, _, _, rfl, ⟨rfl, wc⟩, _, _, rfl, TV.keep (Same.keepT (s5.trans s6)) _ tz, _, _, rfl, TV.keep (Same.keepT (s5.trans s6)) _ t4, rfl⟩⟩⟩
        · simp at hi
      · rintro σ H5 ⟨s5, ⟨h, _⟩ | ⟨_, u, v4, rfl, tu⟩⟩
        · cases h
        · (try ctx_has vcx true_and)
          exact k u H5 tu (((b2.trans b3).trans b4).same s5)
noncomputable def spRead : Sp := fun vs H Q _ => ∃ (tx : Str) (q : Wq), vs = [.str tx] ∧ tx.length ≤ 100000 ∧ 10 ∉ sg tx ∧ okQ q ∧ wrd (sg (Txt.partition tx (so "#")).1) = (wdQ q).map sg ∧ ∀ v H', Same H H' → TV H' v (trQ q) → Q v H'
theorem ok_read_wish   (T : Txt w K mg base) (L : FnL K mg "read_wish" s_read_wish ["text"]) (FRow___init__ : FnR P w K mg base (Mk K (clsAt mg "Row")) 2 ["self", "text", "line"] (spRow mg)) (Ftake_wish : Fn P w K mg base "take_wish" 9 ["row"] (spTW mg)) : Fn P w K mg base "read_wish" 10 ["text"] (spRead) := by
  have nd := sc_read_wish.nd
  refine L.ok sc_read_wish (fun vs H Q E h => ?_) (fun f cdv A outer s H vs Q E hr h => ?_) <;> obtain ⟨tx, q, rfl, ht, h10, ok, hw, k⟩ := h
  · rfl
  have hu := hu_of hr
  refine ⟨_, (pss_cons (ps_if (pt_cmpR op_inS pe_str (pvM 0) (by with_unfolding_all rfl)) (pss_one ps_never) pss_nil)
    (pss_one (ps_ret (pe_callF Ftake_wish (hr.mono (by first | decide | omega)) rfl (pa_cons (pe_makeF FRow___init__ (hr.mono (by first | decide | omega)) rfl T.at_Row (pa_cons (pvM 0) (pa_cons pe_int pa_nil))) pa_nil))))), ?_⟩
  have hn : (!(Builtin.Str.occurrences tx (Str.ofString "\n") 0 tx.length 1).isEmpty) = false := by
    rw [show Str.ofString "\n" = ⟨#[10]⟩ by decide, StrLaws.found_one]
    exact decide_eq_false h10
  obtain ⟨w1, w2⟩ := wd_Q ok
  (try ctx_has vcx true_and)
  rw [if_neg (by intro z; rw [z] at hn; cases hn)]
  intro x dx hx hdx ne
  refine ⟨x, dx, tx, wdQ q, rfl, upd_same, ht, hw, by omega, fun w hm => (w1 w hm).2.2.2.2, fun l H1 r1 b1 => ⟨rfl, x, l, q, rfl, r1, ok, fun v H2 tv b2 => k v H2 (fun b o e => ?_) tv⟩⟩
  have bx : b ≠ x := ne_of_none e hx
  refine b2 _ _ bx (b1 _ _ bx ?_)
  rw [upd_ne bx, upd_ne (ne_of_none e hdx)]
  exact e
noncomputable def GoodN (ws : List Str) : Prop := ws.Nodup ∧ ∀ w ∈ ws, nmB w = true
theorem GoodN.sub {ws us : List Str} (h : GoodN ws) (s : us.Sublist ws) : GoodN us := ⟨h.1.sublist s, fun w hw => h.2 w (s.subset hw)⟩
noncomputable def spWishOf : Sp := fun vs H Q _ => ∃ (d l t : Addr) (cells : List Str), vs = [.ref d, .ref t] ∧ DealAt H d l ∧ H t = some (.tup (cells.map V.str)) ∧ 1 ≤ cells.length ∧ cells.length ≤ 12 ∧ GoodN cells ∧ ∀ (v : V) (W : Wp) (H' : Hp), TV H' v (trW W) → okW W → DealAt H' d l → But d l H H' → Q v H'
noncomputable def spRows : Sp := fun vs H Q _ => ∃ (d l : Addr) (wide many : Int), vs = [.ref d, .int wide, .int many] ∧ DealAt H d l ∧ 0 < wide ∧ wide ≤ 12 ∧ 0 ≤ many ∧ many ≤ 60 ∧ ∀ (v : V) (rs : List (List Int)) (H' : Hp), TV H' v (tR rs) → okR rs → DealAt H' d l → But d l H H' → Q v H'
theorem sb_ok {x : V} {a b : Int} (ha : -10000000000000 ≤ a ∧ a ≤ 10000000000000) (hb : -10000000000000 ≤ b ∧ b ≤ 10000000000000) (h : x ∈ [V.int a, V.non, V.int b]) : ∃ o, x = oV o ∧ okO o := by
  simp only [List.mem_cons, List.not_mem_nil, or_false] at h
  rcases h with rfl | rfl | rfl
  · exact ⟨some a, rfl, fun i e => by cases e; show a.natAbs ≤ _; omega⟩
  · exact ⟨none, rfl, fun i e => by cases e⟩
  · exact ⟨some b, rfl, fun i e => by cases e; show b.natAbs ≤ _; omega⟩
theorem ok__law_big_sum   (T : Txt w K mg base) (L : FnL K mg "_law_big_sum" s__law_big_sum ["_law_deal_here", "_law_some"]) (F_law_draw : Fn P w K mg base "_law_draw" 1 ["_law_deal_here", "_law_many_here"] (spDraw)) (F_law_number : Fn P w K mg base "_law_number" 2 ["_law_deal_here", "_law_most"] (spNumber)) : Fn P w K mg base "_law_big_sum" 3 ["_law_deal_here", "_law_some"] (spWishOf) := by
  have nd := sc__law_big_sum.nd
  refine L.ok sc__law_big_sum (fun vs H Q E h => ?_) (fun f cdv A outer s H vs Q E hr h => ?_) <;> obtain ⟨d, l, t, cells, rfl, D, ht, hl1, hlen, hgn, k⟩ := h
  · rfl
  have hu := hu_of hr
  refine ⟨_, (pss_cons (ps_set (i := 2) nd rfl (by first | exact Or.inl rfl | exact Or.inr rfl) (pe_lst pa_nil))
    (pss_cons (ps_for PassesOwn.never rfl (pi_TK (K := K) rfl (pe_slice sl_Ts (pvM 1) po_none (po_some pe_int))) (pg_name (i := 3) nd rfl (by first | exact Or.inl rfl | exact Or.inr rfl)) (pss_cons (ps_set (i := 4) nd rfl (by first | exact Or.inl rfl | exact Or.inr rfl) (pe_callF F_law_number (hr.mono (by first | decide | omega)) rfl (pa_cons (pvM 0) (pa_cons (pe_op op_pow pe_int pe_int) pa_nil))))
    (pss_one (ps_expr (pe_mL PySem.F.slot_list_append PySem.F.type_list_append ml_append (pvM 2) (pa_cons (pe_tup (pa_cons (pe_op op_add (pvM 4) (pe_callTy call_int1 rfl T.b_int (show bootBuiltins "int" = some (.type "int") by decide +kernel) (pa_cons (pe_cmpR op_eq (pvM 4) pe_int (nomark _)) pa_nil))) (pa_cons (pvM 3) pa_nil))) pa_nil))))))
    (pss_cons (ps_set (i := 5) nd rfl (by first | exact Or.inl rfl | exact Or.inr rfl) (pe_lst (pa_cons (pe_callF F_law_number (hr.mono (by first | decide | omega)) rfl (pa_cons (pvM 0) (pa_cons (pe_op op_pow pe_int pe_int) pa_nil))) (pa_cons pe_non (pa_cons (pe_callF F_law_number (hr.mono (by first | decide | omega)) rfl (pa_cons (pvM 0) (pa_cons (pe_op op_pow pe_int pe_int) pa_nil))) pa_nil)))))
    (pss_one (ps_ret (pe_tup (pa_cons pe_str (pa_cons (pe_callTy call_tupL rfl T.b_tuple (show bootBuiltins "tuple" = some (.type "tuple") by decide +kernel) (pa_cons (pvM 2) pa_nil)) (pa_cons (pe_ix ix_L (pvM 5) (pe_callF F_law_draw (hr.mono (by first | decide | omega)) rfl (pa_cons (pvM 0) (pa_cons pe_int pa_nil))) (fun _ _ => rfl)) (pa_cons (pe_ix ix_L (pvM 5) (pe_op op_add pe_int (pe_callF F_law_draw (hr.mono (by first | decide | omega)) rfl (pa_cons (pvM 0) (pa_cons pe_int pa_nil)))) (fun _ _ => rfl)) pa_nil)))))))))), ?_⟩
  (try ctx_has vcx true_and ht)
  refine ⟨by decide, fun p hp => ?_⟩
  have np := D.ne hp
  have tp : t ≠ p := ne_of_none ht hp
  refine ⟨_, by rw [upd_ne tp]; exact ht, fun q H1 h1 sm1 => ⟨_, h1, ?_⟩⟩
  rw [show ((6 : Int)) = ((6 : Nat) : Int) from rfl, cut_map] at h1
  have D1 := (D.new (o := .lst []) hp).same sm1
  have B1 := ((But.refl H).new (d := d) (l := l) (o := .lst []) hp).same sm1
  have h1p := sm1 _ _ (upd_same (H := H) (a := p) (o := .lst []))
  have hg6 : GoodN (cells.take 6) := hgn.sub (List.take_sublist _ _)
  refine for_g wlk_tup (fun i σ H' => ∃ (ts : List V) (tt : List (Int × Str)) (v3 v4 : Option V), σ = [some (.ref d), some (.ref t), some (.ref p), v3, v4, none] ∧ TVs H' ts (tt.map tmT) ∧ (∀ t ∈ tt, okI t.1 ∧ nmB t.2 = true) ∧ tt.length = i ∧ H' p = some (.lst ts) ∧ H' q = some (.tup ((cells.take 6).map V.str)) ∧ DealAt H' d l ∧ But d l H H')
    ⟨[], [], _, _, rfl, rfl, by simp, rfl, h1p, h1, D1, B1⟩ (fun i σ H' zq41 => by obtain ⟨_, _, _, _, _, _, _, _, _, h, _⟩ := zq41; exact (.of h)) ?_ ?_
  · rintro i x σ H2 hi hx ⟨ts, tt, v3, v4, rfl, hts, hall, htl, h2, h2q, D2, B2⟩
    rw [List.length_map] at hi
    rw [List.getElem?_map] at hx
    (try ctx_has vcx true_and)
    obtain ⟨nm, hnm, rfl⟩ : ∃ nm, (cells.take 6)[i]? = some nm ∧ V.str nm = x := by
      cases e : (cells.take 6)[i]? with
      | none => rw [e] at hx; cases hx
      | some nm => rw [e] at hx; exact ⟨nm, rfl, Option.some.inj hx⟩
    refine ⟨⟨by decide, by decide, by decide⟩, d, l, _, rfl, D2, by decide, by decide, fun a H3 a0 a1 D3 B3 => ?_⟩
    replace a0 : -1000000 ≤ a := a0
    replace a1 : a ≤ 1000000 := a1
    have h3 := B3 p _ np.1 np.2 h2
    have h3q := B3.keepT D2 _ _ h2q
    (try ctx_has vcx true_and h3)
    refine ⟨by decide, fun r hr' => ?_⟩
    have pr : p ≠ r := ne_of_none h3 hr'
    have hb := hg6.2 nm (List.mem_of_getElem? hnm)
    have kp : KeepT H3 (upd (upd H3 r (HO.tup [V.int (a + if a = 0 then 1 else 0), V.str nm])) p (HO.lst (ts ++ [.ref r]))) := (Same.keepT (Same.upd0 hr')).trans (keepT_put (ys := ts) (by rw [upd_ne pr]; exact h3))
    have hml : ts.length = i := by rw [hts.len, List.length_map, htl]
    refine ⟨ts, by rw [upd_ne pr]; exact h3, small1000 (by rw [List.length_take] at hi; omega), ts ++ [.ref r], tt ++ [(a + if a = 0 then 1 else 0, nm)], ?_, fun t ht => ?_, by simp [htl], upd_same, ?_, (D3.new hr').put np.1 np.2, ((B2.trans B3).new hr').put hp⟩
    · rw [List.map_append]
      exact (TVs.keep kp _ (TVs.keep (B3.keepT D2) _ hts)).app (TVs.one ⟨r, _, rfl, by rw [upd_ne pr.symm]; exact upd_same, _, _, rfl, rfl, _, _, rfl, ⟨rfl, (wd_nm hb).2.2.2.2⟩, rfl⟩)
    · rcases List.mem_append.mp ht with z | z
      · exact hall t z
      · rw [List.mem_singleton.mp z]
        exact ⟨by show (a + if a = 0 then 1 else 0).natAbs ≤ _; split <;> omega, hb⟩
    · rw [upd_ne (ne_of h3q h3 (by intro z; cases z)), upd_ne (ne_of_none h3q hr')]
      exact h3q
  · rintro σ H2 ⟨ts, tt, v3, v4, rfl, hts, hall, htl, h2, h2q, D2, B2⟩
    rw [List.length_map] at htl
    (try ctx_has vcx true_and h2)
    refine ⟨⟨by decide, by decide, by decide⟩, d, l, _, rfl, D2, by decide, by decide, fun x H3 x0 x1 D3 B3 => ?_⟩
    replace x0 : -10000000000000 ≤ x := x0
    replace x1 : x ≤ 10000000000000 := x1
    refine ⟨⟨by decide, by decide, by decide⟩, d, l, _, rfl, D3, by decide, by decide, fun y H4 y0 y1 D4 B4 => ?_⟩
    replace y0 : -10000000000000 ≤ y := y0
    replace y1 : y ≤ 10000000000000 := y1
    have h4 := B4 p _ np.1 np.2 (B3 p _ np.1 np.2 h2)
    refine ⟨by decide, fun r hr1 => ⟨ts, by rw [upd_ne (ne_of_none h4 hr1)]; exact h4, fun u hu1 => ?_⟩⟩
    have D5 := (D4.new (o := .lst [V.int x, V.non, V.int y]) hr1).new (o := .tup ts) hu1
    have B5 := (((B2.trans B3).trans B4).new (o := .lst [V.int x, V.non, V.int y]) hr1).new (o := .tup ts) hu1
    have ur : u ≠ r := by rintro rfl; rw [upd_same] at hu1; cases hu1
    have nr := D4.ne hr1
    have nu := (D4.new (o := .lst [V.int x, V.non, V.int y]) hr1).ne hu1
    have k5 : KeepT H2 (upd (upd H4 r (HO.lst [V.int x, V.non, V.int y])) u (HO.tup ts)) := ((B3.keepT D2).trans (B4.keepT D3)).trans (Same.keepT ((Same.upd0 hr1).upd_new hu1))
    refine draw_rd D5 (by decide) (by decide) fun r6 H6 r60 r61 D6 B6 => ?_
    have h6 := B6 r _ nr.1 nr.2 (by rw [upd_ne ur.symm]; exact upd_same)
    obtain ⟨v, ha, hv⟩ := atI_mem (xs := [V.int x, V.non, V.int y]) (i := r6) r60 (by simp; omega)
    refine ⟨_, rfl, _, h6, _, ha, ?_⟩
    refine draw_rd D6 (by decide) (by decide) fun r7 H7 r70 r71 D7 B7 => ?_
    have h7 := B7 r _ nr.1 nr.2 h6
    obtain ⟨v2, ha2, hv2⟩ := atI_mem (xs := [V.int x, V.non, V.int y]) (i := 1 + r7) (by omega) (by simp; omega)
    refine ⟨_, rfl, _, h7, _, ha2, by decide, fun g hg => ?_⟩
    have k7 : KeepT H2 (upd H7 g (HO.tup [V.str (Str.ofString "sum"), V.ref u, v, v2])) := ((k5.trans (B6.keepT D5)).trans (B7.keepT D6)).trans (Same.keepT (Same.upd0 hg))
    have h7u := B7.keepT D6 _ _ (B6.keepT D5 _ _ (upd_same (H := upd H4 r (HO.lst [V.int x, V.non, V.int y])) (a := u) (o := .tup ts)))
    obtain ⟨b1, rfl, sb1⟩ := sb_ok ⟨x0, x1⟩ ⟨y0, y1⟩ hv
    obtain ⟨b2, rfl, sb2⟩ := sb_ok ⟨x0, x1⟩ ⟨y0, y1⟩ hv2
    rw [List.length_take] at htl
    exact k _ (.su tt b1 b2) _ ⟨g, _, rfl, upd_same, _, _, rfl, ⟨rfl, by decide⟩, _, _, rfl, ⟨u, ts, rfl, by rw [upd_ne (ne_of_none h7u hg)]; exact h7u, TVs.keep k7 _ hts⟩, _, _, rfl, tv_O b1, _, _, rfl, tv_O b2, rfl⟩ ⟨by omega, by omega, hall, sb1, sb2⟩ (D7.new hg) (((B5.trans B6).trans B7).new hg)
theorem ok__law_big_rows   (T : Txt w K mg base) (L : FnL K mg "_law_big_rows" s__law_big_rows ["_law_deal_here", "_law_wide", "_law_many_here"]) (F_law_draw : Fn P w K mg base "_law_draw" 1 ["_law_deal_here", "_law_many_here"] (spDraw)) (F_law_number : Fn P w K mg base "_law_number" 2 ["_law_deal_here", "_law_most"] (spNumber)) (F_law_numbers : Fn P w K mg base "_law_numbers" 3 ["_law_deal_here", "_law_many_here"] (spNumbers)) : Fn P w K mg base "_law_big_rows" 4 ["_law_deal_here", "_law_wide", "_law_many_here"] (spRows) := by
  have nd := sc__law_big_rows.nd
  refine L.ok sc__law_big_rows (fun vs H Q E h => ?_) (fun f cdv A outer s H vs Q E hr h => ?_) <;> obtain ⟨d, l, wide, many, rfl, D, w0, w1, m0, m1, k⟩ := h
  · rfl
  have hu := hu_of hr
  refine ⟨_, (pss_cons (ps_set (i := 3) nd rfl (by first | exact Or.inl rfl | exact Or.inr rfl) (pe_callF F_law_numbers (hr.mono (by first | decide | omega)) rfl (pa_cons (pvM 0) (pa_cons (pvM 2) pa_nil))))
    (pss_cons (ps_set (i := 4) nd rfl (by first | exact Or.inl rfl | exact Or.inr rfl) (pe_callF F_law_draw (hr.mono (by first | decide | omega)) rfl (pa_cons (pvM 0) (pa_cons (pvM 1) pa_nil))))
    (pss_cons (ps_set (i := 5) nd rfl (by first | exact Or.inl rfl | exact Or.inr rfl) (pe_lst pa_nil))
    (pss_cons (ps_for PassesOwn.never rfl (pi_TK (K := K) rfl (pvM 3)) (pg_name (i := 6) nd rfl (by first | exact Or.inl rfl | exact Or.inr rfl)) (pss_cons (ps_setC (i := 7) (N := ["_law_k", "_law_deal_here"]) (nt := 1) (js := [0]) nd rfl (by first | exact Or.inl rfl | exact Or.inr rfl) rfl (compOk_of ["_law_deal_here", "_law_wide", "_law_many_here", "_law_first", "_law_place", "_law_rows", "_law_value", "_law_row"] (defScope s__law_big_rows).names rfl rfl rfl (by decide +kernel)) (pi_range1 rfl T.b_range (pa_cons (pvM 1) pa_nil)) (fun _ _ _ _ _ _ => (pg_name (i := 0) (show List.Nodup [("_law_k" : Str), ("_law_deal_here" : Str)] by decide +kernel) rfl (Or.inl rfl))) (tgOk_name (by decide)) (fun _ _ _ _ _ _ => pts_nil) (fun _ _ _ _ _ _ => (pe_callF F_law_number (hr.mono (by first | decide | omega)) rfl (pa_cons (pvM 1) (pa_cons (pe_op op_pow pe_int pe_int) pa_nil)))))
    (pss_cons (ps_asg (pvM 6) (pg_sub (pvM 7) (pvM 4) set_L))
    (pss_one (ps_expr (pe_mL PySem.F.slot_list_append PySem.F.type_list_append ml_append (pvM 5) (pa_cons (pe_callTy call_tupL rfl T.b_tuple (show bootBuiltins "tuple" = some (.type "tuple") by decide +kernel) (pa_cons (pvM 7) pa_nil)) pa_nil)))))))
    (pss_one (ps_ret (pe_callTy call_tupL rfl T.b_tuple (show bootBuiltins "tuple" = some (.type "tuple") by decide +kernel) (pa_cons (pvM 5) pa_nil)))))))), ?_⟩
  (try ctx_has vcx true_and)
  refine ⟨d, l, _, rfl, D, m0, m1, fun q ns H1 _ hns hnd hrg h1 D1 B1 => ?_⟩
  refine draw_rd D1 w0 (by omega) fun r H2 r0 r1 D2 B2 => ?_
  refine ⟨by decide, fun p hp => ?_⟩
  have h2q := B2.keepT D1 _ _ h1
  have np := D2.ne hp
  refine ⟨q, rfl, _, by rw [upd_ne (ne_of_none h2q hp)]; exact h2q, ?_⟩
  have fr : H p = none := (B1.trans B2).free D2 hp
  refine for_g wlk_tup (fun i σ H' => ∃ (ts : List V) (rs : List (List Int)) (v6 v7 : Option V), σ = [some (.ref d), some (.int wide), some (.int many), some (.ref q), some (.int r), some (.ref p), v6, v7] ∧ TVs H' ts (rs.map fun x => .tup (x.map Tr.int)) ∧ (∀ x ∈ rs, (x.length : Int) = wide ∧ ∀ y ∈ x, -1000000 ≤ y ∧ y ≤ 1000000) ∧ rs.map (fun x => x.getD r.toNat 0) = ns.take i ∧ H' p = some (.lst ts) ∧ H' q = some (.tup (ns.map V.int)) ∧ DealAt H' d l ∧ But d l H H')
    ⟨[], [], _, _, rfl, rfl, by simp, by simp, upd_same, by rw [upd_ne (ne_of_none h2q hp)]; exact h2q, D2.new hp, (B1.trans B2).new hp⟩ (fun i σ H' zq42 => by obtain ⟨_, _, _, _, _, _, _, _, _, h, _⟩ := zq42; exact (.of h)) ?_ ?_
  · rintro i x σ H3 hi hx ⟨ts, rs, v6, v7, rfl, hts, hrs, hcol, h3, h3q, D3, B3⟩
    rw [List.length_map] at hi
    rw [List.getElem?_map] at hx
    obtain ⟨nv, hnv, rfl⟩ : ∃ nv, ns[i]? = some nv ∧ V.int nv = x := by
      cases e : ns[i]? with
      | none => rw [e] at hx; cases hx
      | some nm => rw [e] at hx; exact ⟨nm, rfl, Option.some.inj hx⟩
    have hl : ts.length = i := by
      rw [hts.len, List.length_map]
      have := congrArg List.length hcol
      simp only [List.length_map, List.length_take] at this
      omega
    (try ctx_has vcx true_and)
    refine ⟨by omega, by omega, fun g hg => ?_⟩
    have ng := D3.ne hg
    have pg : p ≠ g := ne_of_none h3 hg
    have fg : H g = none := B3.free D3 hg
    refine comp_g wlk_range (fun j ys H4 => ∃ zs : List Int, ys = zs.map V.int ∧ zs.length = j ∧ (∀ y ∈ zs, -1000000 ≤ y ∧ y ≤ 1000000) ∧ H4 g = some (.lst ys) ∧ H4 p = some (.lst ts) ∧ KeepT H3 H4 ∧ DealAt H4 d l ∧ But d l H H4)
      ⟨[], rfl, rfl, by simp, upd_same, by rw [upd_ne pg]; exact h3, Same.keepT (Same.upd0 hg), D3.new hg, B3.new hg⟩ (fun _ _ _ _ => True.intro) ?_ ?_
    · rintro j y ys H4 hj hy ⟨zs, rfl, hyl, hzr, h4, h4p, k4, D4, B4⟩
      rw [rngV_length] at hj
      (try ctx_has vcx true_and)
      refine ⟨⟨by decide, by decide, by decide⟩, d, l, _, rfl, D4, by decide, by decide, fun a H5 a0 a1 D5 B5 => ?_⟩
      replace a0 : -1000000 ≤ a := a0
      replace a1 : a ≤ 1000000 := a1
      have h5 := B5 g _ ng.1 ng.2 h4
      refine ⟨h5, by rw [List.length_map]; exact small1000 (by omega), zs ++ [a], by simp, by simp; omega, fun y hy => ?_, upd_same, by rw [upd_ne pg]; exact B5 p _ np.1 np.2 h4p, (k4.trans (B5.keepT D4)).trans (keepT_put h5), D5.put ng.1 ng.2, (B4.trans B5).put fg⟩
      rcases List.mem_append.mp hy with z | z
      · exact hzr y z
      · rw [List.mem_singleton.mp z]; exact ⟨a0, a1⟩
    · rintro ys H4 ⟨zs, rfl, hyl, hzr, h4, h4p, k4, D4, B4⟩
      rw [rngV_length] at hyl
      (try ctx_has vcx true_and h4 h4p)
      refine ⟨r0, by rw [List.length_map]; omega, by simp [upd_ne pg, h4p], ?_⟩
      refine ⟨_, upd_same, fun u hu1 => ?_⟩
      have gu : g ≠ u := by rintro rfl; rw [upd_same] at hu1; cases hu1
      have hu4 : H4 u = none := by rwa [upd_ne gu.symm] at hu1
      have pu : p ≠ u := ne_of_none h4p hu4
      have eset : (zs.map V.int).set r.toNat (V.int nv) = (zs.set r.toNat nv).map V.int := by rw [List.map_set]
      rw [eset] at hu1 ⊢
      have kk : KeepT H4 (upd (upd (upd H4 g (.lst ((zs.set r.toNat nv).map V.int))) u (.tup ((zs.set r.toNat nv).map V.int))) p (.lst (ts ++ [.ref u]))) := fun b vs e => by
        rw [upd_ne (ne_of e h4p (by intro z; cases z)), upd_ne (ne_of_none e hu4), upd_ne (ne_of e h4 (by intro z; cases z))]; exact e
      refine ⟨ts, by rw [upd_ne pu, upd_ne pg]; exact h4p, small1000 (by omega), ts ++ [.ref u], rs ++ [zs.set r.toNat nv], ?_, fun x hx => ?_, ?_, upd_same, kk _ _ (k4 _ _ h3q), ?_, ?_⟩
      · rw [List.map_append]
        exact (TVs.keep kk _ (TVs.keep k4 _ hts)).app (TVs.one (tv_I (by rw [upd_ne pu.symm]; exact upd_same)))
      · rcases List.mem_append.mp hx with z | z
        · exact hrs x z
        · rw [List.mem_singleton.mp z]
          refine ⟨by rw [List.length_set]; omega, fun y hy => ?_⟩
          rcases List.mem_or_eq_of_mem_set hy with z | z
          · exact hzr y z
          · rw [z]; exact hrg nv (List.mem_of_getElem? hnv)
      · rw [List.map_append, hcol, List.take_add_one, hnv, List.map_cons, List.map_nil]
        have hlt : r.toNat < zs.length := by omega
        simp [List.getD_eq_getElem?_getD, hlt]
      · exact (((D4.put ng.1 ng.2).new hu1)).put np.1 np.2
      · exact ((B4.put fg).new hu1).put fr
  · rintro σ H3 ⟨ts, rs, v6, v7, rfl, hts, hrs, hcol, h3, h3q, D3, B3⟩
    rw [List.length_map, List.take_length] at hcol
    (try ctx_has vcx true_and h3)
    intro u hu1
    have hlr : rs.length = ns.length := by have := congrArg List.length hcol; simpa using this
    exact k _ rs _ ⟨u, ts, rfl, upd_same, TVs.keep (Same.keepT (Same.upd0 hu1)) _ hts⟩ ⟨by omega, fun r hr => ⟨by have := (hrs r hr).1; omega, by have := (hrs r hr).1; omega, fun n hn => by have := (hrs r hr).2 n hn; show n.natAbs ≤ _; omega⟩⟩ (D3.new hu1) (B3.new hu1)
noncomputable def stpT (x : Int × Int × Int) : Tr := .tup [.int x.1, .int x.2.1, .int x.2.2]
noncomputable def okS (x : Int × Int × Int) : Prop := okI x.1 ∧ okI x.2.1 ∧ okI x.2.2
noncomputable def enW (k : Nat) : Int := ((k : Int) * 8) % 21
noncomputable def rowS (x : Int × Int × Int) : List Int := [x.1, x.2.1, x.2.2]
theorem okR_steps {sts : List (Int × Int × Int)} (hl : sts.length ≤ 60) (h : ∀ x ∈ sts, okS x) : okR (sts.map rowS) ∧ ∀ r ∈ sts.map rowS, r.length = 3 := by
  refine ⟨⟨by simpa using hl, fun r hr => ?_⟩, fun r hr => ?_⟩
  · obtain ⟨x, hx, rfl⟩ := List.mem_map.mp hr
    obtain ⟨a, b, c⟩ := h x hx
    refine ⟨by simp [rowS], by simp [rowS], fun n hn => ?_⟩
    simp only [rowS, List.mem_cons, List.not_mem_nil, or_false] at hn
    rcases hn with rfl | rfl | rfl
    · exact a
    · exact b
    · exact c
  · obtain ⟨x, hx, rfl⟩ := List.mem_map.mp hr
    rfl
theorem ok__law_big_way   (T : Txt w K mg base) (L : FnL K mg "_law_big_way" s__law_big_way ["_law_deal_here", "_law_some"]) (F_law_draw : Fn P w K mg base "_law_draw" 1 ["_law_deal_here", "_law_many_here"] (spDraw)) (F_law_numbers : Fn P w K mg base "_law_numbers" 3 ["_law_deal_here", "_law_many_here"] (spNumbers)) (F_law_many : Fn P w K mg base "_law_many" 2 ["_law_deal_here", "_law_most"] (spMany)) : Fn P w K mg base "_law_big_way" 4 ["_law_deal_here", "_law_some"] (spWishOf) := by
  have nd := sc__law_big_way.nd
  refine L.ok sc__law_big_way (fun vs H Q E h => ?_) (fun f cdv A outer s H vs Q E hr h => ?_) <;> obtain ⟨d, l, t, cells, rfl, D, ht, hl1, hlen, hgn, k⟩ := h
  · rfl
  have hu := hu_of hr
  refine ⟨_, (pss_cons (ps_set (i := 2) nd rfl (by first | exact Or.inl rfl | exact Or.inr rfl) (pe_op op_add pe_int (pe_callF F_law_draw (hr.mono (by first | decide | omega)) rfl (pa_cons (pvM 0) (pa_cons pe_int pa_nil)))))
    (pss_cons (ps_set (i := 3) nd rfl (by first | exact Or.inl rfl | exact Or.inr rfl) (pe_callF F_law_numbers (hr.mono (by first | decide | omega)) rfl (pa_cons (pvM 0) (pa_cons pe_int pa_nil))))
    (pss_cons (ps_set (i := 4) nd rfl (by first | exact Or.inl rfl | exact Or.inr rfl) (pe_lst pa_nil))
    (pss_cons (ps_for PassesOwn.never rfl (pi_range1 rfl T.b_range (pa_cons (pe_callF F_law_many (hr.mono (by first | decide | omega)) rfl (pa_cons (pvM 0) (pa_cons pe_int pa_nil))) pa_nil)) (pg_name (i := 5) nd rfl (by first | exact Or.inl rfl | exact Or.inr rfl)) (pss_one (ps_expr (pe_mL PySem.F.slot_list_append PySem.F.type_list_append ml_append (pvM 4) (pa_cons (pe_tup (pa_cons (pe_op op_mod (pe_op op_add (pvM 5) (pe_op op_fdivW (pvM 5) (pvM 2))) (pvM 2)) (pa_cons (pe_ix ix_T (pvM 3) (pe_op op_fdivW (pvM 5) (pvM 2)) (fun _ _ => rfl)) (pa_cons (pe_callF F_law_draw (hr.mono (by first | decide | omega)) rfl (pa_cons (pvM 0) (pa_cons pe_int pa_nil))) pa_nil)))) pa_nil)))))
    (pss_cons (ps_set (i := 6) nd rfl (by first | exact Or.inl rfl | exact Or.inr rfl) (pe_lst pa_nil))
    (pss_cons (ps_for PassesOwn.never rfl (pi_range1 rfl T.b_range (pa_cons (pe_callF F_law_many (hr.mono (by first | decide | omega)) rfl (pa_cons (pvM 0) (pa_cons pe_int pa_nil))) pa_nil)) (pg_name (i := 5) nd rfl (by first | exact Or.inl rfl | exact Or.inr rfl)) (pss_one (ps_expr (pe_mL PySem.F.slot_list_insert PySem.F.type_list_insert ml_insert (pvM 6) (pa_cons (pe_callF F_law_draw (hr.mono (by first | decide | omega)) rfl (pa_cons (pvM 0) (pa_cons (pe_op op_add (pe_callB call_lenL rfl T.b_len PySem.boot_len (pa_cons (pvM 6) pa_nil)) pe_int) pa_nil))) (pa_cons (pe_op op_mod (pe_op op_mul (pvM 5) pe_int) pe_int) pa_nil))))))
    (pss_one (ps_ret (pe_tup (pa_cons pe_str (pa_cons (pvM 1) (pa_cons (pe_callTy call_tupL rfl T.b_tuple (show bootBuiltins "tuple" = some (.type "tuple") by decide +kernel) (pa_cons (pvM 4) pa_nil)) (pa_cons (pe_callTy call_tupL rfl T.b_tuple (show bootBuiltins "tuple" = some (.type "tuple") by decide +kernel) (pa_cons (pvM 6) pa_nil)) pa_nil))))))))))))), ?_⟩
  (try ctx_has vcx true_and ht)
  refine draw_rd D (by decide) (by decide) fun r H1 r0 r1 D1 B1 => ?_
  refine ⟨_, rfl, d, l, _, rfl, D1, by decide, by decide, fun q ns H2 _ hns hnd hrg h2 D2 B2 => ?_⟩
  replace hns : ns.length = 60 := hns
  refine ⟨by decide, fun p hp => ?_⟩
  have np := D2.ne hp
  have fp : H p = none := (B1.trans B2).free D2 hp
  refine ⟨d, l, _, rfl, D2.new hp, by decide, by decide, fun j H3 j0 j1 D3 B3 => ?_⟩
  refine ⟨_, rfl, by omega, by omega, ?_⟩
  have h3 := B3 p _ np.1 np.2 upd_same
  have k3 : KeepT H2 H3 := (Same.keepT (Same.upd0 (o := .lst []) hp)).trans (B3.keepT (D2.new hp))
  have h3q := k3 _ _ h2
  have h3t := k3 _ _ (B2.keepT D1 _ _ (B1.keepT D _ _ ht))
  have B30 := ((B1.trans B2).new (o := .lst []) hp).trans B3
  refine for_g wlk_range (fun i σ H' => ∃ (ts : List V) (sts : List (Int × Int × Int)) (v5 : Option V), σ = [some (.ref d), some (.ref t), some (.int (1 + r)), some (.ref q), some (.ref p), v5, none] ∧ TVs H' ts (sts.map stpT) ∧ sts.length = i ∧ (∀ x ∈ sts, okS x) ∧ H' p = some (.lst ts) ∧ KeepT H3 H' ∧ DealAt H' d l ∧ But d l H H')
    ⟨[], [], _, rfl, rfl, rfl, by simp, h3, fun _ _ e => e, D3, B30⟩ (fun _ _ _ _ => True.intro) ?_ ?_
  · rintro i x σ H4 hi hx ⟨ts, sts, v5, rfl, hts, hpr, hst, h4, k4, D4, B4⟩
    rw [rngV_length] at hi
    rw [rngV_get hi] at hx
    obtain rfl := Option.some.inj hx
    have hl : ts.length = i := by
      rw [hts.len, List.length_map, hpr]
    have h4q := k4 _ _ h3q
    (try ctx_has vcx true_and h4 h4q)
    have hdiv : (0 + (i : Int)) / (1 + r) < 60 := by
      have : (0 + (i : Int)) / (1 + r) ≤ 0 + (i : Int) := Int.ediv_le_self _ (by omega)
      omega
    have hdiv0 : 0 ≤ (0 + (i : Int)) / (1 + r) := Int.ediv_nonneg (by omega) (by omega)
    have hlt : ((0 + (i : Int)) / (1 + r)).toNat < ns.length := by omega
    have ha : atI (ns.map V.int) ((0 + (i : Int)) / (1 + r)) = some (V.int (ns.getD ((0 + (i : Int)) / (1 + r)).toNat 0)) := by
      obtain ⟨m, hm⟩ : ∃ m : Nat, (0 + (i : Int)) / (1 + r) = (m : Int) := ⟨_, (Int.toNat_of_nonneg hdiv0).symm⟩
      rw [hm] at hlt ⊢
      rw [Int.toNat_natCast] at hlt ⊢
      exact atI_nat (by simp [List.getD_eq_getElem?_getD, hlt])
    refine ⟨⟨by omega, by omega⟩, by omega, ⟨by omega, by omega⟩, _, ha, ?_⟩
    refine draw_rd D4 (by decide) (by decide) fun r5 H5 r50 r51 D5 B5 => ?_
    have h5 := B5 p _ np.1 np.2 h4
    refine ⟨by decide, fun u hu1 => ?_⟩
    have pu : p ≠ u := ne_of_none h5 hu1
    have kk : KeepT H5 (upd (upd H5 u (.tup [V.int ((0 + (i : Int) + (0 + (i : Int)) / (1 + r)) % (1 + r)), V.int (ns.getD ((0 + (i : Int)) / (1 + r)).toNat 0), V.int r5])) p (.lst (ts ++ [.ref u]))) := (Same.keepT (Same.upd0 hu1)).trans (keepT_put (ys := ts) (by rw [upd_ne pu]; exact h5))
    have m0 := Int.emod_nonneg (0 + (i : Int) + (0 + (i : Int)) / (1 + r)) (show (1 + r) ≠ 0 by omega)
    have m1 := Int.emod_lt_of_pos (0 + (i : Int) + (0 + (i : Int)) / (1 + r)) (show 0 < 1 + r by omega)
    have hmem : ns.getD ((0 + (i : Int)) / (1 + r)).toNat 0 ∈ ns := by
      rw [List.getD_eq_getElem?_getD, List.getElem?_eq_getElem hlt, Option.getD_some]
      exact List.getElem_mem hlt
    refine ⟨ts, by rw [upd_ne pu]; exact h5, small1000 (by omega), ts ++ [.ref u], sts ++ [((0 + (i : Int) + (0 + (i : Int)) / (1 + r)) % (1 + r), ns.getD ((0 + (i : Int)) / (1 + r)).toNat 0, r5)], ?_, ?_, fun x hx => ?_, upd_same, (k4.trans (B5.keepT D4)).trans kk, (D5.new hu1).put np.1 np.2, ((B4.trans B5).new hu1).put fp⟩
    · rw [List.map_append]
      exact (TVs.keep kk _ (TVs.keep (B5.keepT D4) _ hts)).app (TVs.one ⟨u, _, rfl, by rw [upd_ne pu.symm]; exact upd_same, _, _, rfl, rfl, _, _, rfl, rfl, _, _, rfl, rfl, rfl⟩)
    · rw [List.length_append, hpr]; rfl
    · rcases List.mem_append.mp hx with z | z
      · exact hst x z
      · rw [List.mem_singleton.mp z]
        exact ⟨by show Int.natAbs _ ≤ _; omega, by have h9 := hrg _ hmem; exact (show Int.natAbs (ns.getD ((0 + (i : Int)) / (1 + r)).toNat 0) ≤ 10000000000000 by omega), by show r5.natAbs ≤ _; omega⟩
  · rintro σ H4 ⟨ts, sts, v5, rfl, hts, hpr, hst, h4, k4, D4, B4⟩
    rw [rngV_length] at hpr
    (try ctx_has vcx true_and)
    refine ⟨by decide, fun g hg => ?_⟩
    have ng := D4.ne hg
    have fg : H g = none := B4.free D4 hg
    have gp : p ≠ g := ne_of_none h4 hg
    refine ⟨d, l, _, rfl, D4.new hg, by decide, by decide, fun j2 H5 j20 j21 D5 B5 => ?_⟩
    refine ⟨_, rfl, by omega, by omega, ?_⟩
    have k45 : KeepT H4 H5 := (Same.keepT (Same.upd0 (o := .lst []) hg)).trans (B5.keepT (D4.new hg))
    refine for_g wlk_range (fun i σ H' => ∃ (es : List Int) (v5 : Option V), σ = [some (.ref d), some (.ref t), some (.int (1 + r)), some (.ref q), some (.ref p), v5, some (.ref g)] ∧ es.Perm ((List.range i).map enW) ∧ H' p = some (.lst ts) ∧ H' g = some (.lst (es.map V.int)) ∧ KeepT H4 H' ∧ DealAt H' d l ∧ But d l H H')
      ⟨[], _, rfl, by simp, B5 p _ np.1 np.2 (by rw [upd_ne gp]; exact h4), B5 g _ ng.1 ng.2 upd_same, k45, D5, (B4.new hg).trans B5⟩ (fun _ _ _ _ => True.intro) ?_ ?_
    · rintro i x σ H6 hi hx ⟨es, v6, rfl, hpe, h6p, h6, k6, D6, B6⟩
      rw [rngV_length] at hi
      rw [rngV_get hi] at hx
      obtain rfl := Option.some.inj hx
      have hl6 : es.length = i := by have := hpe.length_eq; simpa using this
      (try ctx_has vcx true_and h6)
      refine draw_rd D6 (by rw [List.length_map]; omega) (by rw [List.length_map]; omega) fun r7 H7 r70 r71 D7 B7 => ?_
      rw [List.length_map] at r71
      have h7 := B7 g _ ng.1 ng.2 h6
      (try ctx_has vcx true_and h7)
      refine ⟨cmul_small (by omega) (by omega), by decide, r70, by rw [List.length_map]; omega, by rw [List.length_map]; exact small1000 (by omega), es.take r7.toNat ++ enW i :: es.drop r7.toNat, ?_, by rw [upd_ne gp]; exact B7 p _ np.1 np.2 h6p, ?_, (k6.trans (B7.keepT D6)).trans (keepT_put h7), D7.put ng.1 ng.2, (B6.trans B7).put fg⟩
      · rw [List.range_succ, List.map_append]
        refine List.perm_middle.trans ?_
        rw [List.take_append_drop]
        exact (hpe.cons _).trans (List.perm_append_singleton _ _).symm
      · rw [upd_same, List.map_append, List.map_cons, List.map_take, List.map_drop]
        unfold enW
        rw [Int.zero_add]
    · rintro σ H6 ⟨es, v6, rfl, hpe, h6p, h6, k6, D6, B6⟩
      rw [rngV_length] at hpe
      (try ctx_has vcx true_and h6p)
      intro u hu1
      refine ⟨es.map V.int, by rw [upd_ne (ne_of_none h6 hu1)]; exact h6, fun u2 hu2 => ⟨by decide, fun w hw => ?_⟩⟩
      have sA := Same.upd_new ((Same.upd0 (o := .tup ts) hu1).upd_new (o := .tup (es.map V.int)) hu2) (o := .tup [V.str "way", V.ref t, V.ref u, V.ref u2]) hw
      have kA : KeepT H4 (upd (upd (upd H6 u (.tup ts)) u2 (.tup (es.map V.int))) w (.tup [V.str "way", V.ref t, V.ref u, V.ref u2])) := k6.trans (Same.keepT sA)
      have uu2 : u ≠ u2 := by rintro rfl; rw [upd_same] at hu2; cases hu2
      have uw : u ≠ w := by rintro rfl; rw [upd_ne uu2, upd_same] at hw; cases hw
      have u2w : u2 ≠ w := by rintro rfl; rw [upd_same] at hw; cases hw
      have hel := hpe.length_eq
      rw [List.length_map, List.length_range] at hel
      obtain ⟨q1, q2⟩ := okR_steps (sts := sts) (by omega) hst
      exact k _ (.wa cells (sts.map rowS) es) _ ⟨w, _, rfl, upd_same, _, _, rfl, ⟨rfl, by decide⟩, _, _, rfl, tv_S (kA _ _ (k4 _ _ h3t)) hgn.2, _, _, rfl, ⟨u, ts, rfl, by rw [upd_ne uw, upd_ne uu2]; exact upd_same, by rw [List.map_map]; exact TVs.keep kA _ hts⟩, _, _, rfl, tv_I (by rw [upd_ne u2w]; exact upd_same), rfl⟩ ⟨⟨hl1, hlen, hgn.2⟩, q1, q2, ⟨by omega, fun n hn => by
        obtain ⟨j, _, rfl⟩ := List.mem_map.mp (hpe.mem_iff.mp hn)
        show (enW j).natAbs ≤ _
        unfold enW
        omega⟩⟩ (((D6.new hu1).new hu2).new hw) (((B6.new hu1).new hu2).new hw)
noncomputable def sorts6 : List Str := ["unlike", "many", "sum", "table", "way", "behind"]
noncomputable def spBigP : Sp := fun vs H Q _ => ∃ (d l t : Addr) (cells : List Str) (sort : Str), vs = [.ref d, .ref t, .str sort] ∧ DealAt H d l ∧ H t = some (.lst (cells.map V.str)) ∧ 1 ≤ cells.length ∧ cells.length ≤ 14 ∧ GoodN cells ∧ sort ∈ sorts6 ∧ ∀ (v : V) (W : Wp) (H' : Hp), TV H' v (trW W) → okW W → DealAt H' d l → But d l H H' → Q v H'
noncomputable def spBig : Sp := fun vs H Q _ => ∃ (d l t : Addr) (cells : List Str) (sort : Str), vs = [.ref d, .ref t, .str sort] ∧ DealAt H d l ∧ H t = some (.lst (cells.map V.str)) ∧ 2 ≤ cells.length ∧ cells.length ≤ 14 ∧ GoodN cells ∧ (sort ∈ sorts6 ∨ sort = "same") ∧ ∀ (v : V) (q : Wq) (H' : Hp), TV H' v (trQ q) → okQ q → DealAt H' d l → But d l H H' → Q v H'
theorem abs_ok {a : Int} (h1 : -1000000000 ≤ a) (h2 : a ≤ 1000000000) : okI (if a < 0 then -a else a) := by show Int.natAbs _ ≤ _; split <;> omega
theorem nums_ok {ns : List Int} (h1 : ns.length ≤ 60) (h2 : ∀ x ∈ ns, -1000000 ≤ x ∧ x ≤ 1000000) : okL ns := ⟨h1, fun n hn => by have := h2 n hn; show n.natAbs ≤ _; omega⟩
theorem ok__law_big_wishP   (T : Txt w K mg base) (L : FnL K mg "_law_big_wish" s__law_big_wish ["_law_deal_here", "_law_names_here", "_law_sort"]) (F_law_draw : Fn P w K mg base "_law_draw" 1 ["_law_deal_here", "_law_many_here"] (spDraw)) (F_law_number : Fn P w K mg base "_law_number" 2 ["_law_deal_here", "_law_most"] (spNumber)) (F_law_numbers : Fn P w K mg base "_law_numbers" 3 ["_law_deal_here", "_law_many_here"] (spNumbers)) (F_law_many : Fn P w K mg base "_law_many" 2 ["_law_deal_here", "_law_most"] (spMany)) (F_law_big_sum : Fn P w K mg base "_law_big_sum" 3 ["_law_deal_here", "_law_some"] (spWishOf)) (F_law_big_rows : Fn P w K mg base "_law_big_rows" 4 ["_law_deal_here", "_law_wide", "_law_many_here"] (spRows)) (F_law_big_way : Fn P w K mg base "_law_big_way" 4 ["_law_deal_here", "_law_some"] (spWishOf)) : Fn P w K mg base "_law_big_wish" 5 ["_law_deal_here", "_law_names_here", "_law_sort"] (spBigP) := by
  have nd := sc__law_big_wish.nd
  refine L.ok sc__law_big_wish (fun vs H Q E h => ?_) (fun f cdv A outer s H vs Q E hr h => ?_) <;> obtain ⟨d, l, t, cells, sort, rfl, D, ht, l0, l1, hgn, hs, k⟩ := h
  · rfl
  have hu := hu_of hr
  refine ⟨_, (pss_cons (ps_set (i := 3) nd rfl (by first | exact Or.inl rfl | exact Or.inr rfl) (pe_callTy call_tupL rfl T.b_tuple (show bootBuiltins "tuple" = some (.type "tuple") by decide +kernel) (pa_cons (pe_slice sl_L (pvM 1) po_none (po_some (pe_op op_add pe_int (pe_callF F_law_draw (hr.mono (by first | decide | omega)) rfl (pa_cons (pvM 0) (pa_cons (pe_callB (call_min2 rfl) rfl T.b_min (show bootBuiltins "min" = some (.builtin "min") by decide +kernel) (pa_cons pe_int (pa_cons (pe_callB call_lenL rfl T.b_len PySem.boot_len (pa_cons (pvM 1) pa_nil)) pa_nil))) pa_nil)))))) pa_nil)))
    (pss_cons (ps_if (pt_cmpR op_eq (pvM 2) pe_str (nomark _)) (pss_one (ps_ret (pe_tup (pa_cons pe_str (pa_cons (pvM 3) pa_nil))))) pss_nil)
    (pss_cons (ps_if (pt_cmpR op_eq (pvM 2) pe_str (nomark _)) (pss_cons (ps_set (i := 4) nd rfl (by first | exact Or.inl rfl | exact Or.inr rfl) (pe_callB call_abs rfl T.b_abs (show bootBuiltins "abs" = some (.builtin "abs") by decide +kernel) (pa_cons (pe_callF F_law_number (hr.mono (by first | decide | omega)) rfl (pa_cons (pvM 0) (pa_cons (pe_op op_pow pe_int pe_int) pa_nil))) pa_nil)))
    (pss_one (ps_ret (pe_tup (pa_cons pe_str (pa_cons (pe_callF F_law_numbers (hr.mono (by first | decide | omega)) rfl (pa_cons (pvM 0) (pa_cons (pe_callF F_law_many (hr.mono (by first | decide | omega)) rfl (pa_cons (pvM 0) (pa_cons pe_int pa_nil))) pa_nil))) (pa_cons (pvM 3) (pa_cons (pvM 4) (pa_cons (pe_callB call_abs rfl T.b_abs (show bootBuiltins "abs" = some (.builtin "abs") by decide +kernel) (pa_cons (pe_callF F_law_number (hr.mono (by first | decide | omega)) rfl (pa_cons (pvM 0) (pa_cons (pe_op op_pow pe_int pe_int) pa_nil))) pa_nil)) pa_nil))))))))) pss_nil)
    (pss_cons (ps_if (pt_cmpR op_eq (pvM 2) pe_str (nomark _)) (pss_one (ps_ret (pe_callF F_law_big_sum (hr.mono (by first | decide | omega)) rfl (pa_cons (pvM 0) (pa_cons (pvM 3) pa_nil))))) pss_nil)
    (pss_cons (ps_if (pt_cmpR op_eq (pvM 2) pe_str (nomark _)) (pss_one (ps_ret (pe_tup (pa_cons pe_str (pa_cons (pvM 3) (pa_cons (pe_callF F_law_big_rows (hr.mono (by first | decide | omega)) rfl (pa_cons (pvM 0) (pa_cons (pe_callB call_lenT rfl T.b_len PySem.boot_len (pa_cons (pvM 3) pa_nil)) (pa_cons (pe_callF F_law_many (hr.mono (by first | decide | omega)) rfl (pa_cons (pvM 0) (pa_cons pe_int pa_nil))) pa_nil)))) pa_nil)))))) pss_nil)
    (pss_cons (ps_if (pt_cmpR op_eq (pvM 2) pe_str (nomark _)) (pss_one (ps_ret (pe_callF F_law_big_way (hr.mono (by first | decide | omega)) rfl (pa_cons (pvM 0) (pa_cons (pvM 3) pa_nil))))) pss_nil)
    (pss_cons (ps_if (pt_cmpR op_eq (pvM 2) pe_str (nomark _)) (pss_one (ps_ret (pe_tup (pa_cons pe_str (pa_cons (pvM 3) (pa_cons (pe_callF F_law_number (hr.mono (by first | decide | omega)) rfl (pa_cons (pvM 0) (pa_cons (pe_op op_pow pe_int pe_int) pa_nil))) pa_nil)))))) pss_nil)
    (pss_cons (ps_set (i := 5) nd rfl (by first | exact Or.inl rfl | exact Or.inr rfl) (pe_ix ix_L (pe_lst (pa_cons pe_str (pa_cons pe_str (pa_cons pe_str (pa_cons pe_str (pa_cons pe_str (pa_cons pe_str pa_nil))))))) (pe_callF F_law_draw (hr.mono (by first | decide | omega)) rfl (pa_cons (pvM 0) (pa_cons pe_int pa_nil))) (fun _ _ => rfl)))
    (pss_one ps_never))))))))), ?_⟩
  (try ctx_has vcx true_and ht)
  have fin := k
  have td : t ≠ d := by
    obtain ⟨m, sd, n, xs, hd, hl, _⟩ := D.ex
    exact ne_of ht hd (by intro z; cases z)
  have tl : t ≠ l := by
    rintro rfl
    obtain ⟨m, sd, n, xs, hd, hl, _⟩ := D.ex
    rw [ht] at hl
    cases cells with
    | nil => simp at l0
    | cons a b => cases xs with
      | nil => cases hl
      | cons c e => cases hl
  refine draw_rd D (by rw [List.length_map]; split <;> omega) (by rw [List.length_map]; split <;> omega) fun r H1 r0 r1 D1 B1 => ?_
  have h1t := B1 t _ td tl ht
  rw [List.length_map] at r1
  obtain ⟨n, hn⟩ : ∃ n : Nat, 1 + r = (n : Int) := ⟨(1 + r).toNat, by omega⟩
  refine ⟨_, rfl, _, h1t, ?_⟩
  rw [hn, cut_map]
  have hcl : (cells.take n).length ≤ 12 ∧ 1 ≤ (cells.take n).length := by
    rw [List.length_take]
    split at r1 <;> omega
  have hsub : ∀ c ∈ cells.take n, c ∈ cells := fun c hc => List.mem_of_mem_take hc
  have hgc : GoodN (cells.take n) := hgn.sub (List.take_sublist _ _)
  generalize cells.take n = cs at hcl hsub hgc ⊢
  have hN : okN cs := ⟨hcl.2, hcl.1, hgc.2⟩
  intro p hp
  refine ⟨_, upd_same, fun u hu1 => ?_⟩
  have h3 : upd (upd H1 p (HO.lst (cs.map V.str))) u (HO.tup (cs.map V.str)) u = some (HO.tup (cs.map V.str)) := upd_same
  have D3 := (D1.new (o := HO.lst (cs.map V.str)) hp).new (o := HO.tup (cs.map V.str)) hu1
  have B3 := (B1.new (o := HO.lst (cs.map V.str)) hp).new (o := HO.tup (cs.map V.str)) hu1
  have h3t : upd (upd H1 p (HO.lst (cs.map V.str))) u (HO.tup (cs.map V.str)) t = some (HO.lst (cells.map V.str)) := Same.upd_new (Same.upd0 hp) hu1 _ _ h1t
  generalize upd (upd H1 p (HO.lst (cs.map V.str))) u (HO.tup (cs.map V.str)) = H3 at h3 D3 B3 h3t ⊢
  refine ite2 (fun e1 => ?_) (fun e1 => ?_)
  · exact ⟨by decide, fun w hw => fin _ (.un cs) _ ⟨w, _, rfl, upd_same, _, _, rfl, ⟨rfl, by decide⟩, _, _, rfl, tv_S (by rw [upd_ne (ne_of_none h3 hw)]; exact h3) hgc.2, rfl⟩ hN (D3.new hw) (B3.new hw)⟩
  refine ite2 (fun e2 => ?_) (fun e2 => ?_)
  · refine ⟨⟨by decide, by decide, by decide⟩, d, l, _, rfl, D3, by decide, by decide, fun a H4 a0 a1 D4 B4 => ⟨_, rfl, ?_⟩⟩
    refine ⟨d, l, _, rfl, D4, by decide, by decide, fun b H5 b0 b1 D5 B5 => ?_⟩
    refine ⟨d, l, _, rfl, D5, b0, b1, fun g ns H6 _ hns hnd hrg h6g D6 B6 => ?_⟩
    refine ⟨⟨by decide, by decide, by decide⟩, d, l, _, rfl, D6, by decide, by decide, fun a2 H7 c0 c1 D7 B7 => ⟨_, rfl, by decide, fun w hw => ?_⟩⟩
    have h7 := B7.keepT D6 _ _ (B6.keepT D5 _ _ (B5.keepT D4 _ _ (B4.keepT D3 _ _ h3)))
    have h7g := B7.keepT D6 _ _ h6g
    exact fin _ (.ma ns cs _ _) _ ⟨w, _, rfl, upd_same, _, _, rfl, ⟨rfl, by decide⟩, _, _, rfl, tv_I (by rw [upd_ne (ne_of_none h7g hw)]; exact h7g), _, _, rfl, tv_S (by rw [upd_ne (ne_of_none h7 hw)]; exact h7) hgc.2, _, _, rfl, rfl, _, _, rfl, rfl, rfl⟩ ⟨nums_ok (by omega) hrg, hN, abs_ok a0 a1, abs_ok c0 c1⟩ (D7.new hw) (((((B3.trans B4).trans B5).trans B6).trans B7).new hw)
  refine ite2 (fun e3 => ?_) (fun e3 => ?_)
  · exact ⟨d, l, u, cs, rfl, D3, h3, hcl.2, hcl.1, hgc, fun v W H4 tv4 oW D4 B4 => fin v W H4 tv4 oW D4 (B3.trans B4)⟩
  refine ite2 (fun e4 => ?_) (fun e4 => ?_)
  · refine ⟨_, h3, d, l, _, rfl, D3, by decide, by decide, fun b H5 b0 b1 D5 B5 => ?_⟩
    refine ⟨d, l, _, _, rfl, D5, by rw [List.length_map]; omega, by rw [List.length_map]; omega, b0, b1, fun v rs H6 tv6 hr6 D6 B6 => ⟨by decide, fun w hw => ?_⟩⟩
    have h6 := B6.keepT D5 _ _ (B5.keepT D3 _ _ h3)
    exact fin _ (.ta cs rs) _ ⟨w, _, rfl, upd_same, _, _, rfl, ⟨rfl, by decide⟩, _, _, rfl, tv_S (by rw [upd_ne (ne_of_none h6 hw)]; exact h6) hgc.2, _, _, rfl, TV.keep (Same.keepT (Same.upd0 hw)) _ tv6, rfl⟩ ⟨hN, hr6⟩ (D6.new hw) (((B3.trans B5).trans B6).new hw)
  refine ite2 (fun e5 => ?_) (fun e5 => ?_)
  · exact ⟨d, l, u, cs, rfl, D3, h3, hcl.2, hcl.1, hgc, fun v W H4 tv4 oW D4 B4 => fin v W H4 tv4 oW D4 (B3.trans B4)⟩
  refine ite2 (fun e6 => ?_) (fun e6 => ?_)
  · refine ⟨⟨by decide, by decide, by decide⟩, d, l, _, rfl, D3, by decide, by decide, fun a H4 a0 a1 D4 B4 => ⟨by decide, fun w hw => ?_⟩⟩
    replace a0 : -1000000000 ≤ a := a0
    replace a1 : a ≤ 1000000000 := a1
    have h4 := B4.keepT D3 _ _ h3
    exact fin _ (.be cs a) _ ⟨w, _, rfl, upd_same, _, _, rfl, ⟨rfl, by decide⟩, _, _, rfl, tv_S (by rw [upd_ne (ne_of_none h4 hw)]; exact h4) hgc.2, _, _, rfl, rfl, rfl⟩ ⟨hN, by show a.natAbs ≤ _; omega⟩ (D4.new hw) ((B3.trans B4).new hw)
  exfalso
  simp only [sorts6, List.mem_cons, List.not_mem_nil, or_false] at hs
  rcases hs with h | h | h | h | h | h
  · exact e1 h
  · exact e2 h
  · exact e3 h
  · exact e4 h
  · exact e5 h
  · exact e6 h
theorem ok__law_big_wish   (T : Txt w K mg base) (L : FnL K mg "_law_big_wish" s__law_big_wish ["_law_deal_here", "_law_names_here", "_law_sort"]) (F_law_draw : Fn P w K mg base "_law_draw" 1 ["_law_deal_here", "_law_many_here"] (spDraw)) (F_law_number : Fn P w K mg base "_law_number" 2 ["_law_deal_here", "_law_most"] (spNumber)) (F_law_numbers : Fn P w K mg base "_law_numbers" 3 ["_law_deal_here", "_law_many_here"] (spNumbers)) (F_law_many : Fn P w K mg base "_law_many" 2 ["_law_deal_here", "_law_most"] (spMany)) (F_law_big_sum : Fn P w K mg base "_law_big_sum" 3 ["_law_deal_here", "_law_some"] (spWishOf)) (F_law_big_rows : Fn P w K mg base "_law_big_rows" 4 ["_law_deal_here", "_law_wide", "_law_many_here"] (spRows)) (F_law_big_way : Fn P w K mg base "_law_big_way" 4 ["_law_deal_here", "_law_some"] (spWishOf)) (F_law_big_wish : Fn P w K mg base "_law_big_wish" 5 ["_law_deal_here", "_law_names_here", "_law_sort"] (spBigP)) : Fn P w K mg base "_law_big_wish" 6 ["_law_deal_here", "_law_names_here", "_law_sort"] (spBig) := by
  have nd := sc__law_big_wish.nd
  refine L.ok sc__law_big_wish (fun vs H Q E h => ?_) (fun f cdv A outer s H vs Q E hr h => ?_) <;> obtain ⟨d, l, t, cells, sort, rfl, D, ht, l0, l1, hgn, hs, k⟩ := h
  · rfl
  have hu := hu_of hr
  refine ⟨_, (pss_cons (ps_set (i := 3) nd rfl (by first | exact Or.inl rfl | exact Or.inr rfl) (pe_callTy call_tupL rfl T.b_tuple (show bootBuiltins "tuple" = some (.type "tuple") by decide +kernel) (pa_cons (pe_slice sl_L (pvM 1) po_none (po_some (pe_op op_add pe_int (pe_callF F_law_draw (hr.mono (by first | decide | omega)) rfl (pa_cons (pvM 0) (pa_cons (pe_callB (call_min2 rfl) rfl T.b_min (show bootBuiltins "min" = some (.builtin "min") by decide +kernel) (pa_cons pe_int (pa_cons (pe_callB call_lenL rfl T.b_len PySem.boot_len (pa_cons (pvM 1) pa_nil)) pa_nil))) pa_nil)))))) pa_nil)))
    (pss_cons (ps_if (pt_cmpR op_eq (pvM 2) pe_str (nomark _)) (pss_one (ps_ret (pe_tup (pa_cons pe_str (pa_cons (pvM 3) pa_nil))))) pss_nil)
    (pss_cons (ps_if (pt_cmpR op_eq (pvM 2) pe_str (nomark _)) (pss_cons (ps_set (i := 4) nd rfl (by first | exact Or.inl rfl | exact Or.inr rfl) (pe_callB call_abs rfl T.b_abs (show bootBuiltins "abs" = some (.builtin "abs") by decide +kernel) (pa_cons (pe_callF F_law_number (hr.mono (by first | decide | omega)) rfl (pa_cons (pvM 0) (pa_cons (pe_op op_pow pe_int pe_int) pa_nil))) pa_nil)))
    (pss_one (ps_ret (pe_tup (pa_cons pe_str (pa_cons (pe_callF F_law_numbers (hr.mono (by first | decide | omega)) rfl (pa_cons (pvM 0) (pa_cons (pe_callF F_law_many (hr.mono (by first | decide | omega)) rfl (pa_cons (pvM 0) (pa_cons pe_int pa_nil))) pa_nil))) (pa_cons (pvM 3) (pa_cons (pvM 4) (pa_cons (pe_callB call_abs rfl T.b_abs (show bootBuiltins "abs" = some (.builtin "abs") by decide +kernel) (pa_cons (pe_callF F_law_number (hr.mono (by first | decide | omega)) rfl (pa_cons (pvM 0) (pa_cons (pe_op op_pow pe_int pe_int) pa_nil))) pa_nil)) pa_nil))))))))) pss_nil)
    (pss_cons (ps_if (pt_cmpR op_eq (pvM 2) pe_str (nomark _)) (pss_one (ps_ret (pe_callF F_law_big_sum (hr.mono (by first | decide | omega)) rfl (pa_cons (pvM 0) (pa_cons (pvM 3) pa_nil))))) pss_nil)
    (pss_cons (ps_if (pt_cmpR op_eq (pvM 2) pe_str (nomark _)) (pss_one (ps_ret (pe_tup (pa_cons pe_str (pa_cons (pvM 3) (pa_cons (pe_callF F_law_big_rows (hr.mono (by first | decide | omega)) rfl (pa_cons (pvM 0) (pa_cons (pe_callB call_lenT rfl T.b_len PySem.boot_len (pa_cons (pvM 3) pa_nil)) (pa_cons (pe_callF F_law_many (hr.mono (by first | decide | omega)) rfl (pa_cons (pvM 0) (pa_cons pe_int pa_nil))) pa_nil)))) pa_nil)))))) pss_nil)
    (pss_cons (ps_if (pt_cmpR op_eq (pvM 2) pe_str (nomark _)) (pss_one (ps_ret (pe_callF F_law_big_way (hr.mono (by first | decide | omega)) rfl (pa_cons (pvM 0) (pa_cons (pvM 3) pa_nil))))) pss_nil)
    (pss_cons (ps_if (pt_cmpR op_eq (pvM 2) pe_str (nomark _)) (pss_one (ps_ret (pe_tup (pa_cons pe_str (pa_cons (pvM 3) (pa_cons (pe_callF F_law_number (hr.mono (by first | decide | omega)) rfl (pa_cons (pvM 0) (pa_cons (pe_op op_pow pe_int pe_int) pa_nil))) pa_nil)))))) pss_nil)
    (pss_cons (ps_set (i := 5) nd rfl (by first | exact Or.inl rfl | exact Or.inr rfl) (pe_ix ix_L (pe_lst (pa_cons pe_str (pa_cons pe_str (pa_cons pe_str (pa_cons pe_str (pa_cons pe_str (pa_cons pe_str pa_nil))))))) (pe_callF F_law_draw (hr.mono (by first | decide | omega)) rfl (pa_cons (pvM 0) (pa_cons pe_int pa_nil))) (fun _ _ => rfl)))
    (pss_one (ps_ret (pe_tup (pa_cons pe_str (pa_cons (pe_ix ix_L (pvM 1) (pe_un un_neg pe_int) (fun _ _ => rfl)) (pa_cons (pe_callF F_law_numbers (hr.mono (by first | decide | omega)) rfl (pa_cons (pvM 0) (pa_cons (pe_callF F_law_many (hr.mono (by first | decide | omega)) rfl (pa_cons (pvM 0) (pa_cons pe_int pa_nil))) pa_nil))) (pa_cons (pe_callF F_law_big_wish (hr.mono (by first | decide | omega)) rfl (pa_cons (pvM 0) (pa_cons (pe_slice sl_L (pvM 1) po_none (po_some (pe_un un_neg pe_int))) (pa_cons (pvM 5) pa_nil)))) pa_nil))))))))))))))), ?_⟩
  (try ctx_has vcx true_and ht)
  have fin : ∀ (v : V) (W : Wp) (H' : Hp), TV H' v (trW W) → okW W → DealAt H' d l → But d l H H' → Q v H' := fun v W H' h1 h2 h4 h5 => k v (.pl W) H' h1 h2 h4 h5
  have td : t ≠ d := by
    obtain ⟨m, sd, n, xs, hd, hl, _⟩ := D.ex
    exact ne_of ht hd (by intro z; cases z)
  have tl : t ≠ l := by
    rintro rfl
    obtain ⟨m, sd, n, xs, hd, hl, _⟩ := D.ex
    rw [ht] at hl
    cases cells with
    | nil => simp at l0
    | cons a b => cases xs with
      | nil => cases hl
      | cons c e => cases hl
  refine draw_rd D (by rw [List.length_map]; split <;> omega) (by rw [List.length_map]; split <;> omega) fun r H1 r0 r1 D1 B1 => ?_
  have h1t := B1 t _ td tl ht
  rw [List.length_map] at r1
  obtain ⟨n, hn⟩ : ∃ n : Nat, 1 + r = (n : Int) := ⟨(1 + r).toNat, by omega⟩
  refine ⟨_, rfl, _, h1t, ?_⟩
  rw [hn, cut_map]
  have hcl : (cells.take n).length ≤ 12 ∧ 1 ≤ (cells.take n).length := by
    rw [List.length_take]
    split at r1 <;> omega
  have hsub : ∀ c ∈ cells.take n, c ∈ cells := fun c hc => List.mem_of_mem_take hc
  have hgc : GoodN (cells.take n) := hgn.sub (List.take_sublist _ _)
  generalize cells.take n = cs at hcl hsub hgc ⊢
  have hN : okN cs := ⟨hcl.2, hcl.1, hgc.2⟩
  intro p hp
  refine ⟨_, upd_same, fun u hu1 => ?_⟩
  have h3 : upd (upd H1 p (HO.lst (cs.map V.str))) u (HO.tup (cs.map V.str)) u = some (HO.tup (cs.map V.str)) := upd_same
  have D3 := (D1.new (o := HO.lst (cs.map V.str)) hp).new (o := HO.tup (cs.map V.str)) hu1
  have B3 := (B1.new (o := HO.lst (cs.map V.str)) hp).new (o := HO.tup (cs.map V.str)) hu1
  have h3t : upd (upd H1 p (HO.lst (cs.map V.str))) u (HO.tup (cs.map V.str)) t = some (HO.lst (cells.map V.str)) := Same.upd_new (Same.upd0 hp) hu1 _ _ h1t
  generalize upd (upd H1 p (HO.lst (cs.map V.str))) u (HO.tup (cs.map V.str)) = H3 at h3 D3 B3 h3t ⊢
  refine ite2 (fun e1 => ?_) (fun e1 => ?_)
  · exact ⟨by decide, fun w hw => fin _ (.un cs) _ ⟨w, _, rfl, upd_same, _, _, rfl, ⟨rfl, by decide⟩, _, _, rfl, tv_S (by rw [upd_ne (ne_of_none h3 hw)]; exact h3) hgc.2, rfl⟩ hN (D3.new hw) (B3.new hw)⟩
  refine ite2 (fun e2 => ?_) (fun e2 => ?_)
  · refine ⟨⟨by decide, by decide, by decide⟩, d, l, _, rfl, D3, by decide, by decide, fun a H4 a0 a1 D4 B4 => ⟨_, rfl, ?_⟩⟩
    refine ⟨d, l, _, rfl, D4, by decide, by decide, fun b H5 b0 b1 D5 B5 => ?_⟩
    refine ⟨d, l, _, rfl, D5, b0, b1, fun g ns H6 _ hns hnd hrg h6g D6 B6 => ?_⟩
    refine ⟨⟨by decide, by decide, by decide⟩, d, l, _, rfl, D6, by decide, by decide, fun a2 H7 c0 c1 D7 B7 => ⟨_, rfl, by decide, fun w hw => ?_⟩⟩
    have h7 := B7.keepT D6 _ _ (B6.keepT D5 _ _ (B5.keepT D4 _ _ (B4.keepT D3 _ _ h3)))
    have h7g := B7.keepT D6 _ _ h6g
    exact fin _ (.ma ns cs _ _) _ ⟨w, _, rfl, upd_same, _, _, rfl, ⟨rfl, by decide⟩, _, _, rfl, tv_I (by rw [upd_ne (ne_of_none h7g hw)]; exact h7g), _, _, rfl, tv_S (by rw [upd_ne (ne_of_none h7 hw)]; exact h7) hgc.2, _, _, rfl, rfl, _, _, rfl, rfl, rfl⟩ ⟨nums_ok (by omega) hrg, hN, abs_ok a0 a1, abs_ok c0 c1⟩ (D7.new hw) (((((B3.trans B4).trans B5).trans B6).trans B7).new hw)
  refine ite2 (fun e3 => ?_) (fun e3 => ?_)
  · exact ⟨d, l, u, cs, rfl, D3, h3, hcl.2, hcl.1, hgc, fun v W H4 tv4 oW D4 B4 => fin v W H4 tv4 oW D4 (B3.trans B4)⟩
  refine ite2 (fun e4 => ?_) (fun e4 => ?_)
  · refine ⟨_, h3, d, l, _, rfl, D3, by decide, by decide, fun b H5 b0 b1 D5 B5 => ?_⟩
    refine ⟨d, l, _, _, rfl, D5, by rw [List.length_map]; omega, by rw [List.length_map]; omega, b0, b1, fun v rs H6 tv6 hr6 D6 B6 => ⟨by decide, fun w hw => ?_⟩⟩
    have h6 := B6.keepT D5 _ _ (B5.keepT D3 _ _ h3)
    exact fin _ (.ta cs rs) _ ⟨w, _, rfl, upd_same, _, _, rfl, ⟨rfl, by decide⟩, _, _, rfl, tv_S (by rw [upd_ne (ne_of_none h6 hw)]; exact h6) hgc.2, _, _, rfl, TV.keep (Same.keepT (Same.upd0 hw)) _ tv6, rfl⟩ ⟨hN, hr6⟩ (D6.new hw) (((B3.trans B5).trans B6).new hw)
  refine ite2 (fun e5 => ?_) (fun e5 => ?_)
  · exact ⟨d, l, u, cs, rfl, D3, h3, hcl.2, hcl.1, hgc, fun v W H4 tv4 oW D4 B4 => fin v W H4 tv4 oW D4 (B3.trans B4)⟩
  refine ite2 (fun e6 => ?_) (fun e6 => ?_)
  · refine ⟨⟨by decide, by decide, by decide⟩, d, l, _, rfl, D3, by decide, by decide, fun a H4 a0 a1 D4 B4 => ⟨by decide, fun w hw => ?_⟩⟩
    replace a0 : -1000000000 ≤ a := a0
    replace a1 : a ≤ 1000000000 := a1
    have h4 := B4.keepT D3 _ _ h3
    exact fin _ (.be cs a) _ ⟨w, _, rfl, upd_same, _, _, rfl, ⟨rfl, by decide⟩, _, _, rfl, tv_S (by rw [upd_ne (ne_of_none h4 hw)]; exact h4) hgc.2, _, _, rfl, rfl, rfl⟩ ⟨hN, by show a.natAbs ≤ _; omega⟩ (D4.new hw) ((B3.trans B4).new hw)
  refine ⟨by decide, fun g hg => ?_⟩
  refine draw_of D3 hg (by decide) (by decide) rfl fun r4 v H4 hv ha D4 B4 h4 => ?_
  have h4t := B4 t _ td tl h3t
  obtain ⟨cl0, z, rfl⟩ : ∃ cl0 z, cells = cl0 ++ [z] := by
    rcases List.eq_nil_or_concat cells with h | ⟨a, b, h⟩
    · rw [h] at l0; simp at l0
    · exact ⟨a, b, by rw [h, List.concat_eq_append]⟩
  have hla : atI (List.map V.str (cl0 ++ [z])) (-1) = some (V.str z) := by rw [List.map_append]; exact atI_last _ _
  obtain ⟨sv, rfl, hsv⟩ : ∃ sv, v = V.str sv ∧ sv ∈ sorts6 := by
    obtain ⟨sv, h1, h2⟩ := List.mem_map.mp (show v ∈ sorts6.map V.str from hv)
    exact ⟨sv, h2.symm, h1⟩
  refine ⟨_, rfl, _, h4, _, ha, _, h4t, _, hla, ?_⟩
  refine ⟨d, l, _, rfl, D4, by decide, by decide, fun b H5 b0 b1 D5 B5 => ?_⟩
  refine ⟨d, l, _, rfl, D5, b0, b1, fun f2 ns H6 _ hns hnd hrg h6f D6 B6 => ?_⟩
  have h6t := B6 t _ td tl (B5 t _ td tl h4t)
  refine ⟨_, h6t, fun y hy => ?_⟩
  rw [cut_map_but, List.dropLast_concat]
  have hz : z ∉ cl0 := fun w => by
    have := hgn.1
    rw [List.nodup_append] at this
    exact this.2.2 z w z (by simp) rfl
  refine ⟨d, l, y, cl0, sv, rfl, D6.new hy, upd_same, by simp at l0; omega, by simp at l1; omega, hgn.sub (List.sublist_append_left _ _), hsv, fun v2 W7 H7 tv7 oW7 D7 B7 => ⟨by decide, fun w hw => ?_⟩⟩
  have hnz : nmB z = true := hgn.2 z (by simp)
  have h7f := B7.keepT (D6.new hy) _ _ (Same.keepT (Same.upd0 hy) _ _ h6f)
  exact k _ (.sa z ns W7) _ ⟨w, _, rfl, upd_same, _, _, rfl, ⟨rfl, by decide⟩, _, _, rfl, ⟨rfl, (wd_nm hnz).2.2.2.2⟩, _, _, rfl, tv_I (by rw [upd_ne (ne_of_none h7f hw)]; exact h7f), _, _, rfl, TV.keep (Same.keepT (Same.upd0 hw)) _ tv7, rfl⟩ ⟨hnz, nums_ok (by omega) hrg, oW7⟩ (D7.new hw) (((((((B3.trans B4).trans B5).trans B6).new hy).trans B7)).new hw)
theorem comp_tr {J : It} {xs : List V} {C : Hp → Prop} (w : Wlk J xs C) {te : TE} {σ0 : St} {Q : VK} {H1 : Hp} {D : Addr} {l : List Tr} (f : Tr → V) (hl : TVs H1 xs l) (hD : H1 D = none) (hC : ∀ H', Same H1 H' → C H') (hn : xs.length ≤ 1000)
    (he : ∀ (x : V) (t : Tr) (H2 : Hp) (Q2 : VK), t ∈ l → TV H2 x t → Same H1 H2 → (∀ H3, Same H2 H3 → Q2 (f t) H3) → te (σ0.set 0 (some x)) H2 Q2)
    (hd : ∀ H2, Same H1 H2 → H2 D = some (.lst (l.map f)) → Q (.ref D) H2) : CompG J σ0 (gName 0) tYes te Q H1 D := by
  refine comp_g w (fun i ys H => ys = (l.take i).map f ∧ i ≤ xs.length ∧ Same H1 H ∧ H D = some (.lst ys)) ⟨by simp, Nat.zero_le _, Same.upd0 hD, upd_same⟩ (fun i ys H h => hC _ h.2.2.1) ?_ ?_
  · rintro i x ys H hi hx ⟨rfl, hle, sm, hd⟩
    simp only [gName, tYes, if_true]
    obtain ⟨t, et, tv⟩ := hl.at hx
    refine he x t H _ (List.mem_of_getElem? et) (TV.keep (Same.keepT sm) t tv) sm fun H4 s4 => ⟨s4 _ _ hd, by simp; exact small1000 (by omega), ?_, hi, ?_, upd_same⟩
    · rw [List.take_add_one, et]; simp
    · exact fun b o e => by rw [upd_ne (ne_of_none e hD)]; exact s4 _ _ (sm b o e)
  · rintro ys H ⟨rfl, _, sm, hD2⟩
    refine hd H sm ?_
    rw [hD2, hl.len, List.take_length]
noncomputable def gdT : Nat → Tr → Prop
  | _, .non => True
  | _, .bl _ => False
  | _, .int _ => True
  | _, .str s => PyData.strOk s = true
  | 0, .tup _ => False
  | n + 1, .tup l => l.length ≤ 1000 ∧ ∀ t ∈ l, gdT n t
noncomputable def spNt (n : Nat) : Sp := fun vs H Q _ => ∃ (v : V) (t : Tr), vs = [v] ∧ TV H v t ∧ gdT n t ∧ ∀ H', Same H H' → Q (.bl true) H'
noncomputable def spNtI (n : Nat) : Sp := fun vs H Q E => ∃ m, n = m + 1 ∧ spNt m vs H Q E
mutual
noncomputable def trD : Tr → PyData
  | .non => .none
  | .bl b => .bool b
  | .int i => .int i
  | .str s => .str s
  | .tup l => .tuple (trDs l)
noncomputable def trDs : List Tr → List PyData
  | [] => []
  | t :: l => trD t :: trDs l
end
mutual
theorem rep_tr {K : PySem.W.Frag} {H : Hp} : ∀ (t : Tr) {v : V}, TV H v t → Rep K H v (trD t)
  | .non, _, h => by cases (show _ = _ from h); exact .non
  | .bl b, _, h => by cases (show _ = _ from h); exact .bl b
  | .int i, _, h => by cases (show _ = _ from h); exact .int i
  | .str s, _, h => by cases h.1; exact .str s
  | .tup l, _, h => by
    obtain ⟨a, xs, rfl, ha, hx⟩ := h
    exact .tup (.of ha) (reps_tr l hx)
theorem reps_tr {K : PySem.W.Frag} {H : Hp} : ∀ (l : List Tr) {xs : List V}, TVs H xs l → Reps K H xs (trDs l)
  | [], _, h => by rw [show _ = [] from h]; exact .nil
  | t :: l, _, h => by
    obtain ⟨x, ys, rfl, a, b⟩ := h
    exact .cons (rep_tr t a) (reps_tr l b)
end
theorem lay_tr : ∀ (n : Nat) (t : Tr), gdT n t → (trD t).canLay0 = true ∧ (trD t).depth ≤ n := by
  intro n
  induction n with
  | zero =>
    intro t h
    cases t with
    | non => exact ⟨rfl, Nat.le_refl _⟩
    | bl b => exact h.elim
    | int i => exact ⟨rfl, Nat.le_refl _⟩
    | str s => exact ⟨h, Nat.le_refl _⟩
    | tup l => exact h.elim
  | succ n ih =>
    intro t h
    cases t with
    | non => exact ⟨rfl, Nat.zero_le _⟩
    | bl b => exact h.elim
    | int i => exact ⟨rfl, Nat.zero_le _⟩
    | str s => exact ⟨h, Nat.zero_le _⟩
    | tup l =>
      have key : ∀ l : List Tr, (∀ t ∈ l, gdT n t) → PyData.canLayAll0 (trDs l) = true ∧ PyData.depthAll (trDs l) ≤ n := by
        intro l
        induction l with
        | nil => exact fun _ => ⟨rfl, Nat.zero_le _⟩
        | cons t l il =>
          intro hl
          obtain ⟨a, b⟩ := ih t (hl t (by simp))
          obtain ⟨c, d⟩ := il fun x hx => hl x (by simp [hx])
          exact ⟨by simp only [trDs, PyData.canLayAll0, a, c, Bool.and_self], by simp only [trDs, PyData.depthAll]; exact Nat.max_le.mpr ⟨b, d⟩⟩
      obtain ⟨a, b⟩ := key l h.2
      exact ⟨by simp only [trD, PyData.canLay0, a], by simp only [trD, PyData.depth]; omega⟩
theorem sok_nm {w : Str} (h : nmB w = true) : PyData.strOk w = true := by
  simp only [nmB, Bool.and_eq_true, decide_eq_true_eq] at h
  have h4 := h.2
  show w.cps.all _ = true
  rw [← Array.all_toList]
  refine List.all_eq_true.mpr fun c hc => ?_
  have := List.all_eq_true.mp h4 c hc
  simp only [smallB, Bool.and_eq_true, decide_eq_true_eq] at this
  exact decide_eq_true (by omega)
theorem gd_S {n : Nat} {ws : List Str} (h : okN ws) : gdT (n + 1) (tS ws) := ⟨by rw [List.length_map]; have := h.2.1; omega, fun t ht => by
  obtain ⟨w, hw, rfl⟩ := List.mem_map.mp ht
  cases n <;> exact sok_nm (h.2.2 w hw)⟩
theorem gd_I {n : Nat} {ns : List Int} (h : ns.length ≤ 60) : gdT (n + 1) (tI ns) := ⟨by rw [List.length_map]; omega, fun t ht => by
  obtain ⟨w, hw, rfl⟩ := List.mem_map.mp ht
  cases n <;> trivial⟩
theorem gd_R {n : Nat} {rs : List (List Int)} (h : okR rs) : gdT (n + 2) (tR rs) := ⟨by rw [List.length_map]; have := h.1; omega, fun t ht => by
  obtain ⟨r, hr, rfl⟩ := List.mem_map.mp ht
  exact gd_I (by have := (h.2 r hr).2.1; omega)⟩
theorem gd_O {n : Nat} (o : Option Int) : gdT n (tO o) := by cases o <;> cases n <;> trivial
theorem gd_s {n : Nat} {s : String} (h : PyData.strOk (so s) = true) : gdT n (.str (so s)) := by cases n <;> exact h
theorem gd_i {n : Nat} (i : Int) : gdT n (.int i) := by cases n <;> trivial
theorem gd_l {n : Nat} {l : List Tr} (hl : l.length ≤ 1000) (h : ∀ t ∈ l, gdT n t) : gdT (n + 1) (.tup l) := ⟨hl, h⟩
theorem gd_c {n : Nat} {t : Tr} {l : List Tr} (a : gdT n t) (b : ∀ x ∈ l, gdT n x) : ∀ x ∈ t :: l, gdT n x := fun x hx => by
  rcases List.mem_cons.mp hx with rfl | z
  · exact a
  · exact b x z
theorem gd_n {n : Nat} : ∀ x ∈ ([] : List Tr), gdT n x := fun x hx => by cases hx
theorem gd_W {n : Nat} {W : Wp} (h : okW W) : gdT (n + 3) (trW W) := by
  cases W with
  | un ws => exact gd_l (by simp) (gd_c (gd_s (by decide +kernel)) (gd_c (gd_S h) gd_n))
  | ma ns ws a b => exact gd_l (by simp) (gd_c (gd_s (by decide +kernel)) (gd_c (gd_I h.1.1) (gd_c (gd_S h.2.1) (gd_c (gd_i _) (gd_c (gd_i _) gd_n)))))
  | su ts lo hi =>
    refine gd_l (by simp) (gd_c (gd_s (by decide +kernel)) (gd_c (gd_l (by rw [List.length_map]; have := h.2.1; omega) fun t ht => ?_) (gd_c (gd_O _) (gd_c (gd_O _) gd_n))))
    obtain ⟨x, hx, rfl⟩ := List.mem_map.mp ht
    refine gd_l (by simp) (gd_c (gd_i _) (gd_c ?_ gd_n))
    have := sok_nm (h.2.2.1 x hx).2
    cases n <;> exact this
  | ta ws rs => exact gd_l (by simp) (gd_c (gd_s (by decide +kernel)) (gd_c (gd_S h.1) (gd_c (gd_R h.2) gd_n)))
  | wa ws rs es => exact gd_l (by simp) (gd_c (gd_s (by decide +kernel)) (gd_c (gd_S h.1) (gd_c (gd_R h.2.1) (gd_c (gd_I h.2.2.2.1) gd_n))))
  | be ws g => exact gd_l (by simp) (gd_c (gd_s (by decide +kernel)) (gd_c (gd_S h.1) (gd_c (gd_i _) gd_n)))
theorem gd_Q {q : Wq} (h : okQ q) : gdT 4 (trQ q) := by
  cases q with
  | pl W => exact gd_W h
  | sa c ns W => exact gd_l (by simp) (gd_c (gd_s (by decide +kernel)) (gd_c (sok_nm h.1) (gd_c (gd_I h.2.1.1) (gd_c (gd_W h.2.2) gd_n))))
theorem ok__law_no_truths  {n : Nat} (T : Txt w K mg base) (L : FnL K mg "_law_no_truths" s__law_no_truths ["_law_thing"]) (F_law_no_truths : Fn P w K mg base "_law_no_truths" n ["_law_thing"] (spNtI n)) : Fn P w K mg base "_law_no_truths" (n + 1) ["_law_thing"] (spNt n) := by
  have nd := sc__law_no_truths.nd
  refine L.ok sc__law_no_truths (fun vs H Q E h => ?_) (fun f cdv A outer s H vs Q E hr h => ?_) <;> obtain ⟨v, t, rfl, tv, gd, k⟩ := h
  · rfl
  have hu := hu_of hr
  refine ⟨_, (pss_cons (ps_if (pt_val (pe_callB call_isB rfl T.b_isinstance (show bootBuiltins "isinstance" = some (.builtin "isinstance") by decide +kernel) (pa_cons (pvM 0) (pa_cons (pe_ty (T := "tuple") rfl T.b_tuple (by decide +kernel)) pa_nil)))) (pss_one (ps_ret (pe_callB (call_allL rfl) rfl T.b_all (show bootBuiltins "all" = some (.builtin "all") by decide +kernel) (pa_cons (pe_comp (N := ["_law_one"]) (nt := 1) (js := []) rfl (compOk_of ["_law_thing"] (defScope s__law_no_truths).names rfl rfl rfl (by decide +kernel)) (pi_TK (K := K) rfl (pvM 0)) (fun _ _ _ _ _ _ => (pg_name (i := 0) (show List.Nodup [("_law_one" : Str)] by decide +kernel) rfl (Or.inl rfl))) (tgOk_name (by decide)) (fun _ _ _ _ _ _ => pts_nil) (fun _ _ _ _ _ _ => (pe_callF F_law_no_truths (hr.mono (by first | decide | omega)) rfl (pa_cons (pvM 0) pa_nil)))) pa_nil)))) pss_nil)
    (pss_one (ps_ret (pe_not (pe_callB call_isB rfl T.b_isinstance (show bootBuiltins "isinstance" = some (.builtin "isinstance") by decide +kernel) (pa_cons (pvM 0) (pa_cons (pe_ty (T := "bool") rfl T.b_bool (by decide +kernel)) pa_nil))))))), ?_⟩
  cases t with
  | non => cases (show v = _ from tv); (try ctx_has vcx true_and); exact k _ (Same.refl _)
  | bl b => cases n <;> exact gd.elim
  | int i => cases (show v = _ from tv); (try ctx_has vcx true_and); exact k _ (Same.refl _)
  | str s => obtain ⟨rfl, hs⟩ := tv; (try ctx_has vcx true_and); exact k _ (Same.refl _)
  | tup l =>
    cases n with
    | zero => exact gd.elim
    | succ n =>
      obtain ⟨a, xs, rfl, ha, hl⟩ := tv
      have hlen := hl.len
      have g1 := gd.1
      (try ctx_has vcx true_and ha)
      intro D hD
      refine comp_tr wlk_tup (fun t => V.bl true) hl hD (fun H' s => .of (s _ _ ha)) (by omega) ?_ ?_
      · intro x t H2 Q2 ht tv sm q2
        (try ctx_has vcx true_and)
        exact ⟨n, rfl, x, t, rfl, tv, gd.2 t ht, q2⟩
      · intro H2 sm h2
        (try ctx_has vcx true_and)
        refine ⟨l.map fun _ => true, by rw [h2, List.map_map]; rfl, ?_⟩
        rw [show (l.map fun _ => true).all id = true by simp]
        exact k _ sm
theorem nt_false {x : Str} {k : Nat} {ps : List Str} {st : Stmt} (L : FnL K mg x st ps) : Fn P w K mg base x k ps (spNtI 0) := by
  obtain ⟨f, fd, F, m, b⟩ := L
  exact ⟨f, fd, ⟨fun _ _ _ _ zq43 => by obtain ⟨_, q, _⟩ := zq43; exact ((by cases q)), fun _ _ _ _ _ _ _ _ _ _ _ _ _ zq44 => by obtain ⟨_, q, _⟩ := zq44; exact ((by cases q))⟩, m, F.kp, b⟩
theorem nt_all (T : Txt w K mg base) (L : FnL K mg "_law_no_truths" s__law_no_truths ["_law_thing"]) : ∀ n, Fn P w K mg base "_law_no_truths" (n + 1) ["_law_thing"] (spNt n)
  | 0 => ok__law_no_truths T L (nt_false L)
  | n + 1 => ok__law_no_truths T L (by
    obtain ⟨f, fd, F, m⟩ := nt_all T L n
    exact ⟨f, fd, F.imp fun _ _ _ _ zq45 => by obtain ⟨_, e, q⟩ := zq45; exact (by cases e; exact q), m⟩)
theorem lw_false {x : Str} {k : Nat} {ps : List Str} {st : Stmt} (L : FnL K mg x st ps) : Fn P w K mg base x k ps (spLwI false) := by
  obtain ⟨f, fd, F, m, b⟩ := L
  exact ⟨f, fd, ⟨fun _ _ _ _ q => (by cases q.1), fun _ _ _ _ _ _ _ _ _ _ _ _ _ q => (by cases q.1)⟩, m, F.kp, b⟩
theorem lw_inn {x : Str} {k : Nat} {ps : List Str} (F : Fn P w K mg base x k ps (spLw false)) : Fn P w K mg base x k ps (spLwI true) := by
  obtain ⟨f, fd, F, m⟩ := F
  exact ⟨f, fd, F.imp fun _ _ _ _ q => q.2, m⟩
theorem jn_mem {c : Nat} {sep : List Nat} : ∀ {ws : List (List Nat)}, c ∈ jn sep ws → c ∈ sep ∨ ∃ w ∈ ws, c ∈ w
  | [], h => by cases h
  | [x], h => .inr ⟨x, by simp, h⟩
  | x :: y :: r, h => by
    rcases List.mem_append.mp (show c ∈ x ++ sep ++ jn sep (y :: r) from h) with z | z
    · rcases List.mem_append.mp z with z | z
      · exact .inr ⟨x, by simp, z⟩
      · exact .inl z
    · rcases jn_mem z with z | ⟨w, hw, z⟩
      · exact .inl z
      · exact .inr ⟨w, by simp [List.mem_cons.mp hw], z⟩
theorem jn_len {sep : List Nat} {n : Nat} : ∀ {ws : List (List Nat)}, (∀ w ∈ ws, w.length ≤ n) → (jn sep ws).length ≤ ws.length * (n + sep.length)
  | [], _ => by simp [jn]
  | [x], h => by have := h x (by simp); simp [jn]; omega
  | x :: y :: r, h => by
    have h1 := h x (by simp)
    have h2 := jn_len (sep := sep) (n := n) (ws := y :: r) fun w hw => h w (by simp [List.mem_cons.mp hw])
    show (x ++ sep ++ jn sep (y :: r)).length ≤ (y :: r).length.succ * _
    rw [Nat.succ_mul]
    simp only [List.length_append]
    omega
theorem loose_ok {q : Wq} (ok : okQ q) {tx : Str} {n m1 m2 k : Nat} {t : List Nat} (hx : sg tx = List.replicate m1 32 ++ jn (List.replicate (n + 1) 32) ((wdQ q).map sg) ++ List.replicate m2 32 ++ List.replicate k 32 ++ t) (hn : n ≤ 2) (hm1 : m1 ≤ 2) (hm2 : m2 ≤ 2) (hk : k ≤ 2) (ht : t = [] ∨ ∃ t', t = 35 :: t') (h10 : 10 ∉ t) (hl : t.length ≤ 20) :
    tx.length ≤ 100000 ∧ 10 ∉ sg tx ∧ wrd (sg (Txt.partition tx (so "#")).1) = (wdQ q).map sg := by
  obtain ⟨w1, w2⟩ := wd_Q ok
  have rep : ∀ c m : Nat, c ∈ List.replicate m 32 → c = 32 := fun c m h => (List.mem_replicate.mp h).2
  have fr : ∀ c : Nat, c ≠ 32 → (∀ w ∈ wdQ q, c ∉ sg w) → c ∉ List.replicate m1 32 ++ jn (List.replicate (n + 1) 32) ((wdQ q).map sg) ++ List.replicate m2 32 ++ List.replicate k 32 := fun c hc hw h => by
    rcases List.mem_append.mp h with z | z
    · rcases List.mem_append.mp z with z | z
      · rcases List.mem_append.mp z with z | z
        · exact hc (rep _ _ z)
        · rcases jn_mem z with z | ⟨w, hm, z⟩
          · exact hc (rep _ _ z)
          · obtain ⟨u, hu, rfl⟩ := List.mem_map.mp hm
            exact hw u hu z
      · exact hc (rep _ _ z)
    · exact hc (rep _ _ z)
  refine ⟨?_, fun h => ?_, ?_⟩
  · have hj := jn_len (sep := List.replicate (n + 1) 32) (n := 20) (ws := (wdQ q).map sg) fun w hw => by
      obtain ⟨u, hu, rfl⟩ := List.mem_map.mp hw
      have := (w1 u hu).2.2.2.2
      rwa [show (sg u).length = u.length by simp [Str.length, sg]]
    have hln : tx.length = (sg tx).length := by simp [Str.length, sg]
    rw [List.length_map, List.length_replicate] at hj
    have : (wdQ q).length * (20 + (n + 1)) ≤ 970 * 23 := Nat.mul_le_mul w2 (by omega)
    rw [hln, hx]
    simp only [List.length_append, List.length_replicate]
    omega
  · rw [hx] at h
    rcases List.mem_append.mp h with z | z
    · exact fr 10 (by decide) (fun w hw => (w1 w hw).2.2.2.1) z
    · exact h10 z
  · rw [show so "#" = ⟨#[35]⟩ by decide, part_first hx (fr 35 (by decide) fun w hw => (w1 w hw).2.2.1) ht, wrd_post, wrd_post, wrd_pre]
    exact wrd_jn n fun w hw => by
      obtain ⟨u, hu, rfl⟩ := List.mem_map.mp hw
      exact ⟨(w1 u hu).2.1, (w1 u hu).1⟩
theorem tjoin (sep : Str) (l : List Str) : Txt.join sep l = Str.join sep l := StrLaws.glued_eq_join sep l
theorem wdQ_ne (q : Wq) : wdQ q ≠ [] := by
  cases q with
  | pl W => cases W <;> simp [wdQ, wdW]
  | sa c ns W => simp [wdQ, hdW]
theorem rep_of {q : Wq} (ok : okQ q) (z : Str) : Txt.replace (Txt.join (so " ") (wdQ q)) (so " ") z = Str.join z (wdQ q) := by
  have e : so " " = ⟨#[32]⟩ := by decide
  rw [e]
  exact replace_join (wdQ_ne q) (fun w hw => ((wd_Q ok).1 w hw).2.1) (tjoin _ _)
theorem join_len {q : Wq} (ok : okQ q) : (Txt.join (so " ") (wdQ q)).length ≤ 100000 := by
  have hx : sg (Txt.join (so " ") (wdQ q)) = jn [32] ((wdQ q).map sg) := (congrArg sg (tjoin _ _)).trans (sg_join (so " ") (wdQ q))
  exact (loose_ok ok (tx := Txt.join (so " ") (wdQ q)) (n := 0) (m1 := 0) (m2 := 0) (k := 0) (t := []) (by rw [hx]; simp) (by omega) (by omega) (by omega) (by omega) (.inl rfl) (by simp) (by simp)).1
theorem join_ok {q : Wq} (ok : okQ q) : 10 ∉ sg (Txt.join (so " ") (wdQ q)) ∧ wrd (sg (Txt.partition (Txt.join (so " ") (wdQ q)) (so "#")).1) = (wdQ q).map sg := by
  have hx : sg (Txt.join (so " ") (wdQ q)) = jn [32] ((wdQ q).map sg) := (congrArg sg (tjoin _ _)).trans (sg_join (so " ") (wdQ q))
  exact (loose_ok ok (tx := Txt.join (so " ") (wdQ q)) (n := 0) (m1 := 0) (m2 := 0) (k := 0) (t := []) (by rw [hx]; simp) (by omega) (by omega) (by omega) (by omega) (.inl rfl) (by simp) (by simp)).2
noncomputable def bls : List Str := [so "", so " ", so "  "]
noncomputable def seps : List Str := [so " ", so "  ", so "   "]
noncomputable def tails : List Str := [so "", so "# end", so "#", so " # unlike : ; #", so "#cell a 1"]
theorem bl_rep {x : Str} (h : x ∈ bls) : ∃ m, m ≤ 2 ∧ sg x = List.replicate m 32 := by
  simp only [bls, List.mem_cons, List.not_mem_nil, or_false] at h
  rcases h with rfl | rfl | rfl
  · exact ⟨0, by decide, by decide⟩
  · exact ⟨1, by decide, by decide⟩
  · exact ⟨2, by decide, by decide⟩
theorem sep_rep {x : Str} (h : x ∈ seps) : ∃ m, m ≤ 2 ∧ sg x = List.replicate (m + 1) 32 := by
  simp only [seps, List.mem_cons, List.not_mem_nil, or_false] at h
  rcases h with rfl | rfl | rfl
  · exact ⟨0, by decide, by decide⟩
  · exact ⟨1, by decide, by decide⟩
  · exact ⟨2, by decide, by decide⟩
theorem tail_rep {x : Str} (h : x ∈ tails) : ∃ (k : Nat) (t : List Nat), k ≤ 2 ∧ sg x = List.replicate k 32 ++ t ∧ (t = [] ∨ ∃ t', t = 35 :: t') ∧ 10 ∉ t ∧ t.length ≤ 20 := by
  simp only [tails, List.mem_cons, List.not_mem_nil, or_false] at h
  rcases h with rfl | rfl | rfl | rfl | rfl
  · exact ⟨0, [], by decide, by decide, .inl rfl, by decide, by decide⟩
  · exact ⟨0, sg (so "# end"), by decide, by decide, .inr ⟨_, rfl⟩, by decide, by decide⟩
  · exact ⟨0, sg (so "#"), by decide, by decide, .inr ⟨_, rfl⟩, by decide, by decide⟩
  · exact ⟨1, sg (so "# unlike : ; #"), by decide, by decide, .inr ⟨_, rfl⟩, by decide, by decide⟩
  · exact ⟨0, sg (so "#cell a 1"), by decide, by decide, .inr ⟨_, rfl⟩, by decide, by decide⟩
theorem tie_ok {q : Wq} (ok : okQ q) {x y z u : Str} (hx : x ∈ bls) (hy : y ∈ bls) (hz : z ∈ seps) (hu : u ∈ tails) :
    (x ++ Str.join z (wdQ q) ++ y ++ u).length ≤ 100000 ∧ 10 ∉ sg (x ++ Str.join z (wdQ q) ++ y ++ u) ∧ wrd (sg (Txt.partition (x ++ Str.join z (wdQ q) ++ y ++ u) (so "#")).1) = (wdQ q).map sg := by
  obtain ⟨m1, h1, e1⟩ := bl_rep hx
  obtain ⟨m2, h2, e2⟩ := bl_rep hy
  obtain ⟨n, h3, e3⟩ := sep_rep hz
  obtain ⟨k, t, h4, e4, h5, h6, h7⟩ := tail_rep hu
  exact loose_ok ok (n := n) (m1 := m1) (m2 := m2) (k := k) (t := t) (by rw [sg_app, sg_app, sg_app, sg_join, e1, e2, e3, e4]; simp only [List.append_assoc]) h3 h1 h2 h4 h5 h6 h7
theorem sep_at {i : Int} (h0 : 0 ≤ i) (h1 : i < 3) : ∃ w, [so " ", so "  ", so "   "][i.toNat]? = some w ∧ w ∈ seps ∧ w.length ≤ 10 := by
  have : i = 0 ∨ i = 1 ∨ i = 2 := by omega
  rcases this with rfl | rfl | rfl
  · exact ⟨_, rfl, by simp [seps], by decide⟩
  · exact ⟨_, rfl, by simp [seps], by decide⟩
  · exact ⟨_, rfl, by simp [seps], by decide⟩
theorem ln_app (a b : Str) : (a ++ b).length = a.length + b.length := by
  have h : ∀ x : Str, x.length = (sg x).length := fun x => by simp [Str.length, sg]
  rw [h, h, h, sg_app, List.length_append]
theorem vs_mem {ls : List Str} {v : V} (h : v ∈ ls.map V.str) : ∃ x, x ∈ ls ∧ v = .str x := by
  obtain ⟨x, hx, e⟩ := List.mem_map.mp h
  exact ⟨x, hx, e.symm⟩
theorem bl_len {x : Str} (h : x ∈ bls) : x.length ≤ 2 := by
  simp only [bls, List.mem_cons, List.not_mem_nil, or_false] at h
  rcases h with rfl | rfl | rfl <;> decide
theorem tl_len {x : Str} (h : x ∈ tails) : x.length ≤ 20 := by
  simp only [tails, List.mem_cons, List.not_mem_nil, or_false] at h
  rcases h with rfl | rfl | rfl | rfl | rfl <;> decide
theorem szB {n : Nat} (h : n ≤ 200000) : n ≤ sizeLine := Nat.le_trans h (by decide)
theorem good_names {ws : List Str} (h : NamesOk ws) : GoodN ws := ⟨h.nd, fun x hx => by
  have n := h.nm x hx
  have hm : inV (.str x) marksV = false := by
    have := inV_strs x marks4
    rw [decide_eq_false (h.nomark x hx)] at this
    exact this
  show (decide (1 ≤ x.length) && decide (x.length ≤ 8) && !inV (.str x) marksV && x.cps.toList.all smallB) = true
  rw [decide_eq_true n.pos, decide_eq_true n.le, hm, List.all_eq_true.mpr n.small]
  rfl⟩
theorem eq_tr {K : PySem.W.Frag} {H : Hp} {x y : V} {t : Tr} {n : Nat} {Q : VK} (g : gdT n t) (hn : n ≤ 100) (hx : TV H x t) (hy : TV H y t) (q : Q (.bl true) H) : rEqD K x y H Q := by
  obtain ⟨a, b⟩ := lay_tr n t g
  refine ⟨trD t, trD t, rep_tr t hx, rep_tr t hy, a, a, by omega, ?_⟩
  rw [PySem.SeqAt.eqv_refl _ a]
  exact q
noncomputable def spLaw (K : PySem.W.Frag) : Sp := fun vs H Q _ => ∃ (a : Addr) (ns : List Int), vs = [.ref a] ∧ SqL K H a (ns.map V.int) ∧ ns.length ≤ 63 ∧ ∀ H', Q (.bl true) H'
open L2.Irr
theorem ok_law  {f : Addr} {fd : FuncData} (T : Txt w K mg base) (L : Fun K "law" "law" s_law f fd) (F_law_deal : Fn P w K mg base "_law_deal" 1 ["_law_script", "_law_start"] (spDeal K)) (F_law_draw : Fn P w K mg base "_law_draw" 1 ["_law_deal_here", "_law_many_here"] (spDraw)) (F_law_names : Fn P w K mg base "_law_names" 2 ["_law_deal_here", "_law_many_here"] (spNames)) (F_law_big_wish : Fn P w K mg base "_law_big_wish" 6 ["_law_deal_here", "_law_names_here", "_law_sort"] (spBig)) (F_law_words : Fn P w K mg base "_law_words" 4 ["_law_wish"] (spLw true)) (Fshow_wish : Fn P w K mg base "show_wish" 6 ["wish"] (spShow)) (Fread_wish : Fn P w K mg base "read_wish" 10 ["text"] (spRead)) (F_law_no_truths : Fn P w K mg base "_law_no_truths" 5 ["_law_thing"] (spNt 4)) : FnOk P w K mg base CX0 11 f fd ["_law_script"] (spLaw K) := by
  have nd := sc_law.nd
  refine L.ok sc_law (fun vs H Q E h => ?_) (fun cdv A outer s H vs Q E hr h => ?_) <;> obtain ⟨a, ns0, rfl, hS, hlen, k⟩ := h
  · rfl
  have hu := hu_of hr
  refine ⟨_, (pss_cons (ps_set (i := 1) nd rfl (by first | exact Or.inl rfl | exact Or.inr rfl) (pe_callF F_law_deal (hr.mono (by first | decide | omega)) rfl (pa_cons (pvM 0) (pa_cons pe_int pa_nil))))
    (pss_cons (ps_set (i := 2) nd rfl (by first | exact Or.inl rfl | exact Or.inr rfl) (pe_callF F_law_names (hr.mono (by first | decide | omega)) rfl (pa_cons (pvM 1) (pa_cons pe_int pa_nil))))
    (pss_cons (ps_set (i := 3) nd rfl (by first | exact Or.inl rfl | exact Or.inr rfl) (pe_ix ix_L (pe_lst (pa_cons pe_str (pa_cons pe_str (pa_cons pe_str (pa_cons pe_str (pa_cons pe_str (pa_cons pe_str (pa_cons pe_str pa_nil)))))))) (pe_callF F_law_draw (hr.mono (by first | decide | omega)) rfl (pa_cons (pvM 1) (pa_cons pe_int pa_nil))) (fun _ _ => rfl)))
    (pss_cons (ps_set (i := 4) nd rfl (by first | exact Or.inl rfl | exact Or.inr rfl) (pe_callF F_law_big_wish (hr.mono (by first | decide | omega)) rfl (pa_cons (pvM 1) (pa_cons (pvM 2) (pa_cons (pvM 3) pa_nil)))))
    (pss_mint (by repeat (first | exact Mints.fresh | refine Mints.at ?_)) (ps_set (i := 5) nd rfl (by first | exact Or.inl rfl | exact Or.inr rfl) (pe_mS PySem.F.slot_str_join PySem.F.type_str_join ms_join pe_str (pa_cons (pe_callF F_law_words (hr.mono (by first | decide | omega)) rfl (pa_cons (pvM 4) pa_nil)) pa_nil)))
    (psk_cons (ps_if (pt_cmpR op_ne (pe_callF Fshow_wish (hr.mono (by first | decide | omega)) rfl (pa_cons (pvM 4) pa_nil)) (pvM 5) (nomark _)) (pss_one (ps_ret pe_bl)) pss_nil)
    (psk_set (i := 6) nd rfl (by first | exact Or.inl rfl | exact Or.inr rfl) (pek_repl T.nb (pvM 5) (pe_op op_mul (pe_callF F_law_draw (hr.mono (by first | decide | omega)) rfl (pa_cons (pvM 1) (pa_cons pe_int pa_nil))) (pe_callTy call_int1 rfl T.b_int (show bootBuiltins "int" = some (.type "int") by decide +kernel) (pa_cons (pe_cmpR op_lt (pe_callB call_lenS rfl T.b_len PySem.boot_len (pa_cons (pvM 5) pa_nil)) pe_int (nomark _)) pa_nil))) (fun _ _ => rfl))
    (pss_cons (ps_set (i := 6) nd rfl (by first | exact Or.inl rfl | exact Or.inr rfl) (pe_op op_catS (pe_op op_catS (pe_ix ix_L (pe_lst (pa_cons pe_str (pa_cons pe_str (pa_cons pe_str pa_nil)))) (pe_callF F_law_draw (hr.mono (by first | decide | omega)) rfl (pa_cons (pvM 1) (pa_cons pe_int pa_nil))) (fun _ _ => rfl)) (pvM 6)) (pe_ix ix_L (pe_lst (pa_cons pe_str (pa_cons pe_str (pa_cons pe_str pa_nil)))) (pe_callF F_law_draw (hr.mono (by first | decide | omega)) rfl (pa_cons (pvM 1) (pa_cons pe_int pa_nil))) (fun _ _ => rfl))))
    (pss_cons (ps_set (i := 6) nd rfl (by first | exact Or.inl rfl | exact Or.inr rfl) (pe_op op_catS (pvM 6) (pe_ix ix_L (pe_lst (pa_cons pe_str (pa_cons pe_str (pa_cons pe_str (pa_cons pe_str (pa_cons pe_str pa_nil)))))) (pe_callF F_law_draw (hr.mono (by first | decide | omega)) rfl (pa_cons (pvM 1) (pa_cons pe_int pa_nil))) (fun _ _ => rfl))))
    (pss_cons (ps_set (i := 7) nd rfl (by first | exact Or.inl rfl | exact Or.inr rfl) (pe_callF Fread_wish (hr.mono (by first | decide | omega)) rfl (pa_cons (pvM 5) pa_nil)))
    (pss_one (ps_ret (pe_and (pe_cmpR (op_eqD (hu100 hr)) (pvM 7) (pvM 4) (nomark _)) (pe_and (pe_callF F_law_no_truths (hr.mono (by first | decide | omega)) rfl (pa_cons (pvM 7) pa_nil)) (pe_and (pe_cmpR (op_eqD (hu100 hr)) (pe_callF Fread_wish (hr.mono (by first | decide | omega)) rfl (pa_cons (pvM 6) pa_nil)) (pvM 4) (nomark _)) (pe_one (pe_cmpR op_eq (pe_callF Fshow_wish (hr.mono (by first | decide | omega)) rfl (pa_cons (pvM 7) pa_nil)) (pvM 5) (nomark _)))))))))))))))))), ?_⟩
  (try ctx_has vcx true_and)
  refine ⟨a, ns0, 1, rfl, hS, hlen, by decide, by decide, fun d l H1 hd hl D1 sm1 => ?_⟩
  (try ctx_has vcx true_and)
  refine ⟨d, l, _, rfl, D1, by decide, by decide, fun ca ws H2 fca ok hws h2 D2 B2 => ?_⟩
  (try ctx_has vcx true_and)
  refine ⟨by decide, fun p1 hp1 => draw_of D2 hp1 (by decide) (by decide) rfl fun r v H3 hv hav D3 B3 h3 => ⟨_, rfl, _, h3, v, hav, ?_⟩⟩
  obtain ⟨sort, rfl, hs⟩ : ∃ s, v = .str s ∧ (s ∈ sorts6 ∨ s = "same") := by
    simp only [List.mem_cons, List.not_mem_nil, or_false] at hv
    rcases hv with rfl | rfl | rfl | rfl | rfl | rfl | rfl
    all_goals exact ⟨_, rfl, by decide +kernel⟩
  have nca := D1.ne fca
  have h23 := B3 ca _ nca.1 nca.2 h2
  refine ⟨d, l, ca, ws, sort, rfl, D3, h23, by omega, by omega, good_names ok, hs, fun wv q H4 tv4 okq D4 B4 => ?_⟩
  obtain ⟨w1, w2⟩ := wd_Q okq
  have wl := sum_len w1
  refine ⟨wv, q, rfl, tv4, okq, (fun z => by cases z), fun p5 H5 s5 h5 => ⟨p5, rfl, wdQ q, h5, ?_, wv, q, rfl, TV.keep (Same.keepT s5) _ tv4, okq, fun H6 s6 => ⟨rfl, ?_⟩⟩⟩
  · rw [show (Str.ofString " ").length = 1 by decide]
    omega
  rw [if_neg (by simp)]
  have tv6 := TV.keep (Same.keepT (s5.trans s6)) _ tv4
  have D6 := (D4.same s5).same s6
  have jl := join_len okq
  refine ⟨jl, draw_rd D6 (by decide) (by decide) fun i H7 i0 i1 D7 B7 => ⟨Nat.le_trans jl (by decide), i, rfl, ?_⟩⟩
  obtain ⟨c, hc, ec⟩ : ∃ c : Int, (c = 0 ∨ c = 1) ∧ (if ((Txt.join (Str.ofString " ") (wdQ q)).length : Int) < 5000 then (1 : Int) else 0) = c := by
    split
    · exact ⟨1, .inr rfl, rfl⟩
    · exact ⟨0, .inl rfl, rfl⟩
  rw [ec]
  obtain ⟨z, hz, hzm, hzl⟩ := sep_at (i := i * c) (by rcases hc with rfl | rfl <;> omega) (by rcases hc with rfl | rfl <;> omega)
  refine ⟨.inl ⟨by omega, by omega⟩, by rcases hc with rfl | rfl <;> omega, z, hz, hzl, ?_⟩
  rw [rep_of okq z]
  have tv7 := TV.keep (B7.keepT D6) _ tv6
  have hJ := (tie_ok okq (x := so "") (y := so "") (z := z) (u := so "") (by simp [bls]) (by simp [bls]) hzm (by simp [tails])).1
  rw [ln_app, ln_app, ln_app] at hJ
  refine ⟨by decide, fun p8 hp8 => draw_of D7 hp8 (by decide) (by decide) rfl fun r8 v8 H8 hv8 ha8 D8 B8 h8 => ⟨_, rfl, _, h8, v8, ha8, ?_⟩⟩
  obtain ⟨x, hx, rfl⟩ := vs_mem (ls := bls) hv8
  have lx := bl_len hx
  refine ⟨x, rfl, szB (by omega), by decide, fun p9 hp9 => draw_of D8 hp9 (by decide) (by decide) rfl fun r9 v9 H9 hv9 ha9 D9 B9 h9 => ⟨_, rfl, _, h9, v9, ha9, ?_⟩⟩
  obtain ⟨y, hy, rfl⟩ := vs_mem (ls := bls) hv9
  have ly := bl_len hy
  refine ⟨y, rfl, szB (by rw [ln_app]; omega), by decide, fun pA hpA => draw_of D9 hpA (by decide) (by decide) rfl fun rA vA HA hvA haA DA BA hA => ⟨_, rfl, _, hA, vA, haA, ?_⟩⟩
  obtain ⟨u, hu', rfl⟩ := vs_mem (ls := tails) hvA
  have lu := tl_len hu'
  refine ⟨u, rfl, szB (by rw [ln_app, ln_app]; omega), ?_⟩
  have tvA := TV.keep (BA.keepT D9) _ (TV.keep (B9.keepT D8) _ (TV.keep (B8.keepT D7) _ tv7))
  refine ⟨_, q, rfl, jl, (join_ok okq).1, okq, (join_ok okq).2, fun tl HB sB tB => ?_⟩
  have tvB := TV.keep (Same.keepT sB) _ tvA
  clear hS B2 B3 B4 B7 B8 B9 BA D1 D2 D3 D4 D6 D7 D8 D9 s5 s6
  have g := gd_Q okq
  refine eq_tr (K := K) g (by decide) tB tvB ⟨_, rfl, ?_⟩
  rw [if_pos rfl]
  refine ⟨tl, _, rfl, tB, g, fun HC sC => ⟨_, rfl, ?_⟩⟩
  rw [if_pos rfl]
  obtain ⟨t1, t2, t3⟩ := tie_ok okq hx hy hzm hu'
  refine ⟨_, q, rfl, t1, t2, okq, t3, fun tl2 HD sD tD => ?_⟩
  refine eq_tr (K := K) g (by decide) tD (TV.keep (Same.keepT (sC.trans sD)) _ tvB) ⟨_, rfl, ?_⟩
  rw [if_pos rfl]
  refine ⟨tl, q, rfl, TV.keep (Same.keepT (sC.trans sD)) _ tB, okq, fun HE sE => ⟨rfl, ?_⟩⟩
  rw [decide_eq_true rfl]
  exact k _
theorem ftw {a : Addr} {f0 : Addr} {f1 : Addr} {f2 : Addr} {f3 : Addr} {f4 : Addr} {f5 : Addr}
    (F0 : Fn P w K mg base "unlike_words" 1 ["wish"] (spWr "unlike")) (m0 : mg "unlike_words" = some (.ref f0)) (n0 : PySem.W.nsIn K a "unlike" = some (some (.ref f0))) (F1 : Fn P w K mg base "many_words" 2 ["wish"] (spWr "many")) (m1 : mg "many_words" = some (.ref f1)) (n1 : PySem.W.nsIn K a "many" = some (some (.ref f1))) (F2 : Fn P w K mg base "sum_words" 2 ["wish"] (spWr "sum")) (m2 : mg "sum_words" = some (.ref f2)) (n2 : PySem.W.nsIn K a "sum" = some (some (.ref f2))) (F3 : Fn P w K mg base "table_words" 3 ["wish"] (spWr "table")) (m3 : mg "table_words" = some (.ref f3)) (n3 : PySem.W.nsIn K a "table" = some (some (.ref f3))) (F4 : Fn P w K mg base "way_words" 3 ["wish"] (spWr "way")) (m4 : mg "way_words" = some (.ref f4)) (n4 : PySem.W.nsIn K a "way" = some (some (.ref f4))) (F5 : Fn P w K mg base "behind_words" 1 ["wish"] (spWr "behind")) (m5 : mg "behind_words" = some (.ref f5)) (n5 : PySem.W.nsIn K a "behind" = some (some (.ref f5))) :
    ∀ y ∈ six, FnT P w K mg base a y 4 ["wish"] (spWr y) := by
  intro y hy
  simp only [six, List.mem_cons, List.not_mem_nil, or_false] at hy
  rcases hy with rfl | rfl | rfl | rfl | rfl | rfl
  · exact fnT_of F0 m0 n0 (by decide) (fun _ _ _ _ h => h)
  · exact fnT_of F1 m1 n1 (by decide) (fun _ _ _ _ h => h)
  · exact fnT_of F2 m2 n2 (by decide) (fun _ _ _ _ h => h)
  · exact fnT_of F3 m3 n3 (by decide) (fun _ _ _ _ h => h)
  · exact fnT_of F4 m4 n4 (by decide) (fun _ _ _ _ h => h)
  · exact fnT_of F5 m5 n5 (by decide) (fun _ _ _ _ h => h)
theorem ftt {a : Addr} {f0 : Addr} {f1 : Addr} {f2 : Addr} {f3 : Addr} {f4 : Addr} {f5 : Addr}
    (F0 : Fn P w K mg base "take_unlike" 5 ["row"] (spTk mg "unlike")) (m0 : mg "take_unlike" = some (.ref f0)) (n0 : PySem.W.nsIn K a "unlike" = some (some (.ref f0))) (F1 : Fn P w K mg base "take_many" 5 ["row"] (spTk mg "many")) (m1 : mg "take_many" = some (.ref f1)) (n1 : PySem.W.nsIn K a "many" = some (some (.ref f1))) (F2 : Fn P w K mg base "take_sum" 5 ["row"] (spTk mg "sum")) (m2 : mg "take_sum" = some (.ref f2)) (n2 : PySem.W.nsIn K a "sum" = some (some (.ref f2))) (F3 : Fn P w K mg base "take_table" 6 ["row"] (spTk mg "table")) (m3 : mg "take_table" = some (.ref f3)) (n3 : PySem.W.nsIn K a "table" = some (some (.ref f3))) (F4 : Fn P w K mg base "take_way" 6 ["row"] (spTk mg "way")) (m4 : mg "take_way" = some (.ref f4)) (n4 : PySem.W.nsIn K a "way" = some (some (.ref f4))) (F5 : Fn P w K mg base "take_behind" 5 ["row"] (spTk mg "behind")) (m5 : mg "take_behind" = some (.ref f5)) (n5 : PySem.W.nsIn K a "behind" = some (some (.ref f5))) :
    ∀ y ∈ six, FnT P w K mg base a y 7 ["row"] (spTk mg y) := by
  intro y hy
  simp only [six, List.mem_cons, List.not_mem_nil, or_false] at hy
  rcases hy with rfl | rfl | rfl | rfl | rfl | rfl
  · exact fnT_of F0 m0 n0 (by decide) (fun _ _ _ _ h => h)
  · exact fnT_of F1 m1 n1 (by decide) (fun _ _ _ _ h => h)
  · exact fnT_of F2 m2 n2 (by decide) (fun _ _ _ _ h => h)
  · exact fnT_of F3 m3 n3 (by decide) (fun _ _ _ _ h => h)
  · exact fnT_of F4 m4 n4 (by decide) (fun _ _ _ _ h => h)
  · exact fnT_of F5 m5 n5 (by decide) (fun _ _ _ _ h => h)
noncomputable def strKs (K : PySem.W.Frag) (a : Addr) : Bool := match K.lookup a with
  | some ⟨_, _, .dict es _, _⟩ => es.toList.all (fun e => match e.key with | .str _ _ => true | _ => false)
  | _ => false
theorem nb_of {h : Heap} (X : K.In h) (a : strKs K cStatics = true) (e : PySem.W.nsIn K cStatics sharingNotToldKey = some none) : NoneBooked h := by
  unfold strKs at a
  split at a
  · rename_i c d es n sl q
    have g := X _ _ q
    have sk : StrKeys es := fun x hx => by
      have := List.all_eq_true.mp a x (Array.mem_toList_iff.mpr hx)
      split at this
      · exact ⟨_, _, by assumption⟩
      · cases this
    refine ⟨fun y => nsFind es y, ⟨_, es, n, g, rfl, sk, fun _ => rfl⟩, ?_⟩
    unfold PySem.W.nsIn at e
    rw [q] at e
    simp only at e
    split at e
    · cases e
    · rename_i he
      show nsFind es sharingNotToldKey = none
      unfold nsFind findBy
      rw [← Array.find?_toList, he]
      rfl
  · cases a
noncomputable abbrev AT (K : PySem.W.Frag) (x : Str) (f : Addr) : Prop := PySem.W.nsIn K mainGlobals x = some (some (Value.ref f))
noncomputable abbrev LK (K : PySem.W.Frag) (f : Addr) (x : Str) (st : Stmt) (oc : Value) (od : Option Addr) (sl : Array (Option Value)) (kV dc pm : Value) (an : Option Addr) (cd ct : Value) : Prop := K.lookup f = some ⟨oc, od, .func (PySem.W.fnOf x x (defArgs st) (defBody st) (defScope st) .none kV dc pm an cd ct), sl⟩
noncomputable abbrev CK (K : PySem.W.Frag) (cd : Value) (x : Str) : Prop := PySem.W.codeIn K cd x = true
noncomputable abbrev KK (K : PySem.W.Frag) (f : Addr) : Prop := PySem.W.keepIn K (Value.ref f) = true
theorem lenq1 {α : Type} {us : List α} (h : us.length = 1) : ∃ u0, us = [u0] := by
  match us, h with
  | [u0], _ => exact ⟨u0, rfl⟩
theorem lenq2 {α : Type} {us : List α} (h : us.length = 2) : ∃ u0 u1, us = [u0, u1] := by
  match us, h with
  | [u0, u1], _ => exact ⟨u0, u1, rfl⟩
theorem lenq3 {α : Type} {us : List α} (h : us.length = 3) : ∃ u0 u1 u2, us = [u0, u1, u2] := by
  match us, h with
  | [u0, u1, u2], _ => exact ⟨u0, u1, u2, rfl⟩
theorem lenq4 {α : Type} {us : List α} (h : us.length = 4) : ∃ u0 u1 u2 u3, us = [u0, u1, u2, u3] := by
  match us, h with
  | [u0, u1, u2, u3], _ => exact ⟨u0, u1, u2, u3, rfl⟩
theorem lenq5 {α : Type} {us : List α} (h : us.length = 5) : ∃ u0 u1 u2 u3 u4, us = [u0, u1, u2, u3, u4] := by
  match us, h with
  | [u0, u1, u2, u3, u4], _ => exact ⟨u0, u1, u2, u3, u4, rfl⟩
theorem lenq6 {α : Type} {us : List α} (h : us.length = 6) : ∃ u0 u1 u2 u3 u4 u5, us = [u0, u1, u2, u3, u4, u5] := by
  match us, h with
  | [u0, u1, u2, u3, u4, u5], _ => exact ⟨u0, u1, u2, u3, u4, u5, rfl⟩
theorem lenq7 {α : Type} {us : List α} (h : us.length = 7) : ∃ u0 u1 u2 u3 u4 u5 u6, us = [u0, u1, u2, u3, u4, u5, u6] := by
  match us, h with
  | [u0, u1, u2, u3, u4, u5, u6], _ => exact ⟨u0, u1, u2, u3, u4, u5, u6, rfl⟩
theorem lenq8 {α : Type} {us : List α} (h : us.length = 8) : ∃ u0 u1 u2 u3 u4 u5 u6 u7, us = [u0, u1, u2, u3, u4, u5, u6, u7] := by
  match us, h with
  | [u0, u1, u2, u3, u4, u5, u6, u7], _ => exact ⟨u0, u1, u2, u3, u4, u5, u6, u7, rfl⟩
theorem lenq9 {α : Type} {us : List α} (h : us.length = 9) : ∃ u0 u1 u2 u3 u4 u5 u6 u7 u8, us = [u0, u1, u2, u3, u4, u5, u6, u7, u8] := by
  match us, h with
  | [u0, u1, u2, u3, u4, u5, u6, u7, u8], _ => exact ⟨u0, u1, u2, u3, u4, u5, u6, u7, u8, rfl⟩
theorem lenq10 {α : Type} {us : List α} (h : us.length = 10) : ∃ u0 u1 u2 u3 u4 u5 u6 u7 u8 u9, us = [u0, u1, u2, u3, u4, u5, u6, u7, u8, u9] := by
  match us, h with
  | [u0, u1, u2, u3, u4, u5, u6, u7, u8, u9], _ => exact ⟨u0, u1, u2, u3, u4, u5, u6, u7, u8, u9, rfl⟩
theorem lenq11 {α : Type} {us : List α} (h : us.length = 11) : ∃ u0 u1 u2 u3 u4 u5 u6 u7 u8 u9 u10, us = [u0, u1, u2, u3, u4, u5, u6, u7, u8, u9, u10] := by
  match us, h with
  | [u0, u1, u2, u3, u4, u5, u6, u7, u8, u9, u10], _ => exact ⟨u0, u1, u2, u3, u4, u5, u6, u7, u8, u9, u10, rfl⟩
local macro_rules | `(tactic| ctx_has b1) => `(tactic| exact fun _ _ _ _ _ _ us hl => by obtain ⟨u0, ee⟩ := lenq1 hl; subst ee; rfl)
local macro_rules | `(tactic| ctx_has b2) => `(tactic| exact fun _ _ _ _ _ _ us hl => by obtain ⟨u0, u1, ee⟩ := lenq2 hl; subst ee; rfl)
local macro_rules | `(tactic| ctx_has b3) => `(tactic| exact fun _ _ _ _ _ _ us hl => by obtain ⟨u0, u1, u2, ee⟩ := lenq3 hl; subst ee; rfl)
local macro_rules | `(tactic| ctx_has b4) => `(tactic| exact fun _ _ _ _ _ _ us hl => by obtain ⟨u0, u1, u2, u3, ee⟩ := lenq4 hl; subst ee; rfl)
theorem all_mk {l : PySem.W.OpenLaw} {w : World} {K : PySem.W.Frag} {h : Heap} {mg : Str → Option Value} {fa : Addr} (X : K.In h) (G : h.Ns mainGlobals mg) (hfa : mg "law" = some (.ref fa))
    {C_Row : Addr}
    {f22 : Addr} {oc22 : Value} {od22 an22 : Option Addr} {sl22 : Array (Option Value)} {kV22 dc22 pm22 cd22 ct22 : Value}
    {f23 : Addr} {oc23 : Value} {od23 an23 : Option Addr} {sl23 : Array (Option Value)} {kV23 dc23 pm23 cd23 ct23 : Value}
    {f24 : Addr} {oc24 : Value} {od24 an24 : Option Addr} {sl24 : Array (Option Value)} {kV24 dc24 pm24 cd24 ct24 : Value}
    {f25 : Addr} {oc25 : Value} {od25 an25 : Option Addr} {sl25 : Array (Option Value)} {kV25 dc25 pm25 cd25 ct25 : Value}
    {f26 : Addr} {oc26 : Value} {od26 an26 : Option Addr} {sl26 : Array (Option Value)} {kV26 dc26 pm26 cd26 ct26 : Value}
    {f27 : Addr} {oc27 : Value} {od27 an27 : Option Addr} {sl27 : Array (Option Value)} {kV27 dc27 pm27 cd27 ct27 : Value}
    {f28 : Addr} {oc28 : Value} {od28 an28 : Option Addr} {sl28 : Array (Option Value)} {kV28 dc28 pm28 cd28 ct28 : Value}
    {f29 : Addr} {oc29 : Value} {od29 an29 : Option Addr} {sl29 : Array (Option Value)} {kV29 dc29 pm29 cd29 ct29 : Value}
    {f30 : Addr} {oc30 : Value} {od30 an30 : Option Addr} {sl30 : Array (Option Value)} {kV30 dc30 pm30 cd30 ct30 : Value}
    {f31 : Addr} {oc31 : Value} {od31 an31 : Option Addr} {sl31 : Array (Option Value)} {kV31 dc31 pm31 cd31 ct31 : Value}
    {f32 : Addr} {oc32 : Value} {od32 an32 : Option Addr} {sl32 : Array (Option Value)} {kV32 dc32 pm32 cd32 ct32 : Value}
    {ca_0 : Addr} {co_0 : Option Addr} {cn_0 : Nat} {cs_0 : Array (Option Value)} {ck_0_0 : Tok} {ck_0_1 : Tok} {ck_0_2 : Tok} {ck_0_3 : Tok}
    {ct_1 : Tok}
    {ct_2 : Tok}
    {ct_3 : Tok}
    {C_PLAIN_WRITERS : Addr} {te_PLAIN_WRITERS : Array DictEntry} {tn_PLAIN_WRITERS : Nat}
    {C_PLAIN_TAKERS : Addr} {te_PLAIN_TAKERS : Array DictEntry} {tn_PLAIN_TAKERS : Nat}
    {f0 f1 f2 f3 f4 f5 f6 f7 f8 f9 f10 f11 f12 f13 f14 f15 f16 f17 f18 f19 f20 f21 f33 f34 f35 f36 f37 f38 f39 f40 f41 f42 f43 f44 f45 f46 f47 f48 f49 f50 : Addr} {oc0 kV0 dc0 pm0 cd0 ct0 oc1 kV1 dc1 pm1 cd1 ct1 oc2 kV2 dc2 pm2 cd2 ct2 oc3 kV3 dc3 pm3 cd3 ct3 oc4 kV4 dc4 pm4 cd4 ct4 oc5 kV5 dc5 pm5 cd5 ct5 oc6 kV6 dc6 pm6 cd6 ct6 oc7 kV7 dc7 pm7 cd7 ct7 oc8 kV8 dc8 pm8 cd8 ct8 oc9 kV9 dc9 pm9 cd9 ct9 oc10 kV10 dc10 pm10 cd10 ct10 oc11 kV11 dc11 pm11 cd11 ct11 oc12 kV12 dc12 pm12 cd12 ct12 oc13 kV13 dc13 pm13 cd13 ct13 oc14 kV14 dc14 pm14 cd14 ct14 oc15 kV15 dc15 pm15 cd15 ct15 oc16 kV16 dc16 pm16 cd16 ct16 oc17 kV17 dc17 pm17 cd17 ct17 oc18 kV18 dc18 pm18 cd18 ct18 oc19 kV19 dc19 pm19 cd19 ct19 oc20 kV20 dc20 pm20 cd20 ct20 oc21 kV21 dc21 pm21 cd21 ct21 oc33 kV33 dc33 pm33 cd33 ct33 oc34 kV34 dc34 pm34 cd34 ct34 oc35 kV35 dc35 pm35 cd35 ct35 oc36 kV36 dc36 pm36 cd36 ct36 oc37 kV37 dc37 pm37 cd37 ct37 oc38 kV38 dc38 pm38 cd38 ct38 oc39 kV39 dc39 pm39 cd39 ct39 oc40 kV40 dc40 pm40 cd40 ct40 oc41 kV41 dc41 pm41 cd41 ct41 oc42 kV42 dc42 pm42 cd42 ct42 oc43 kV43 dc43 pm43 cd43 ct43 oc44 kV44 dc44 pm44 cd44 ct44 oc45 kV45 dc45 pm45 cd45 ct45 oc46 kV46 dc46 pm46 cd46 ct46 oc47 kV47 dc47 pm47 cd47 ct47 oc48 kV48 dc48 pm48 cd48 ct48 oc49 kV49 dc49 pm49 cd49 ct49 oc50 kV50 dc50 pm50 cd50 ct50 : Value} {od0 an0 od1 an1 od2 an2 od3 an3 od4 an4 od5 an5 od6 an6 od7 an7 od8 an8 od9 an9 od10 an10 od11 an11 od12 an12 od13 an13 od14 an14 od15 an15 od16 an16 od17 an17 od18 an18 od19 an19 od20 an20 od21 an21 od33 an33 od34 an34 od35 an35 od36 an36 od37 an37 od38 an38 od39 an39 od40 an40 od41 an41 od42 an42 od43 an43 od44 an44 od45 an45 od46 an46 od47 an47 od48 an48 od49 an49 od50 an50 : Option Addr} {sl0 sl1 sl2 sl3 sl4 sl5 sl6 sl7 sl8 sl9 sl10 sl11 sl12 sl13 sl14 sl15 sl16 sl17 sl18 sl19 sl20 sl21 sl33 sl34 sl35 sl36 sl37 sl38 sl39 sl40 sl41 sl42 sl43 sl44 sl45 sl46 sl47 sl48 sl49 sl50 : Array (Option Value)}
    (aC_Row : PySem.W.nsIn K mainGlobals "Row" = some (some (.ref C_Row)))
    (pg_Row : PySem.W.plainGet K C_Row Str.empty = true)
    (hd_Row : PySem.W.hasDictIn K C_Row = true)
    (po_Row : PySem.W.plainOver K C_Row = true)
    (sa_Row : PySem.W.findIn K (.ref C_Row) "__setattr__" = some (some (.builtin "object.__setattr__")))
    (nf_Row_words : PySem.W.findIn K (.ref C_Row) "words" = some none)
    (nf_Row_line : PySem.W.findIn K (.ref C_Row) "line" = some none)
    (nf_Row_place : PySem.W.findIn K (.ref C_Row) "place" = some none)
    (mk_Row : PySem.W.makesIn K C_Row = true) (kc_Row : PySem.W.keepIn K (.ref C_Row) = true)
    (a0 : AT K "_law_draw" f0) (l0 : LK K f0 "_law_draw" s__law_draw oc0 od0 sl0 kV0 dc0 pm0 an0 cd0 ct0) (c0 : CK K cd0 "_law_draw") (k0 : KK K f0)
    (a1 : AT K "_law_deal" f1) (l1 : LK K f1 "_law_deal" s__law_deal oc1 od1 sl1 kV1 dc1 pm1 an1 cd1 ct1) (c1 : CK K cd1 "_law_deal") (k1 : KK K f1)
    (a2 : AT K "_law_names" f2) (l2 : LK K f2 "_law_names" s__law_names oc2 od2 sl2 kV2 dc2 pm2 an2 cd2 ct2) (c2 : CK K cd2 "_law_names") (k2 : KK K f2)
    (a3 : AT K "_law_number" f3) (l3 : LK K f3 "_law_number" s__law_number oc3 od3 sl3 kV3 dc3 pm3 an3 cd3 ct3) (c3 : CK K cd3 "_law_number") (k3 : KK K f3)
    (a4 : AT K "_law_numbers" f4) (l4 : LK K f4 "_law_numbers" s__law_numbers oc4 od4 sl4 kV4 dc4 pm4 an4 cd4 ct4) (c4 : CK K cd4 "_law_numbers") (k4 : KK K f4)
    (a5 : AT K "_law_many" f5) (l5 : LK K f5 "_law_many" s__law_many oc5 od5 sl5 kV5 dc5 pm5 an5 cd5 ct5) (c5 : CK K cd5 "_law_many") (k5 : KK K f5)
    (a6 : AT K "number_words" f6) (l6 : LK K f6 "number_words" s_number_words oc6 od6 sl6 kV6 dc6 pm6 an6 cd6 ct6) (c6 : CK K cd6 "number_words") (k6 : KK K f6)
    (a7 : AT K "bound_word" f7) (l7 : LK K f7 "bound_word" s_bound_word oc7 od7 sl7 kV7 dc7 pm7 an7 cd7 ct7) (c7 : CK K cd7 "bound_word") (k7 : KK K f7)
    (a8 : AT K "parted_words" f8) (l8 : LK K f8 "parted_words" s_parted_words oc8 od8 sl8 kV8 dc8 pm8 an8 cd8 ct8) (c8 : CK K cd8 "parted_words") (k8 : KK K f8)
    (a9 : AT K "unlike_words" f9) (l9 : LK K f9 "unlike_words" s_unlike_words oc9 od9 sl9 kV9 dc9 pm9 an9 cd9 ct9) (c9 : CK K cd9 "unlike_words") (k9 : KK K f9)
    (a10 : AT K "many_words" f10) (l10 : LK K f10 "many_words" s_many_words oc10 od10 sl10 kV10 dc10 pm10 an10 cd10 ct10) (c10 : CK K cd10 "many_words") (k10 : KK K f10)
    (a11 : AT K "behind_words" f11) (l11 : LK K f11 "behind_words" s_behind_words oc11 od11 sl11 kV11 dc11 pm11 an11 cd11 ct11) (c11 : CK K cd11 "behind_words") (k11 : KK K f11)
    (a12 : AT K "sum_words" f12) (l12 : LK K f12 "sum_words" s_sum_words oc12 od12 sl12 kV12 dc12 pm12 an12 cd12 ct12) (c12 : CK K cd12 "sum_words") (k12 : KK K f12)
    (a13 : AT K "table_words" f13) (l13 : LK K f13 "table_words" s_table_words oc13 od13 sl13 kV13 dc13 pm13 an13 cd13 ct13) (c13 : CK K cd13 "table_words") (k13 : KK K f13)
    (a14 : AT K "way_words" f14) (l14 : LK K f14 "way_words" s_way_words oc14 od14 sl14 kV14 dc14 pm14 an14 cd14 ct14) (c14 : CK K cd14 "way_words") (k14 : KK K f14)
    (a15 : AT K "same_head_words" f15) (l15 : LK K f15 "same_head_words" s_same_head_words oc15 od15 sl15 kV15 dc15 pm15 an15 cd15 ct15) (c15 : CK K cd15 "same_head_words") (k15 : KK K f15)
    (a16 : AT K "show_wish" f16) (l16 : LK K f16 "show_wish" s_show_wish oc16 od16 sl16 kV16 dc16 pm16 an16 cd16 ct16) (c16 : CK K cd16 "show_wish") (k16 : KK K f16)
    (a17 : AT K "_law_pieces" f17) (l17 : LK K f17 "_law_pieces" s__law_pieces oc17 od17 sl17 kV17 dc17 pm17 an17 cd17 ct17) (c17 : CK K cd17 "_law_pieces") (k17 : KK K f17)
    (a18 : AT K "_law_words" f18) (l18 : LK K f18 "_law_words" s__law_words oc18 od18 sl18 kV18 dc18 pm18 an18 cd18 ct18) (c18 : CK K cd18 "_law_words") (k18 : KK K f18)
    (a19 : AT K "is_name" f19) (l19 : LK K f19 "is_name" s_is_name oc19 od19 sl19 kV19 dc19 pm19 an19 cd19 ct19) (c19 : CK K cd19 "is_name") (k19 : KK K f19)
    (a20 : AT K "number_of" f20) (l20 : LK K f20 "number_of" s_number_of oc20 od20 sl20 kV20 dc20 pm20 an20 cd20 ct20) (c20 : CK K cd20 "number_of") (k20 : KK K f20)
    (a21 : AT K "words_of" f21) (l21 : LK K f21 "words_of" s_words_of oc21 od21 sl21 kV21 dc21 pm21 an21 cd21 ct21) (c21 : CK K cd21 "words_of") (k21 : KK K f21)
    (a22 : PySem.W.findIn K (.ref C_Row) "is_done" = some (some (.ref f22))) (i22 : PySem.W.isFn K (.ref f22) = true)
    (l22 : K.lookup f22 = some ⟨oc22, od22, .func (PySem.W.fnOf "is_done" "Row.is_done" (defArgs s_Row_is_done) (defBody s_Row_is_done) (defScope s_Row_is_done) .none kV22 dc22 pm22 an22 cd22 ct22), sl22⟩)
    (c22 : PySem.W.codeIn K cd22 "Row.is_done" = true) (k22 : PySem.W.keepIn K (.ref f22) = true)
    (a23 : PySem.W.findIn K (.ref C_Row) "peek" = some (some (.ref f23))) (i23 : PySem.W.isFn K (.ref f23) = true)
    (l23 : K.lookup f23 = some ⟨oc23, od23, .func (PySem.W.fnOf "peek" "Row.peek" (defArgs s_Row_peek) (defBody s_Row_peek) (defScope s_Row_peek) .none kV23 dc23 pm23 an23 cd23 ct23), sl23⟩)
    (c23 : PySem.W.codeIn K cd23 "Row.peek" = true) (k23 : PySem.W.keepIn K (.ref f23) = true)
    (a24 : PySem.W.findIn K (.ref C_Row) "take_word" = some (some (.ref f24))) (i24 : PySem.W.isFn K (.ref f24) = true)
    (l24 : K.lookup f24 = some ⟨oc24, od24, .func (PySem.W.fnOf "take_word" "Row.take_word" (defArgs s_Row_take_word) (defBody s_Row_take_word) (defScope s_Row_take_word) .none kV24 dc24 pm24 an24 cd24 ct24), sl24⟩)
    (c24 : PySem.W.codeIn K cd24 "Row.take_word" = true) (k24 : PySem.W.keepIn K (.ref f24) = true)
    (a25 : PySem.W.findIn K (.ref C_Row) "take_mark" = some (some (.ref f25))) (i25 : PySem.W.isFn K (.ref f25) = true)
    (l25 : K.lookup f25 = some ⟨oc25, od25, .func (PySem.W.fnOf "take_mark" "Row.take_mark" (defArgs s_Row_take_mark) (defBody s_Row_take_mark) (defScope s_Row_take_mark) .none kV25 dc25 pm25 an25 cd25 ct25), sl25⟩)
    (c25 : PySem.W.codeIn K cd25 "Row.take_mark" = true) (k25 : PySem.W.keepIn K (.ref f25) = true)
    (a26 : PySem.W.findIn K (.ref C_Row) "take_end" = some (some (.ref f26))) (i26 : PySem.W.isFn K (.ref f26) = true)
    (l26 : K.lookup f26 = some ⟨oc26, od26, .func (PySem.W.fnOf "take_end" "Row.take_end" (defArgs s_Row_take_end) (defBody s_Row_take_end) (defScope s_Row_take_end) .none kV26 dc26 pm26 an26 cd26 ct26), sl26⟩)
    (c26 : PySem.W.codeIn K cd26 "Row.take_end" = true) (k26 : PySem.W.keepIn K (.ref f26) = true)
    (a27 : PySem.W.findIn K (.ref C_Row) "take_number" = some (some (.ref f27))) (i27 : PySem.W.isFn K (.ref f27) = true)
    (l27 : K.lookup f27 = some ⟨oc27, od27, .func (PySem.W.fnOf "take_number" "Row.take_number" (defArgs s_Row_take_number) (defBody s_Row_take_number) (defScope s_Row_take_number) .none kV27 dc27 pm27 an27 cd27 ct27), sl27⟩)
    (c27 : PySem.W.codeIn K cd27 "Row.take_number" = true) (k27 : PySem.W.keepIn K (.ref f27) = true)
    (a28 : PySem.W.findIn K (.ref C_Row) "take_name" = some (some (.ref f28))) (i28 : PySem.W.isFn K (.ref f28) = true)
    (l28 : K.lookup f28 = some ⟨oc28, od28, .func (PySem.W.fnOf "take_name" "Row.take_name" (defArgs s_Row_take_name) (defBody s_Row_take_name) (defScope s_Row_take_name) .none kV28 dc28 pm28 an28 cd28 ct28), sl28⟩)
    (c28 : PySem.W.codeIn K cd28 "Row.take_name" = true) (k28 : PySem.W.keepIn K (.ref f28) = true)
    (a29 : PySem.W.findIn K (.ref C_Row) "take_numbers" = some (some (.ref f29))) (i29 : PySem.W.isFn K (.ref f29) = true)
    (l29 : K.lookup f29 = some ⟨oc29, od29, .func (PySem.W.fnOf "take_numbers" "Row.take_numbers" (defArgs s_Row_take_numbers) (defBody s_Row_take_numbers) (defScope s_Row_take_numbers) .none kV29 dc29 pm29 an29 cd29 ct29), sl29⟩)
    (c29 : PySem.W.codeIn K cd29 "Row.take_numbers" = true) (k29 : PySem.W.keepIn K (.ref f29) = true)
    (a30 : PySem.W.findIn K (.ref C_Row) "take_some_numbers" = some (some (.ref f30))) (i30 : PySem.W.isFn K (.ref f30) = true)
    (l30 : K.lookup f30 = some ⟨oc30, od30, .func (PySem.W.fnOf "take_some_numbers" "Row.take_some_numbers" (defArgs s_Row_take_some_numbers) (defBody s_Row_take_some_numbers) (defScope s_Row_take_some_numbers) .none kV30 dc30 pm30 an30 cd30 ct30), sl30⟩)
    (c30 : PySem.W.codeIn K cd30 "Row.take_some_numbers" = true) (k30 : PySem.W.keepIn K (.ref f30) = true)
    (a31 : PySem.W.findIn K (.ref C_Row) "take_some_names" = some (some (.ref f31))) (i31 : PySem.W.isFn K (.ref f31) = true)
    (l31 : K.lookup f31 = some ⟨oc31, od31, .func (PySem.W.fnOf "take_some_names" "Row.take_some_names" (defArgs s_Row_take_some_names) (defBody s_Row_take_some_names) (defScope s_Row_take_some_names) .none kV31 dc31 pm31 an31 cd31 ct31), sl31⟩)
    (c31 : PySem.W.codeIn K cd31 "Row.take_some_names" = true) (k31 : PySem.W.keepIn K (.ref f31) = true)
    (a32 : PySem.W.findIn K (.ref C_Row) "__init__" = some (some (.ref f32))) (i32 : PySem.W.isFn K (.ref f32) = true)
    (l32 : K.lookup f32 = some ⟨oc32, od32, .func (PySem.W.fnOf "__init__" "Row.__init__" (defArgs s_Row___init__) (defBody s_Row___init__) (defScope s_Row___init__) .none kV32 dc32 pm32 an32 cd32 ct32), sl32⟩)
    (c32 : PySem.W.codeIn K cd32 "Row.__init__" = true) (k32 : PySem.W.keepIn K (.ref f32) = true)
    (a33 : AT K "take_unlike" f33) (l33 : LK K f33 "take_unlike" s_take_unlike oc33 od33 sl33 kV33 dc33 pm33 an33 cd33 ct33) (c33 : CK K cd33 "take_unlike") (k33 : KK K f33)
    (a34 : AT K "take_many" f34) (l34 : LK K f34 "take_many" s_take_many oc34 od34 sl34 kV34 dc34 pm34 an34 cd34 ct34) (c34 : CK K cd34 "take_many") (k34 : KK K f34)
    (a35 : AT K "take_behind" f35) (l35 : LK K f35 "take_behind" s_take_behind oc35 od35 sl35 kV35 dc35 pm35 an35 cd35 ct35) (c35 : CK K cd35 "take_behind") (k35 : KK K f35)
    (a36 : AT K "take_term" f36) (l36 : LK K f36 "take_term" s_take_term oc36 od36 sl36 kV36 dc36 pm36 an36 cd36 ct36) (c36 : CK K cd36 "take_term") (k36 : KK K f36)
    (a37 : AT K "take_bound" f37) (l37 : LK K f37 "take_bound" s_take_bound oc37 od37 sl37 kV37 dc37 pm37 an37 cd37 ct37) (c37 : CK K cd37 "take_bound") (k37 : KK K f37)
    (a38 : AT K "take_sum" f38) (l38 : LK K f38 "take_sum" s_take_sum oc38 od38 sl38 kV38 dc38 pm38 an38 cd38 ct38) (c38 : CK K cd38 "take_sum") (k38 : KK K f38)
    (a39 : AT K "take_table" f39) (l39 : LK K f39 "take_table" s_take_table oc39 od39 sl39 kV39 dc39 pm39 an39 cd39 ct39) (c39 : CK K cd39 "take_table") (k39 : KK K f39)
    (a40 : AT K "take_step" f40) (l40 : LK K f40 "take_step" s_take_step oc40 od40 sl40 kV40 dc40 pm40 an40 cd40 ct40) (c40 : CK K cd40 "take_step") (k40 : KK K f40)
    (a41 : AT K "take_same_head" f41) (l41 : LK K f41 "take_same_head" s_take_same_head oc41 od41 sl41 kV41 dc41 pm41 an41 cd41 ct41) (c41 : CK K cd41 "take_same_head") (k41 : KK K f41)
    (a42 : AT K "take_way" f42) (l42 : LK K f42 "take_way" s_take_way oc42 od42 sl42 kV42 dc42 pm42 an42 cd42 ct42) (c42 : CK K cd42 "take_way") (k42 : KK K f42)
    (a43 : AT K "take_wish" f43) (l43 : LK K f43 "take_wish" s_take_wish oc43 od43 sl43 kV43 dc43 pm43 an43 cd43 ct43) (c43 : CK K cd43 "take_wish") (k43 : KK K f43)
    (a44 : AT K "read_wish" f44) (l44 : LK K f44 "read_wish" s_read_wish oc44 od44 sl44 kV44 dc44 pm44 an44 cd44 ct44) (c44 : CK K cd44 "read_wish") (k44 : KK K f44)
    (a45 : AT K "_law_big_sum" f45) (l45 : LK K f45 "_law_big_sum" s__law_big_sum oc45 od45 sl45 kV45 dc45 pm45 an45 cd45 ct45) (c45 : CK K cd45 "_law_big_sum") (k45 : KK K f45)
    (a46 : AT K "_law_big_rows" f46) (l46 : LK K f46 "_law_big_rows" s__law_big_rows oc46 od46 sl46 kV46 dc46 pm46 an46 cd46 ct46) (c46 : CK K cd46 "_law_big_rows") (k46 : KK K f46)
    (a47 : AT K "_law_big_way" f47) (l47 : LK K f47 "_law_big_way" s__law_big_way oc47 od47 sl47 kV47 dc47 pm47 an47 cd47 ct47) (c47 : CK K cd47 "_law_big_way") (k47 : KK K f47)
    (a48 : AT K "_law_big_wish" f48) (l48 : LK K f48 "_law_big_wish" s__law_big_wish oc48 od48 sl48 kV48 dc48 pm48 an48 cd48 ct48) (c48 : CK K cd48 "_law_big_wish") (k48 : KK K f48)
    (a49 : AT K "_law_no_truths" f49) (l49 : LK K f49 "_law_no_truths" s__law_no_truths oc49 od49 sl49 kV49 dc49 pm49 an49 cd49 ct49) (c49 : CK K cd49 "_law_no_truths") (k49 : KK K f49)
    (a50 : AT K "law" f50) (l50 : LK K f50 "law" s_law oc50 od50 sl50 kV50 dc50 pm50 an50 cd50 ct50) (c50 : CK K cd50 "law") (k50 : KK K f50)
    (z0 : PySem.W.nsIn K mainGlobals "len" = some none)
    (z1 : PySem.W.nsIn K mainGlobals "max" = some none)
    (z2 : PySem.W.nsIn K mainGlobals "min" = some none)
    (z3 : PySem.W.nsIn K mainGlobals "abs" = some none)
    (z4 : PySem.W.nsIn K mainGlobals "sum" = some none)
    (z5 : PySem.W.nsIn K mainGlobals "list" = some none)
    (z6 : PySem.W.nsIn K mainGlobals "reversed" = some none)
    (z7 : PySem.W.nsIn K mainGlobals "range" = some none)
    (z8 : PySem.W.nsIn K mainGlobals "isinstance" = some none)
    (z9 : PySem.W.nsIn K mainGlobals "all" = some none)
    (z10 : PySem.W.nsIn K mainGlobals "int" = some none)
    (z11 : PySem.W.nsIn K mainGlobals "str" = some none)
    (z12 : PySem.W.nsIn K mainGlobals "bool" = some none)
    (z13 : PySem.W.nsIn K mainGlobals "tuple" = some none)
    (y0 : PySem.W.nsIn K mainGlobals "MARKS" = some (some (.ref ca_0)))
    (x0 : K.lookup ca_0 = some ⟨.type "tuple", co_0, .seq #[.str "in" ck_0_0, .str "from" ck_0_1, .str "to" ck_0_2, .str "end" ck_0_3] cn_0, cs_0⟩)
    (y1 : PySem.W.nsIn K mainGlobals "FIGURES" = some (some (.str "0123456789" ct_1)))
    (y2 : PySem.W.nsIn K mainGlobals "LONGEST_NAME" = some (some (.int 8 ct_2)))
    (y3 : PySem.W.nsIn K mainGlobals "MOST_FIGURES" = some (some (.int 14 ct_3)))
    (nbs : strKs K cStatics = true) (nbn : PySem.W.nsIn K cStatics sharingNotToldKey = some none)
    (aC_PLAIN_WRITERS : PySem.W.nsIn K mainGlobals "PLAIN_WRITERS" = some (some (.ref C_PLAIN_WRITERS)))
    (tl_PLAIN_WRITERS : K.lookup C_PLAIN_WRITERS = some ⟨.type "dict", none, .dict te_PLAIN_WRITERS tn_PLAIN_WRITERS, #[]⟩)
    (tk_PLAIN_WRITERS : PySem.W.KeysLit w.params te_PLAIN_WRITERS.toList)
    (tx_PLAIN_WRITERS_unlike : PySem.W.nsIn K C_PLAIN_WRITERS "unlike" = some (some (.ref f9)))
    (tx_PLAIN_WRITERS_many : PySem.W.nsIn K C_PLAIN_WRITERS "many" = some (some (.ref f10)))
    (tx_PLAIN_WRITERS_sum : PySem.W.nsIn K C_PLAIN_WRITERS "sum" = some (some (.ref f12)))
    (tx_PLAIN_WRITERS_table : PySem.W.nsIn K C_PLAIN_WRITERS "table" = some (some (.ref f13)))
    (tx_PLAIN_WRITERS_way : PySem.W.nsIn K C_PLAIN_WRITERS "way" = some (some (.ref f14)))
    (tx_PLAIN_WRITERS_behind : PySem.W.nsIn K C_PLAIN_WRITERS "behind" = some (some (.ref f11)))
    (aC_PLAIN_TAKERS : PySem.W.nsIn K mainGlobals "PLAIN_TAKERS" = some (some (.ref C_PLAIN_TAKERS)))
    (tl_PLAIN_TAKERS : K.lookup C_PLAIN_TAKERS = some ⟨.type "dict", none, .dict te_PLAIN_TAKERS tn_PLAIN_TAKERS, #[]⟩)
    (tk_PLAIN_TAKERS : PySem.W.KeysLit w.params te_PLAIN_TAKERS.toList)
    (tm_PLAIN_TAKERS : te_PLAIN_TAKERS.toList.map keyS = six) (hs_PLAIN_TAKERS : (C_PLAIN_TAKERS == sysModules) = false)
    (tx_PLAIN_TAKERS_unlike : PySem.W.nsIn K C_PLAIN_TAKERS "unlike" = some (some (.ref f33)))
    (tx_PLAIN_TAKERS_many : PySem.W.nsIn K C_PLAIN_TAKERS "many" = some (some (.ref f34)))
    (tx_PLAIN_TAKERS_sum : PySem.W.nsIn K C_PLAIN_TAKERS "sum" = some (some (.ref f38)))
    (tx_PLAIN_TAKERS_table : PySem.W.nsIn K C_PLAIN_TAKERS "table" = some (some (.ref f39)))
    (tx_PLAIN_TAKERS_way : PySem.W.nsIn K C_PLAIN_TAKERS "way" = some (some (.ref f42)))
    (tx_PLAIN_TAKERS_behind : PySem.W.nsIn K C_PLAIN_TAKERS "behind" = some (some (.ref f35))) :
    ∃ fd : FuncData, (∀ (s : Shared) (v : Value), BindsTo s fd ⟨[v], []⟩ [("_law_script", v)]) ∧ ∀ base : Heap, K.In base → base.Ns mainGlobals mg → FnOk l.prog w K mg base CX0 11 fa fd ["_law_script"] (spLaw K) := by
  have e := hfa.symm.trans (PySem.W.mg_of X G a50)
  cases e
  refine ⟨PySem.W.fnOf "law" "law" (defArgs s_law) (defBody s_law) (defScope s_law) .none kV50 dc50 pm50 an50 cd50 ct50, fun s v => .of_eq rfl, fun base KB _ => ?_⟩
  have eC_Row := clsAt_of (PySem.W.mg_of X G aC_Row)
  subst eC_Row
  have eC_PLAIN_WRITERS := clsAt_of (PySem.W.mg_of X G aC_PLAIN_WRITERS)
  subst eC_PLAIN_WRITERS
  have eC_PLAIN_TAKERS := clsAt_of (PySem.W.mg_of X G aC_PLAIN_TAKERS)
  subst eC_PLAIN_TAKERS
  have T : Txt w K mg base := ⟨PySem.W.mg_none_of X G z0, PySem.W.mg_none_of X G z1, PySem.W.mg_none_of X G z2, PySem.W.mg_none_of X G z3, PySem.W.mg_none_of X G z4, PySem.W.mg_none_of X G z5, PySem.W.mg_none_of X G z6, PySem.W.mg_none_of X G z7, PySem.W.mg_none_of X G z8, PySem.W.mg_none_of X G z9, PySem.W.mg_none_of X G z10, PySem.W.mg_none_of X G z11, PySem.W.mg_none_of X G z12, PySem.W.mg_none_of X G z13, ⟨_, _, _, _, PySem.W.mg_of X G y0, x0, rfl, rfl, by show 4 ≤ sizeLine; decide, .cons ⟨_, rfl⟩ (.cons ⟨_, rfl⟩ (.cons ⟨_, rfl⟩ (.cons ⟨_, rfl⟩ (.nil))))⟩, ⟨_, PySem.W.mg_of X G y1⟩, ⟨_, PySem.W.mg_of X G y2⟩, ⟨_, PySem.W.mg_of X G y3⟩, PySem.W.mg_of X G aC_PLAIN_WRITERS, ⟨_, _, tl_PLAIN_WRITERS, tk_PLAIN_WRITERS⟩, PySem.W.mg_of X G aC_PLAIN_TAKERS, ⟨_, _, tl_PLAIN_TAKERS, tk_PLAIN_TAKERS⟩, PySem.W.mg_of X G aC_Row, ⟨pg_Row, hd_Row, po_Row, sa_Row⟩, nf_Row_words, nf_Row_line, nf_Row_place, nb_of KB nbs nbn⟩
  have L0 : FnL K mg "_law_draw" s__law_draw ["_law_deal_here", "_law_many_here"] := fnL_mk X G a0 l0 c0 k0 (by ctx_has b2)
  have L1 : FnL K mg "_law_deal" s__law_deal ["_law_script", "_law_start"] := fnL_mk X G a1 l1 c1 k1 (by ctx_has b2)
  have L2 : FnL K mg "_law_names" s__law_names ["_law_deal_here", "_law_many_here"] := fnL_mk X G a2 l2 c2 k2 (by ctx_has b2)
  have L3 : FnL K mg "_law_number" s__law_number ["_law_deal_here", "_law_most"] := fnL_mk X G a3 l3 c3 k3 (by ctx_has b2)
  have L4 : FnL K mg "_law_numbers" s__law_numbers ["_law_deal_here", "_law_many_here"] := fnL_mk X G a4 l4 c4 k4 (by ctx_has b2)
  have L5 : FnL K mg "_law_many" s__law_many ["_law_deal_here", "_law_most"] := fnL_mk X G a5 l5 c5 k5 (by ctx_has b2)
  have L6 : FnL K mg "number_words" s_number_words ["numbers"] := fnL_mk X G a6 l6 c6 k6 (by ctx_has b1)
  have L7 : FnL K mg "bound_word" s_bound_word ["bound"] := fnL_mk X G a7 l7 c7 k7 (by ctx_has b1)
  have L8 : FnL K mg "parted_words" s_parted_words ["rows"] := fnL_mk X G a8 l8 c8 k8 (by ctx_has b1)
  have L9 : FnL K mg "unlike_words" s_unlike_words ["wish"] := fnL_mk X G a9 l9 c9 k9 (by ctx_has b1)
  have L10 : FnL K mg "many_words" s_many_words ["wish"] := fnL_mk X G a10 l10 c10 k10 (by ctx_has b1)
  have L11 : FnL K mg "behind_words" s_behind_words ["wish"] := fnL_mk X G a11 l11 c11 k11 (by ctx_has b1)
  have L12 : FnL K mg "sum_words" s_sum_words ["wish"] := fnL_mk X G a12 l12 c12 k12 (by ctx_has b1)
  have L13 : FnL K mg "table_words" s_table_words ["wish"] := fnL_mk X G a13 l13 c13 k13 (by ctx_has b1)
  have L14 : FnL K mg "way_words" s_way_words ["wish"] := fnL_mk X G a14 l14 c14 k14 (by ctx_has b1)
  have L15 : FnL K mg "same_head_words" s_same_head_words ["wish"] := fnL_mk X G a15 l15 c15 k15 (by ctx_has b1)
  have L16 : FnL K mg "show_wish" s_show_wish ["wish"] := fnL_mk X G a16 l16 c16 k16 (by ctx_has b1)
  have L17 : FnL K mg "_law_pieces" s__law_pieces ["_law_pieces_here"] := fnL_mk X G a17 l17 c17 k17 (by ctx_has b1)
  have L18 : FnL K mg "_law_words" s__law_words ["_law_wish"] := fnL_mk X G a18 l18 c18 k18 (by ctx_has b1)
  have L19 : FnL K mg "is_name" s_is_name ["thing"] := fnL_mk X G a19 l19 c19 k19 (by ctx_has b1)
  have L20 : FnL K mg "number_of" s_number_of ["word"] := fnL_mk X G a20 l20 c20 k20 (by ctx_has b1)
  have L21 : FnL K mg "words_of" s_words_of ["text"] := fnL_mk X G a21 l21 c21 k21 (by ctx_has b1)
  have L22 : MtdL K (Meth K (clsAt mg "Row") "is_done") "is_done" "Row.is_done" s_Row_is_done ["self"] := mtdL_mk ⟨a22, i22, k22⟩ l22 c22 k22 fun _ _ _ _ _ _ us hl => by obtain ⟨u0, ee⟩ := lenq1 hl; subst ee; rfl
  have L23 : MtdL K (Meth K (clsAt mg "Row") "peek") "peek" "Row.peek" s_Row_peek ["self"] := mtdL_mk ⟨a23, i23, k23⟩ l23 c23 k23 fun _ _ _ _ _ _ us hl => by obtain ⟨u0, ee⟩ := lenq1 hl; subst ee; rfl
  have L24 : MtdL K (Meth K (clsAt mg "Row") "take_word") "take_word" "Row.take_word" s_Row_take_word ["self"] := mtdL_mk ⟨a24, i24, k24⟩ l24 c24 k24 fun _ _ _ _ _ _ us hl => by obtain ⟨u0, ee⟩ := lenq1 hl; subst ee; rfl
  have L25 : MtdL K (Meth K (clsAt mg "Row") "take_mark") "take_mark" "Row.take_mark" s_Row_take_mark ["self", "mark"] := mtdL_mk ⟨a25, i25, k25⟩ l25 c25 k25 fun _ _ _ _ _ _ us hl => by obtain ⟨u0, u1, ee⟩ := lenq2 hl; subst ee; rfl
  have L26 : MtdL K (Meth K (clsAt mg "Row") "take_end") "take_end" "Row.take_end" s_Row_take_end ["self"] := mtdL_mk ⟨a26, i26, k26⟩ l26 c26 k26 fun _ _ _ _ _ _ us hl => by obtain ⟨u0, ee⟩ := lenq1 hl; subst ee; rfl
  have L27 : MtdL K (Meth K (clsAt mg "Row") "take_number") "take_number" "Row.take_number" s_Row_take_number ["self"] := mtdL_mk ⟨a27, i27, k27⟩ l27 c27 k27 fun _ _ _ _ _ _ us hl => by obtain ⟨u0, ee⟩ := lenq1 hl; subst ee; rfl
  have L28 : MtdL K (Meth K (clsAt mg "Row") "take_name") "take_name" "Row.take_name" s_Row_take_name ["self"] := mtdL_mk ⟨a28, i28, k28⟩ l28 c28 k28 fun _ _ _ _ _ _ us hl => by obtain ⟨u0, ee⟩ := lenq1 hl; subst ee; rfl
  have L29 : MtdL K (Meth K (clsAt mg "Row") "take_numbers") "take_numbers" "Row.take_numbers" s_Row_take_numbers ["self"] := mtdL_mk ⟨a29, i29, k29⟩ l29 c29 k29 fun _ _ _ _ _ _ us hl => by obtain ⟨u0, ee⟩ := lenq1 hl; subst ee; rfl
  have L30 : MtdL K (Meth K (clsAt mg "Row") "take_some_numbers") "take_some_numbers" "Row.take_some_numbers" s_Row_take_some_numbers ["self"] := mtdL_mk ⟨a30, i30, k30⟩ l30 c30 k30 fun _ _ _ _ _ _ us hl => by obtain ⟨u0, ee⟩ := lenq1 hl; subst ee; rfl
  have L31 : MtdL K (Meth K (clsAt mg "Row") "take_some_names") "take_some_names" "Row.take_some_names" s_Row_take_some_names ["self"] := mtdL_mk ⟨a31, i31, k31⟩ l31 c31 k31 fun _ _ _ _ _ _ us hl => by obtain ⟨u0, ee⟩ := lenq1 hl; subst ee; rfl
  have L32 : MtdL K (Mk K (clsAt mg "Row")) "__init__" "Row.__init__" s_Row___init__ ["self", "text", "line"] := mtdL_mk ⟨mk_Row, a32, i32, kc_Row⟩ l32 c32 k32 fun _ _ _ _ _ _ us hl => by obtain ⟨u0, u1, u2, ee⟩ := lenq3 hl; subst ee; rfl
  have L33 : FnL K mg "take_unlike" s_take_unlike ["row"] := fnL_mk X G a33 l33 c33 k33 (by ctx_has b1)
  have L34 : FnL K mg "take_many" s_take_many ["row"] := fnL_mk X G a34 l34 c34 k34 (by ctx_has b1)
  have L35 : FnL K mg "take_behind" s_take_behind ["row"] := fnL_mk X G a35 l35 c35 k35 (by ctx_has b1)
  have L36 : FnL K mg "take_term" s_take_term ["row"] := fnL_mk X G a36 l36 c36 k36 (by ctx_has b1)
  have L37 : FnL K mg "take_bound" s_take_bound ["row"] := fnL_mk X G a37 l37 c37 k37 (by ctx_has b1)
  have L38 : FnL K mg "take_sum" s_take_sum ["row"] := fnL_mk X G a38 l38 c38 k38 (by ctx_has b1)
  have L39 : FnL K mg "take_table" s_take_table ["row"] := fnL_mk X G a39 l39 c39 k39 (by ctx_has b1)
  have L40 : FnL K mg "take_step" s_take_step ["row"] := fnL_mk X G a40 l40 c40 k40 (by ctx_has b1)
  have L41 : FnL K mg "take_same_head" s_take_same_head ["row"] := fnL_mk X G a41 l41 c41 k41 (by ctx_has b1)
  have L42 : FnL K mg "take_way" s_take_way ["row"] := fnL_mk X G a42 l42 c42 k42 (by ctx_has b1)
  have L43 : FnL K mg "take_wish" s_take_wish ["row"] := fnL_mk X G a43 l43 c43 k43 (by ctx_has b1)
  have L44 : FnL K mg "read_wish" s_read_wish ["text"] := fnL_mk X G a44 l44 c44 k44 (by ctx_has b1)
  have L45 : FnL K mg "_law_big_sum" s__law_big_sum ["_law_deal_here", "_law_some"] := fnL_mk X G a45 l45 c45 k45 (by ctx_has b2)
  have L46 : FnL K mg "_law_big_rows" s__law_big_rows ["_law_deal_here", "_law_wide", "_law_many_here"] := fnL_mk X G a46 l46 c46 k46 (by ctx_has b3)
  have L47 : FnL K mg "_law_big_way" s__law_big_way ["_law_deal_here", "_law_some"] := fnL_mk X G a47 l47 c47 k47 (by ctx_has b2)
  have L48 : FnL K mg "_law_big_wish" s__law_big_wish ["_law_deal_here", "_law_names_here", "_law_sort"] := fnL_mk X G a48 l48 c48 k48 (by ctx_has b3)
  have L49 : FnL K mg "_law_no_truths" s__law_no_truths ["_law_thing"] := fnL_mk X G a49 l49 c49 k49 (by ctx_has b1)
  have F_law_draw := ok__law_draw (P := l.prog) (w := w) (base := base) T L0 
  have F_law_deal := ok__law_deal (P := l.prog) (w := w) (base := base) T L1 
  have F_law_names := ok__law_names (P := l.prog) (w := w) (base := base) T L2 F_law_draw
  have F_law_number := ok__law_number (P := l.prog) (w := w) (base := base) T L3 F_law_draw
  have F_law_numbers := ok__law_numbers (P := l.prog) (w := w) (base := base) T L4 F_law_draw F_law_number
  have F_law_many := ok__law_many (P := l.prog) (w := w) (base := base) T L5 F_law_draw
  have Fnumber_words := ok_number_words (P := l.prog) (w := w) (base := base) T L6 
  have Fbound_word := ok_bound_word (P := l.prog) (w := w) (base := base) T L7 
  have Fparted_words := ok_parted_words (P := l.prog) (w := w) (base := base) T L8 Fnumber_words
  have Funlike_words := ok_unlike_words (P := l.prog) (w := w) (base := base) T L9 
  have Fmany_words := ok_many_words (P := l.prog) (w := w) (base := base) T L10 Fnumber_words
  have Fbehind_words := ok_behind_words (P := l.prog) (w := w) (base := base) T L11 
  have Fsum_words := ok_sum_words (P := l.prog) (w := w) (base := base) T L12 Fbound_word
  have Ftable_words := ok_table_words (P := l.prog) (w := w) (base := base) T L13 Fparted_words
  have Fway_words := ok_way_words (P := l.prog) (w := w) (base := base) T L14 Fparted_words Fnumber_words
  have Fsame_head_words := ok_same_head_words (P := l.prog) (w := w) (base := base) T L15 Fnumber_words
  have Fshow_wish : Fn l.prog w K mg base "show_wish" 6 ["wish"] (spShow) := ok_show_wish (ftw Funlike_words (PySem.W.mg_of X G a9) tx_PLAIN_WRITERS_unlike Fmany_words (PySem.W.mg_of X G a10) tx_PLAIN_WRITERS_many Fsum_words (PySem.W.mg_of X G a12) tx_PLAIN_WRITERS_sum Ftable_words (PySem.W.mg_of X G a13) tx_PLAIN_WRITERS_table Fway_words (PySem.W.mg_of X G a14) tx_PLAIN_WRITERS_way Fbehind_words (PySem.W.mg_of X G a11) tx_PLAIN_WRITERS_behind) T L16 Fsame_head_words
  have F_law_pieces := ok__law_pieces (P := l.prog) (w := w) (base := base) T L17 
  have F_law_words : Fn l.prog w K mg base "_law_words" 4 ["_law_wish"] (spLw true) := ok__law_words (n := 1) (b := true) T L18 F_law_pieces (lw_inn (ok__law_words (n := 0) (b := false) T L18 F_law_pieces (lw_false L18)))
  have Fis_name := ok_is_name (P := l.prog) (w := w) (base := base) T L19 
  have Fnumber_of := ok_number_of (P := l.prog) (w := w) (base := base) T L20 
  have Fwords_of := ok_words_of (P := l.prog) (w := w) (base := base) T L21 
  have FRow_is_done := ok_Row_is_done (P := l.prog) (w := w) (base := base) T L22 
  have FRow_peek := ok_Row_peek (P := l.prog) (w := w) (base := base) T L23 FRow_is_done
  have FRow_take_word := ok_Row_take_word (P := l.prog) (w := w) (base := base) T L24 FRow_is_done
  have FRow_take_mark := ok_Row_take_mark (P := l.prog) (w := w) (base := base) T L25 FRow_take_word
  have FRow_take_end := ok_Row_take_end (P := l.prog) (w := w) (base := base) T L26 FRow_is_done
  have FRow_take_number := ok_Row_take_number (P := l.prog) (w := w) (base := base) T L27 FRow_take_word Fnumber_of
  have FRow_take_name := ok_Row_take_name (P := l.prog) (w := w) (base := base) T L28 FRow_take_word Fis_name
  have FRow_take_numbers := ok_Row_take_numbers (P := l.prog) (w := w) (base := base) T L29 FRow_peek FRow_take_number Fnumber_of
  have FRow_take_some_numbers := ok_Row_take_some_numbers (P := l.prog) (w := w) (base := base) T L30 FRow_take_number FRow_take_numbers
  have FRow_take_some_names := ok_Row_take_some_names (P := l.prog) (w := w) (base := base) T L31 FRow_peek FRow_take_name Fis_name
  have FRow___init__ := ok_Row___init__ (P := l.prog) (w := w) (base := base) T L32 Fwords_of
  have Ftake_unlike := ok_take_unlike (P := l.prog) (w := w) (base := base) T L33 FRow_take_some_names
  have Ftake_many := ok_take_many (P := l.prog) (w := w) (base := base) T L34 FRow_take_numbers FRow_take_mark FRow_take_some_names FRow_take_number
  have Ftake_behind := ok_take_behind (P := l.prog) (w := w) (base := base) T L35 FRow_take_some_names FRow_take_number
  have Ftake_term := ok_take_term (P := l.prog) (w := w) (base := base) T L36 FRow_take_name FRow_take_number
  have Ftake_bound := ok_take_bound (P := l.prog) (w := w) (base := base) T L37 FRow_peek FRow_take_mark FRow_take_number
  have Ftake_sum := ok_take_sum (P := l.prog) (w := w) (base := base) T L38 FRow_peek FRow_take_mark Ftake_term Ftake_bound
  have Ftake_table := ok_take_table (P := l.prog) (w := w) (base := base) T L39 FRow_take_some_names FRow_take_mark FRow_is_done FRow_take_some_numbers
  have Ftake_step := ok_take_step (P := l.prog) (w := w) (base := base) T L40 FRow_take_number
  have Ftake_same_head := ok_take_same_head (P := l.prog) (w := w) (base := base) T L41 FRow_take_mark FRow_take_name FRow_take_numbers
  have Ftake_way := ok_take_way (P := l.prog) (w := w) (base := base) T L42 FRow_take_some_names FRow_take_mark FRow_peek Ftake_step FRow_take_numbers
  have Ftake_wish : Fn l.prog w K mg base "take_wish" 9 ["row"] (spTW mg) := ok_take_wish ⟨_, _, tl_PLAIN_TAKERS, tk_PLAIN_TAKERS, tm_PLAIN_TAKERS⟩ hs_PLAIN_TAKERS (ftt Ftake_unlike (PySem.W.mg_of X G a33) tx_PLAIN_TAKERS_unlike Ftake_many (PySem.W.mg_of X G a34) tx_PLAIN_TAKERS_many Ftake_sum (PySem.W.mg_of X G a38) tx_PLAIN_TAKERS_sum Ftake_table (PySem.W.mg_of X G a39) tx_PLAIN_TAKERS_table Ftake_way (PySem.W.mg_of X G a42) tx_PLAIN_TAKERS_way Ftake_behind (PySem.W.mg_of X G a35) tx_PLAIN_TAKERS_behind) T L43 FRow_peek FRow_take_word Ftake_same_head FRow_take_end
  have Fread_wish := ok_read_wish (P := l.prog) (w := w) (base := base) T L44 FRow___init__ Ftake_wish
  have F_law_big_sum := ok__law_big_sum (P := l.prog) (w := w) (base := base) T L45 F_law_draw F_law_number
  have F_law_big_rows := ok__law_big_rows (P := l.prog) (w := w) (base := base) T L46 F_law_draw F_law_number F_law_numbers
  have F_law_big_way := ok__law_big_way (P := l.prog) (w := w) (base := base) T L47 F_law_draw F_law_numbers F_law_many
  have F_law_big_wishP := ok__law_big_wishP (P := l.prog) (w := w) (base := base) T L48 F_law_draw F_law_number F_law_numbers F_law_many F_law_big_sum F_law_big_rows F_law_big_way
  have F_law_big_wish := ok__law_big_wish (P := l.prog) (w := w) (base := base) T L48 F_law_draw F_law_number F_law_numbers F_law_many F_law_big_sum F_law_big_rows F_law_big_way F_law_big_wishP
  have F_law_no_truths : Fn l.prog w K mg base "_law_no_truths" 5 ["_law_thing"] (spNt 4) := nt_all T L49 4
  exact ok_law T (fun_mk l50 c50 k50) F_law_deal F_law_draw F_law_names F_law_big_wish F_law_words Fshow_wish Fread_wish F_law_no_truths
theorem walk {l : PySem.W.OpenLaw} {q : Program} {loose : List Str} {XP : (Str → Option Value) → Heap → Prop} {YP : World → Heap → Prop} {d : DefRec} {K : Params → PySem.W.Frag} (hn : l.most = some 63) (hdf : d.params.defaults = [])
    (hY : ∀ (w : World) (h : Heap), YP w h → (K w.params).In h)
    (F : ∀ (w : World) (mg : Str → Option Value) (fa : Addr) (h : Heap), (K w.params).In h → h.Ns mainGlobals mg → mg d.name = some (.ref fa) →
      ∃ fd : FuncData, (∀ (s : Shared) (u : Value), BindsTo s fd ⟨[u], []⟩ [("_law_script", u)]) ∧ ∀ base : Heap, (K w.params).In base → base.Ns mainGlobals mg → FnOk l.prog w (K w.params) mg base CX0 11 fa fd ["_law_script"] (spLaw (K w.params))) :
    PySem.W.WalkO q loose XP YP l.row.toRowW d [] (fun f vs => PySem.call f vs) :=
  L2.walk_of (n := 63) (k := 11) (x := "_law_script") (CX := fun _ => CX0) (sp := fun w => spLaw (K w.params)) hn (by decide) hdf ⟨rfl, by decide, by decide⟩ hY F (fun _ _ a ns hl _ hS => ⟨a, ns, rfl, hS, hl, fun _ => rfl⟩) fun _ _ _ _ _ z => z
end Lw
open PySem PySem.W PyProof.Rows
local macro_rules | `(tactic| ctx_has kj $ids*) => `(tactic| ($[case $ids:ident => (change _ = _; k_is)];*))
local macro_rules | `(tactic| o_head $H) => do
  let hw := Lean.mkIdent `hw
  let hc := Lean.mkIdent `hc
  `(tactic| (refine holds_open (q := Lw.viewQ) (hY := Hook.of $H) (hYk := Hook.keeps $H) (YP := Hook.says $H) (XP := XL Lw.viewQ List.nil) (Xt := Lw.hX)
                Lw.hl (fun s e => xl_of s (Bool.and_eq_true_iff.mp e).1) XL.keeps (by rfl) (by rfl) (by rfl)
                (fun s e => recFacts_of (Bool.and_eq_true_iff.mp e).2) (by rfl) (by assumption) (by decide +kernel)
                ⟨rfl, rfl, rfl, rfl, rfl, by decide +kernel⟩ ?$hw ?$hc))
set_option maxRecDepth 100000 in
set_option maxHeartbeats 0 in
theorem PySem.Challenge.cw_seekhall_k06_wishes_written_holds : PySem.Challenge.rw_seekhall_k06_wishes_written.Holds := by
  w_on; o_law; o_head (kHook Lw.early.heap_1 Lw.hAs Lw.hAe); (case hw => w_witness2)
  k_fill
  refine Lw.walk (l := PySem.Challenge.rw_seekhall_k06_wishes_written) rfl rfl (fun w h Y => PySem.W.kIn_of Y) ?F
  case F =>
    intro w mg fa h KX G hmg
    refine' Lw.all_mk KX G hmg ?aC_Row ?pg_Row ?hd_Row ?po_Row ?sa_Row ?nf_Row_words ?nf_Row_line ?nf_Row_place ?mk_Row ?kc_Row ?a0 ?l0 ?c0 ?k0 ?a1 ?l1 ?c1 ?k1 ?a2 ?l2 ?c2 ?k2 ?a3 ?l3 ?c3 ?k3 ?a4 ?l4 ?c4 ?k4 ?a5 ?l5 ?c5 ?k5 ?a6 ?l6 ?c6 ?k6 ?a7 ?l7 ?c7 ?k7 ?a8 ?l8 ?c8 ?k8 ?a9 ?l9 ?c9 ?k9 ?a10 ?l10 ?c10 ?k10 ?a11 ?l11 ?c11 ?k11 ?a12 ?l12 ?c12 ?k12 ?a13 ?l13 ?c13 ?k13 ?a14 ?l14 ?c14 ?k14 ?a15 ?l15 ?c15 ?k15 ?a16 ?l16 ?c16 ?k16 ?a17 ?l17 ?c17 ?k17 ?a18 ?l18 ?c18 ?k18 ?a19 ?l19 ?c19 ?k19 ?a20 ?l20 ?c20 ?k20 ?a21 ?l21 ?c21 ?k21 ?a22 ?i22 ?l22 ?c22 ?k22 ?a23 ?i23 ?l23 ?c23 ?k23 ?a24 ?i24 ?l24 ?c24 ?k24 ?a25 ?i25 ?l25 ?c25 ?k25 ?a26 ?i26 ?l26 ?c26 ?k26 ?a27 ?i27 ?l27 ?c27 ?k27 ?a28 ?i28 ?l28 ?c28 ?k28 ?a29 ?i29 ?l29 ?c29 ?k29 ?a30 ?i30 ?l30 ?c30 ?k30 ?a31 ?i31 ?l31 ?c31 ?k31 ?a32 ?i32 ?l32 ?c32 ?k32 ?a33 ?l33 ?c33 ?k33 ?a34 ?l34 ?c34 ?k34 ?a35 ?l35 ?c35 ?k35 ?a36 ?l36 ?c36 ?k36 ?a37 ?l37 ?c37 ?k37 ?a38 ?l38 ?c38 ?k38 ?a39 ?l39 ?c39 ?k39 ?a40 ?l40 ?c40 ?k40 ?a41 ?l41 ?c41 ?k41 ?a42 ?l42 ?c42 ?k42 ?a43 ?l43 ?c43 ?k43 ?a44 ?l44 ?c44 ?k44 ?a45 ?l45 ?c45 ?k45 ?a46 ?l46 ?c46 ?k46 ?a47 ?l47 ?c47 ?k47 ?a48 ?l48 ?c48 ?k48 ?a49 ?l49 ?c49 ?k49 ?a50 ?l50 ?c50 ?k50 ?z0 ?z1 ?z2 ?z3 ?z4 ?z5 ?z6 ?z7 ?z8 ?z9 ?z10 ?z11 ?z12 ?z13 ?y0 ?x0 ?y1 ?y2 ?y3 ?nbs ?nbn ?aC_PLAIN_WRITERS ?tl_PLAIN_WRITERS ?tk_PLAIN_WRITERS ?tx_PLAIN_WRITERS_unlike ?tx_PLAIN_WRITERS_many ?tx_PLAIN_WRITERS_sum ?tx_PLAIN_WRITERS_table ?tx_PLAIN_WRITERS_way ?tx_PLAIN_WRITERS_behind ?aC_PLAIN_TAKERS ?tl_PLAIN_TAKERS ?tk_PLAIN_TAKERS ?tm_PLAIN_TAKERS ?hs_PLAIN_TAKERS ?tx_PLAIN_TAKERS_unlike ?tx_PLAIN_TAKERS_many ?tx_PLAIN_TAKERS_sum ?tx_PLAIN_TAKERS_table ?tx_PLAIN_TAKERS_way ?tx_PLAIN_TAKERS_behind
    ctx_has kj aC_Row pg_Row hd_Row po_Row sa_Row nf_Row_words nf_Row_line nf_Row_place mk_Row kc_Row a0 l0 c0 k0 a1 l1 c1 k1 a2 l2 c2 k2 a3 l3 c3 k3 a4 l4 c4 k4 a5 l5 c5 k5 a6 l6 c6 k6 a7 l7 c7 k7 a8 l8 c8 k8 a9 l9 c9 k9 a10 l10 c10 k10 a11 l11 c11 k11 a12 l12 c12 k12 a13 l13 c13 k13 a14 l14 c14 k14 a15 l15 c15 k15 a16 l16 c16 k16 a17 l17 c17 k17 a18 l18 c18 k18 a19 l19 c19 k19 a20 l20 c20 k20 a21 l21 c21 k21 a22 i22 l22 c22 k22 a23 i23 l23 c23 k23 a24 i24 l24 c24 k24 a25 i25 l25 c25 k25 a26 i26 l26 c26 k26 a27 i27 l27 c27 k27 a28 i28 l28 c28 k28 a29 i29 l29 c29 k29 a30 i30 l30 c30 k30 a31 i31 l31 c31 k31 a32 i32 l32 c32 k32 a33 l33 c33 k33 a34 l34 c34 k34 a35 l35 c35 k35 a36 l36 c36 k36 a37 l37 c37 k37 a38 l38 c38 k38 a39 l39 c39 k39 a40 l40 c40 k40 a41 l41 c41 k41 a42 l42 c42 k42 a43 l43 c43 k43 a44 l44 c44 k44 a45 l45 c45 k45 a46 l46 c46 k46 a47 l47 c47 k47 a48 l48 c48 k48 a49 l49 c49 k49 a50 l50 c50 k50 z0 z1 z2 z3 z4 z5 z6 z7 z8 z9 z10 z11 z12 z13 y0 x0 y1 y2 y3
    (case nbs => kernel_rfl)
    ctx_has kj nbn aC_PLAIN_WRITERS tl_PLAIN_WRITERS
    (case tk_PLAIN_WRITERS => k_keys)
    ctx_has kj tx_PLAIN_WRITERS_unlike tx_PLAIN_WRITERS_many tx_PLAIN_WRITERS_sum tx_PLAIN_WRITERS_table tx_PLAIN_WRITERS_way tx_PLAIN_WRITERS_behind aC_PLAIN_TAKERS tl_PLAIN_TAKERS
    (case tk_PLAIN_TAKERS => k_keys)
    (case tm_PLAIN_TAKERS => kernel_rfl)
    (case hs_PLAIN_TAKERS => rfl)
    ctx_has kj tx_PLAIN_TAKERS_unlike tx_PLAIN_TAKERS_many tx_PLAIN_TAKERS_sum tx_PLAIN_TAKERS_table tx_PLAIN_TAKERS_way tx_PLAIN_TAKERS_behind
