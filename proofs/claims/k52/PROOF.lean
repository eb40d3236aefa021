import PyProof.Rows.All
import Wide.All
import OpenK.AllK
import Wide.FinOn
import Lean
import PyProof.EqAt
import PyProof.EqKinds
import PyProof.TupleCall
import PySem.Challenge.RW_seekhall_k52_halls_led_on
set_option Elab.async false
set_option linter.all false
set_option maxRecDepth 100000
set_option maxHeartbeats 4000000
namespace Ob
variable {C p q r s t u v w x y z k l m : Prop} {A B D E F G H I J : Sort _}
theorem e1 {P : A → Prop} (h : ∃ a, P a) (f : ∀ a, P a → C) : C := h.elim f
theorem e2 {P : A → B → Prop} (h : ∃ a b, P a b) (f : ∀ a b, P a b → C) : C := h.elim fun a h => e1 h (f a)
theorem e3 {P : A → B → D → Prop} (h : ∃ a b d, P a b d) (f : ∀ a b d, P a b d → C) : C := h.elim fun a h => e2 h (f a)
theorem e4 {P : A → B → D → E → Prop} (h : ∃ a b d e, P a b d e) (f : ∀ a b d e, P a b d e → C) : C := h.elim fun a h => e3 h (f a)
theorem e5 {P : A → B → D → E → F → Prop} (h : ∃ a b d e f, P a b d e f) (f : ∀ a b d e f, P a b d e f → C) : C := h.elim fun a h => e4 h (f a)
theorem e6 {P : A → B → D → E → F → G → Prop} (h : ∃ a b d e f g, P a b d e f g) (f : ∀ a b d e f g, P a b d e f g → C) : C := h.elim fun a h => e5 h (f a)
theorem e7 {P : A → B → D → E → F → G → H → Prop} (h : ∃ a b d e f g h, P a b d e f g h) (f : ∀ a b d e f g h, P a b d e f g h → C) : C := h.elim fun a h => e6 h (f a)
theorem e8 {P : A → B → D → E → F → G → H → I → Prop} (h : ∃ a b d e f g h i, P a b d e f g h i) (f : ∀ a b d e f g h i, P a b d e f g h i → C) : C := h.elim fun a h => e7 h (f a)
theorem e9 {P : A → B → D → E → F → G → H → I → J → Prop} (h : ∃ a b d e f g h i j, P a b d e f g h i j) (f : ∀ a b d e f g h i j, P a b d e f g h i j → C) : C := h.elim fun a h => e8 h (f a)
theorem i2 {P : A → B → Prop} (a : A) (b : B) (o : P a b) : ∃ a b, P a b := ⟨a, b, o⟩
theorem i3 {P : A → B → D → Prop} (a : A) (b : B) (d : D) (o : P a b d) : ∃ a b d, P a b d := ⟨a, b, d, o⟩
theorem i4 {P : A → B → D → E → Prop} (a : A) (b : B) (d : D) (e : E) (o : P a b d e) : ∃ a b d e, P a b d e := ⟨a, b, d, e, o⟩
theorem i5 {P : A → B → D → E → F → Prop} (a : A) (b : B) (d : D) (e : E) (f : F) (o : P a b d e f) : ∃ a b d e f, P a b d e f := ⟨a, b, d, e, f, o⟩
theorem i6 {P : A → B → D → E → F → G → Prop} (a : A) (b : B) (d : D) (e : E) (f : F) (g : G) (o : P a b d e f g) : ∃ a b d e f g, P a b d e f g := ⟨a, b, d, e, f, g, o⟩
theorem i7 {P : A → B → D → E → F → G → H → Prop} (a : A) (b : B) (d : D) (e : E) (f : F) (g : G) (h : H) (o : P a b d e f g h) : ∃ a b d e f g h, P a b d e f g h := ⟨a, b, d, e, f, g, h, o⟩
theorem i8 {P : A → B → D → E → F → G → H → I → Prop} (a : A) (b : B) (d : D) (e : E) (f : F) (g : G) (h : H) (i : I) (o : P a b d e f g h i) : ∃ a b d e f g h i, P a b d e f g h i := ⟨a, b, d, e, f, g, h, i, o⟩
theorem i9 {P : A → B → D → E → F → G → H → I → J → Prop} (a : A) (b : B) (d : D) (e : E) (f : F) (g : G) (h : H) (i : I) (j : J) (o : P a b d e f g h i j) : ∃ a b d e f g h i j, P a b d e f g h i j := ⟨a, b, d, e, f, g, h, i, j, o⟩
theorem c2 (h : p ∧ q) (f : p → q → C) : C := f h.1 h.2
theorem c3 (h : p ∧ q ∧ r) (f : p → q → r → C) : C := c2 h.2 (f h.1)
theorem c4 (h : p ∧ q ∧ r ∧ s) (f : p → q → r → s → C) : C := c3 h.2 (f h.1)
theorem c5 (h : p ∧ q ∧ r ∧ s ∧ t) (f : p → q → r → s → t → C) : C := c4 h.2 (f h.1)
theorem c6 (h : p ∧ q ∧ r ∧ s ∧ t ∧ u) (f : p → q → r → s → t → u → C) : C := c5 h.2 (f h.1)
theorem c7 (h : p ∧ q ∧ r ∧ s ∧ t ∧ u ∧ v) (f : p → q → r → s → t → u → v → C) : C := c6 h.2 (f h.1)
theorem c8 (h : p ∧ q ∧ r ∧ s ∧ t ∧ u ∧ v ∧ w) (f : p → q → r → s → t → u → v → w → C) : C := c7 h.2 (f h.1)
theorem c9 (h : p ∧ q ∧ r ∧ s ∧ t ∧ u ∧ v ∧ w ∧ x) (f : p → q → r → s → t → u → v → w → x → C) : C := c8 h.2 (f h.1)
theorem c10 (h : p ∧ q ∧ r ∧ s ∧ t ∧ u ∧ v ∧ w ∧ x ∧ y) (f : p → q → r → s → t → u → v → w → x → y → C) : C := c9 h.2 (f h.1)
theorem c11 (h : p ∧ q ∧ r ∧ s ∧ t ∧ u ∧ v ∧ w ∧ x ∧ y ∧ z) (f : p → q → r → s → t → u → v → w → x → y → z → C) : C := c10 h.2 (f h.1)
theorem c12 (h : p ∧ q ∧ r ∧ s ∧ t ∧ u ∧ v ∧ w ∧ x ∧ y ∧ z ∧ k) (f : p → q → r → s → t → u → v → w → x → y → z → k → C) : C := c11 h.2 (f h.1)
theorem c13 (h : p ∧ q ∧ r ∧ s ∧ t ∧ u ∧ v ∧ w ∧ x ∧ y ∧ z ∧ k ∧ l) (f : p → q → r → s → t → u → v → w → x → y → z → k → l → C) : C := c12 h.2 (f h.1)
theorem c14 (h : p ∧ q ∧ r ∧ s ∧ t ∧ u ∧ v ∧ w ∧ x ∧ y ∧ z ∧ k ∧ l ∧ m) (f : p → q → r → s → t → u → v → w → x → y → z → k → l → m → C) : C := c13 h.2 (f h.1)
end Ob
open Lean Lean.Parser.Tactic in
local macro_rules
 | `(tactic| obtain $p:rcasesPatMed := $e:term) => do
  let pl : TSyntax ``rcasesPatLo := ⟨mkNode ``rcasesPatLo #[p, mkNullNode]⟩
  let plain ← `(tactic| rcases $e:term with $pl)
  let q := p.raw[0][0]
  let ps := q[1].getSepArgs
  let n := ps.size
  if p.raw[0].getNumArgs != 1 || q.getKind != ``rcasesPat.tuple || n < 2 || n > 20 then return plain
  let mut nm : Array Ident := #[]
  let mut fs : Array (TSyntax `tactic) := #[]
  let cl (b : Term) : MacroM Term := if e.raw.isIdent then `(clear% $(⟨e.raw⟩); $b) else pure b
  for x in ps do
    let v := x[0][0][0]
    if x[1].getNumArgs == 0 && x[0][0].getNumArgs == 1 && v.getKind == ``rcasesPat.one && v[0].getId != `rfl then nm := nm.push ⟨v[0]⟩
    else
      let y := mkIdent (.mkSimple s!"hX{nm.size}")
      nm := nm.push y
      fs := fs.push (← `(tactic| all_goals rcases $y:ident with $(⟨x⟩)))
  let mut alts : Array (TSyntax `tactic) := #[]
  for d in [0:n] do
    let m := n - 1 - d
    let k := n - m
    if m ≤ 9 && k ≤ 14 then
      let f := mkIdent (.mkStr `Ob s!"e{m}")
      let g := mkIdent (.mkStr `Ob s!"c{k}")
      let xs := nm.extract 0 m
      let ys := nm.extract m n
      let b ← cl (← if m == 0 then `(fun $ys* => ?_) else if k == 1 then `(fun $xs* $(ys[0]!) => ?_) else `(fun $xs* hW => $g hW (clear% hW; fun $ys* => ?_)))
      alts := alts.push (← if m == 0 then `(tactic| refine $g $e $b) else `(tactic| refine $f $e $b))
  `(tactic| first | (refine Classical.byContradiction fun hN => ?_; (first $[| $alts:tactic]*); ($[$fs:tactic];*); all_goals (refine hN ?_; clear hN)) | $plain:tactic)
 | `(tactic| rintro $[$rs:rintroPat]*) => do
  let mut ts : Array (TSyntax `tactic) := #[]
  for r in rs do
    let v := r.raw[0]
    if v.getKind == ``rcasesPat.one && v[0].getId != `rfl then ts := ts.push (← `(tactic| intro $(⟨v[0]⟩):ident))
    else if v.getKind == ``rcasesPat.tuple then
      let p : TSyntax ``rcasesPatMed := ⟨mkNode ``rcasesPatMed #[mkNullNode #[v]]⟩
      ts := ts.push (← `(tactic| (intro hY; obtain $p := hY)))
    else Macro.throwUnsupported
  `(tactic| ($[$ts:tactic];*))
 | `(tactic| refine $t:term) => do
  let xs : Array Term := t.raw[1].getSepArgs.map (⟨·⟩)
  let n := xs.size
  if t.raw.getKind != `Lean.Parser.Term.anonymousCtor || n < 3 then Macro.throwUnsupported
  let mut alts : Array (TSyntax `tactic) := #[]
  for d in [1:n] do
    let m := n - d
    if 2 ≤ m && m ≤ 9 then
      let r := xs.extract m n
      let r : Term ← if r.size == 1 then pure r[0]! else `(⟨$r,*⟩)
      let f := mkIdent (.mkStr `Ob s!"i{m}")
      alts := alts.push (← `(tactic| refine $f $(xs.extract 0 m)* $r))
  `(tactic| first $[| $alts:tactic]* | refine ($t))
local macro_rules | `(tactic| omega) => `(tactic| first | with_reducible assumption | decide +kernel | lia | omega +splitDisjunctions)
variable {A:PySem.Around} {E Q Qf xe:PySem.Value→PySem.Shared→Prop} {Ev:PySem.Value→PySem.Value→Prop} {G:List PySem.Value→Prop} {K:PySem.W.Frag} {L:List PySem.PyData} {M:PySem.Model} {N cs' loose names ps w2 ws ws':List PySem.Str} {P prog q:PySem.Program} {R:PySem.Result→PySem.Shared→Prop} {T:String} {XP:(PySem.Str→Option PySem.Value)→PySem.Heap→Prop} {Xt:PySem.Shared→Bool} {YP:PySem.World→PySem.Heap→Prop} {a b c c' d dx f f0 f1 f2 f3 f4 f5 fa it l na pa ra so t tn va:PySem.Addr} {acc items:Array PySem.Value} {apos cpos p1 p2 p3 pos pos' pos2:PySem.Pos} {as:List (PySem.Addr × Int × Int × Int)} {base h h':PySem.Heap} {body rest:List PySem.Stmt} {cd cdv ct ctv doc oc pm u v vl vu:PySem.Value} {ch fp:List PySem.Addr} {cl clos closure:List (PySem.Str × PySem.Addr)} {cmp:Nat→Nat→(Bool→PySem.Shared→Prop)→PySem.Shared→Prop} {cs:List (PySem.Addr × PySem.Str × PySem.Addr × List Int)} {d':PySem.Drawn} {ds:List (PySem.Str × List Int)} {e e1 elt iter oe slice tg value:PySem.Expr} {elts es ifs values:List PySem.Expr} {env:PySem.Env} {ep j k kk n nt t' tk:Nat} {fd:PySem.FuncData} {func od:Option PySem.Addr} {g:Int→Int→Int} {g':Array PySem.GenState} {hi lo:Option Int} {i:Int} {its us:List PySem.Value} {js pl:List Nat} {mA mb mg:PySem.Str→Option PySem.Value} {mI:List (Int × Int)} {mS:List (PySem.Str × PySem.Str)} {ms n2 ns pool rs:List Int} {name qual x:PySem.Str} {osl sl:Array (Option PySem.Value)} {outer:List PySem.Env} {p:Array Nat} {params:PySem.Arguments} {pins pins':List (PySem.Addr × PySem.Obj)} {rm:PySem.Str→List Int} {rows:List (List Int)} {s s' s₁:PySem.Shared} {sc scope:PySem.Scope} {st:PySem.Stmt} {ts:List (Int × PySem.Str)} {use:Option (PySem.Value→PySem.Sem Unit)} {w:PySem.World} {ys:List (PySem.Str × PySem.Addr × List Int)} {α β κ:Type} {φ:PySem.Heap→Prop}
open List (all_cons all_eq_true all_map any_cons any_eq_true append_assoc append_nil append_of_mem cons_append drop_zero ext_getElem? find?_cons find?_some forIn_cons getD_eq_getElem?_getD length_append length_cons length_drop length_eq_zero_iff length_map length_nil length_pos_iff length_range length_take lookup_cons map_append map_congr_left map_cons map_drop map_eq_nil_iff map_fst_zip map_id map_id' map_id'' map_map map_nil map_snd_zip map_take mem_append mem_append_left mem_append_right mem_cons mem_cons_of_mem mem_cons_self mem_filter mem_map mem_of_getElem? mem_of_mem_take mem_range mem_singleton nodup_append nodup_cons not_mem_nil of_mem_zip pairwise_map perm_middle range range' replicate size_toArray take_add_one take_length take_of_length_le take_sublist)
open PySem.W (callWith_K codeHdIn codeHd_of_K codeIn findIn fnOf instObj keepIn keq_eq kia_one kitOne kitx_dict kitx_list lookIn methodObj mg_none_of mg_of nsIn plainGet tabObj)
open Nat (le_of_eq le_of_lt le_of_succ_le le_refl le_succ le_trans lt_irrefl lt_of_lt_of_le lt_succ_of_lt lt_trans min_eq_left ne_of_gt ne_of_lt zero_le)
open Option (getD_none getD_some isNone isSome_iff_exists isSome_map isSome_some map_eq_some_iff map_some)
open Array (ext' getD_eq_getD_getElem? length_toList toList_inj)
namespace Lw
open PySem PySem.W PySem.Calls PyProof.Rows
theorem yu {p:Program} {Yf:Shared→α} {Ya:World→α} {N:Nat} (row:String)
  (h1 : ∀w:World,(fencedOpening treeTable p w N).bind (fun s₀=>(topFrom treeTable p (w.withFollow row false) N s₀).map (fun s=>(openSeen q loose (importedModules p.main.body) Xt true s,Yf s)))=some (openGood q loose,Ya (w.withFollow row false)))
  (h2 : ∀w:World,(fencedOpening treeTable p w N).bind (fun s₀=>(topFrom treeTable p (w.withFollow row true) N s₀).map (fun s=>(openSeen q loose (importedModules p.main.body) Xt true s,Yf s)))=some (openGood q loose,Ya (w.withFollow row true))):LeftO p q loose Xt Yf Ya N:=fun w=>by
 have e:=World.withFollow_self w row;unfold openEnds;rw[Option.map_bind];cases hb:w.params.followText row <;> rw[hb] at e
 ·have:=h1 w;rw[e] at this;exact this
 ·have:=h2 w;rw[e] at this;exact this
noncomputable def top (i:Nat):Stmt:=PySem.Challenge.pw_seekhall_k52_halls_led_on.main.body.getD i (.Pass ⟨0,0,0,0⟩)
noncomputable def eU:Program:={ PySem.Challenge.pw_seekhall_k52_halls_led_on with main:={ PySem.Challenge.pw_seekhall_k52_halls_led_on.main with body:=[1,3,4,5,6,7,8,9,10,11,12,13,14,15,16,17,18,19,20,21,22,24,25,26,27,28,29,30,31,32,33,34,35,36,37,38,39,40,41,42,43,44,45,46,47,48,49,50].map top } }
section
local macro_rules | `(tactic| o_head $H) => `(tactic| (have z := $H; assumption))
set_option maxHeartbeats 0 in
theorem Bf (h:PySem.Challenge.rw_seekhall_k52_halls_led_on.row.Holds):PySem.Challenge.rw_seekhall_k52_halls_led_on.row.Holds:=by
 k_head
end
noncomputable def hAs:List Addr:=[2,3,15,17,18,20,21,22,24,25,27,28,29,32,33,34,37,38,39,41,42,44,45,46,48,49,51,52,53,56,57,58,61,62,63,66,67,68,71,72,73,75,76,78,79,80,82,83,85,86,87,88,90,91,93,94,95,97,98,100,101,102,105,106,107,109,110,112,113,114,116,117,119,120,121,123,124,126,127,128,131,132,133,135,136,138,139,140,143,144,145,147,148,150,151,152,155,156,157,159,160,162,163,164,167,168,169,171,172,174,175,176,178,179,181,182,183,186,187,188,191,192,193,196,197,198,201,202,203,205,206,208,209,210,213,214,215,218,219,220,222,223,225,226,227,230,231,232,234,235,237,238,239,242,243,244,247,248,249,251,252,254,255,256,258,259,261,262,263,265,266,268,269,270,273,274,275,278,279,280,282,283,285,286,287,289,290,292,293,294,297,298]
theorem hAe : ∀P,hAs=(Bf.heap_1 P).map (·.1):=fun _=>by kernel_rfl
noncomputable abbrev hK:Hook:=kmHook Bf.heap_1 hAs hAe [103,108]
noncomputable def hX (s:Shared):Bool:=xlAt eU List.nil s && recOk (RowW.records PySem.Challenge.rw_seekhall_k52_halls_led_on.row.toRowW) s
noncomputable abbrev Bl (b:Bool):Prop:=∀w:World,(fencedOpening treeTable PySem.Challenge.pw_seekhall_k52_halls_led_on w 10200).bind (fun s₀=>(topFrom treeTable PySem.Challenge.pw_seekhall_k52_halls_led_on (w.withFollow "special-get-raises" b) 10200 s₀).map (fun s=>(openSeen eU [Str.ofString "TURNERS"] (importedModules PySem.Challenge.pw_seekhall_k52_halls_led_on.main.body) hX true s,Hook.obs hK s)))=some (openGood eU [Str.ofString "TURNERS"],Hook.val hK (w.withFollow "special-get-raises" b))
theorem Bh {σ A B C D E:Type} {o:Option σ} {k:σ→Option σ} {f1:σ→A} {f2:σ→B} {f3:σ→C} {f4:σ→D} {W:σ→E} {a1:A} {a2:B} {a3:C} {a4:D} {v:E} (h1:o.bind (fun s=>(k s).map f1)=some a1) (h2:o.bind (fun s=>(k s).map f2)=some a2) (h3:o.bind (fun s=>(k s).map f3)=some a3) (h4:o.bind (fun s=>(k s).map f4)=some a4) (H : ∀s,f1 s=a1→f2 s=a2→f3 s=a3→f4 s=a4→W s=v):o.bind (fun s=>(k s).map W)=some v:=by
 cases o with
 | none=>cases h1
 | some s =>
  change (k s).map f1=_ at h1;change (k s).map f2=_ at h2;change (k s).map f3=_ at h3;change (k s).map f4=_ at h4;change (k s).map W=_;cases hk:k s with
  | none=>rw[hk] at h1;cases h1
  | some t =>
   rw[hk] at h1 h2 h3 h4;exact congrArg some (H t (Option.some.inj h1) (Option.some.inj h2) (Option.some.inj h3) (Option.some.inj h4))
theorem Bq {A B C D G:Type} {x y:A × B × C × D} {u v:G} (h1:x.1=y.1) (h2:(x.2.1,x.2.2.1)=(y.2.1,y.2.2.1)) (h3:x.2.2.2=y.2.2.2) (h4:u=v):(x,u)=(y,v):=by
 obtain⟨a,b,c,d⟩:=x;obtain⟨a',b',c',d'⟩:=y;cases h1;cases h2;cases h3;cases h4;rfl
noncomputable abbrev hS0 (b:Bool):Prop:=∀w:World,(fencedOpening treeTable PySem.Challenge.pw_seekhall_k52_halls_led_on w 10200).bind (fun s₀=>(topFrom treeTable PySem.Challenge.pw_seekhall_k52_halls_led_on (w.withFollow "special-get-raises" b) 10200 s₀).map (fun s=>(openSeen eU [Str.ofString "TURNERS"] (importedModules PySem.Challenge.pw_seekhall_k52_halls_led_on.main.body) hX true s).1))=some ((openGood eU [Str.ofString "TURNERS"]).1)
theorem DV:hS0 false:=by intro w;kernel_rfl
theorem Do:hS0 true:=by intro w;kernel_rfl
noncomputable abbrev hS1 (b:Bool):Prop:=∀w:World,(fencedOpening treeTable PySem.Challenge.pw_seekhall_k52_halls_led_on w 10200).bind (fun s₀=>(topFrom treeTable PySem.Challenge.pw_seekhall_k52_halls_led_on (w.withFollow "special-get-raises" b) 10200 s₀).map (fun s=>((openSeen eU [Str.ofString "TURNERS"] (importedModules PySem.Challenge.pw_seekhall_k52_halls_led_on.main.body) hX true s).2.1,(openSeen eU [Str.ofString "TURNERS"] (importedModules PySem.Challenge.pw_seekhall_k52_halls_led_on.main.body) hX true s).2.2.1)))=some ((openGood eU [Str.ofString "TURNERS"]).2.1,(openGood eU [Str.ofString "TURNERS"]).2.2.1)
theorem DG:hS1 false:=by intro w;kernel_rfl
theorem DK:hS1 true:=by intro w;kernel_rfl
noncomputable abbrev hS2 (b:Bool):Prop:=∀w:World,(fencedOpening treeTable PySem.Challenge.pw_seekhall_k52_halls_led_on w 10200).bind (fun s₀=>(topFrom treeTable PySem.Challenge.pw_seekhall_k52_halls_led_on (w.withFollow "special-get-raises" b) 10200 s₀).map (fun s=>(openSeen eU [Str.ofString "TURNERS"] (importedModules PySem.Challenge.pw_seekhall_k52_halls_led_on.main.body) hX true s).2.2.2))=some ((openGood eU [Str.ofString "TURNERS"]).2.2.2)
theorem Ei:hS2 false:=by intro w;kernel_rfl
theorem De:hS2 true:=by intro w;kernel_rfl
noncomputable abbrev hS3 (b:Bool):Prop:=∀w:World,(fencedOpening treeTable PySem.Challenge.pw_seekhall_k52_halls_led_on w 10200).bind (fun s₀=>(topFrom treeTable PySem.Challenge.pw_seekhall_k52_halls_led_on (w.withFollow "special-get-raises" b) 10200 s₀).map (fun s=>Hook.obs hK s))=some (Hook.val hK (w.withFollow "special-get-raises" b))
theorem DH:hS3 false:=by intro w;kernel_rfl
theorem Dc:hS3 true:=by intro w;kernel_rfl
theorem hl1:Bl false:=fun w=>Bh (DV w) (DG w) (Ei w) (DH w) fun s e1 e2 e3 e4=>Bq e1 e2 e3 e4
theorem hl2:Bl true:=fun w=>Bh (Do w) (DK w) (De w) (Dc w) fun s e1 e2 e3 e4=>Bq e1 e2 e3 e4
theorem hl:LeftO PySem.Challenge.pw_seekhall_k52_halls_led_on eU [Str.ofString "TURNERS"] hX (Hook.obs hK) (Hook.val hK) 10200:=yu "special-get-raises" hl1 hl2
end Lw
namespace L2
open PySem PySem.Spec PyProof.Rows
noncomputable abbrev Key:=Sum Int Str
noncomputable def kE:Key→Value→Bool
 | .inl k,v=>Value.isInt k v
 | .inr x,v=>Value.isStrOf x v
noncomputable def Dw (w:World):Key→Int
 | .inl k=>hashInt k
 | .inr x=>hashStr w x
theorem bz : ∀{k:Key} {v:Value},kE k v=true→(∃i t,k=Sum.inl i∧v=Value.int i t)∨(∃x t,k=Sum.inr x∧v=Value.str x t)
 | .inl i,v,h=>by
  obtain⟨t,e⟩:=Value.isInt_shape (k:=i) (v:=v) h;exact .inl ⟨i,t,rfl,e⟩
 | .inr x,v,h=>by
  obtain⟨t,e⟩:=Value.isStrOf_shape (x:=x) (v:=v) h;exact .inr ⟨x,t,rfl,e⟩
theorem xB (i:Int) (t:Tok):kE (.inl i) (.int i t)=true:=by simp[kE,Value.isInt]
theorem xP (x:Str) (t:Tok):kE (.inr x) (.str x t)=true:=by simp[kE,Value.isStrOf]
theorem CF (a b:Int):decide ((Sum.inl a:Key)=Sum.inl b)=(a == b):=by
 by_cases e:a=b
 ·subst e;simp
 ·have h : ¬ (Sum.inl a:Key)=Sum.inl b:=fun q=>e (Sum.inl.inj q)
  rw[decide_eq_false h];exact(beq_eq_false_iff_ne.mpr e).symm
theorem Cw (a b:Str):decide ((Sum.inr a:Key)=Sum.inr b)=decide (a=b):=by
 by_cases e:a=b
 ·subst e;simp
 ·have h : ¬ (Sum.inr a:Key)=Sum.inr b:=fun q=>e (Sum.inr.inj q)
  rw[decide_eq_false h,decide_eq_false e]
theorem CG (a:Int) (b:Str):decide ((Sum.inl a:Key)=Sum.inr b)=false:=decide_eq_false (fun q=>nomatch q)
theorem CQ (a:Str) (b:Int):decide ((Sum.inr a:Key)=Sum.inl b)=false:=decide_eq_false (fun q=>nomatch q)
noncomputable def aU (prog:Program) (w:World):PySem.KeyKind prog w Key where
 is:=kE
 hash:=Dw w
 inj := fun v a b ha hb=>by
  rcases bz ha with⟨i,t,rfl,rfl⟩ | ⟨x,t,rfl,rfl⟩
  ·rcases bz hb with⟨j,u,rfl,e⟩ | ⟨y,u,rfl,e⟩
   ·injection e with e1 _;rw[e1]
   ·exact nomatch e
  ·rcases bz hb with⟨j,u,rfl,e⟩ | ⟨y,u,rfl,e⟩
   ·exact nomatch e
   ·injection e with e1 _;rw[e1]
 byValue:=fun k v h=>by
  rcases bz h with⟨i,t,rfl,rfl⟩ | ⟨x,t,rfl,rfl⟩ <;> rfl
 pyHash:=fun hv h=>by
  rcases bz hv with⟨i,t,rfl,rfl⟩ | ⟨x,t,rfl,rfl⟩
  ·exact wpAny_pyHash_int h
  ·exact wpAny_pyHash_str h
 eqBool:=fun hu hv h=>by
  rcases bz hu with⟨i,t,rfl,rfl⟩ | ⟨x,t,rfl,rfl⟩
  ·rcases bz hv with⟨j,u,rfl,rfl⟩ | ⟨y,u,rfl,rfl⟩
   ·rw[CF] at h;exact wpAny_eqBool_int h
   ·rw[CG] at h;exact SeqAt.EqAt.int_str i t y u _ _ _ _ h
  ·rcases bz hv with⟨j,u,rfl,rfl⟩ | ⟨y,u,rfl,rfl⟩
   ·rw[CQ] at h;exact SeqAt.EqAt.str_int x t j u _ _ _ _ h
   ·rw[Cw] at h;exact wpAny_eqBool_str h
 «strs» := fun k x t v h=>by
  rcases bz h with⟨i,u,rfl,e⟩ | ⟨y,u,rfl,e⟩
  ·exact nomatch e
  ·injection e with e1 _
   subst e1
   cases v <;> rfl
theorem tU (prog:Program) (w:World) (i:Int) (t:Tok):(aU prog w).is (.inl i) (.int i t)=true:=xB i t
theorem sT (prog:Program) (w:World) (x:Str) (t:Tok):(aU prog w).is (.inr x) (.str x t)=true:=xP x t
inductive V where
 | non | bl (b:Bool) | int (i:Int) | str (x:Str) | byt (b:Array UInt8) | flt (b:UInt64) | ref (a:Addr) | ty (n:String)
 deriving DecidableEq
noncomputable def aX:V→Value→Prop
 | .non,u=>u=Value.none
 | .bl b,u=>u=Value.bool b
 | .int i,u=>∃t,u=Value.int i t
 | .str x,u=>∃t,u=Value.str x t
 | .byt b,u=>∃t,u=Value.bytes b t
 | .flt b,u=>∃t,u=Value.float b t
 | .ref a,u=>u=Value.ref a
 | .ty n,u=>u=Value.type n
noncomputable abbrev aT:List V→List Value→Prop:=Paired aX
theorem aT.length {xs:List V} {us:List Value} (r:aT xs us):xs.length=us.length:=Paired.length r
theorem aT.get : ∀{xs:List V} {us:List Value} {i:Nat} {x:V},aT xs us→xs[i]? = some x→∃u,us[i]? = some u∧aX x u
 | _,_,_,_,.nil,e=>by simp at e
 | _,_,0,_,.cons r _,e=>by simp at e;subst e;exact⟨_,rfl,r⟩
 | _,_,i+1,x,.cons _ t,e=>by
  obtain⟨u,h1,h2⟩:=aT.get (i:=i) (x:=x) t (by simpa using e)
  exact⟨u,by simpa using h1,h2⟩
theorem aT.append : ∀{xs ys:List V} {us ws:List Value},aT xs us→aT ys ws→aT (xs++ys) (us++ws)
 | _,_,_,_,.nil,s=>s
 | _,_,_,_,.cons r t,s=>.cons r (aT.append t s)
theorem aT.take : ∀{xs:List V} {us:List Value} (n:Nat),aT xs us→aT (xs.take n) (us.take n)
 | _,_,0,_=>.nil
 | _,_,_+1,.nil=>.nil
 | _,_,n+1,.cons r t=>.cons r (aT.take n t)
theorem aT.drop : ∀{xs:List V} {us:List Value} (n:Nat),aT xs us→aT (xs.drop n) (us.drop n)
 | _,_,0,r=>r
 | _,_,_+1,.nil=>.nil
 | _,_,n+1,.cons _ t=>aT.drop n t
noncomputable def jc:Option V→Option Value→Prop
 | some v,some u=>aX v u
 | none,none=>True
 | _,_=>False
noncomputable def KV {κ:Type}:List (κ × V)→List (κ × Value)→Prop:=Paired fun(p:κ × V) (q:κ × Value)=>p.1=q.1∧aX p.2 q.2
noncomputable def kV:Key→V
 | .inl i=>.int i
 | .inr x=>.str x
inductive HO where
 | lst (xs:List V)
 | tup (xs:List V)
 | dK (kvs:List (Key × V)) | dT (kvs:List (List Key × V))
 | set (S:Int→Bool) (n:Nat)
 | ins (C dx:Addr) (fs:List (Str × V))
 | own (x:Addr)
 | xd (fs:List (Str × V))
 | met (f x:Addr)
 | rng (lo hi:Int)
 | frz (o:Obj) (u:HO)
 | tbl (ps:Array Value)
 | tab (q:Str)
 | ext (φ:Heap→Prop)
noncomputable abbrev Hp:=Addr→Option HO
noncomputable def upd (H:Hp) (a:Addr) (o:HO):Hp:=fun b=>if b=a then some o else H b
theorem ab {H:Hp} {o:HO}:upd H a o a=some o:=by unfold upd;rw[if_pos rfl]
theorem ag {H:Hp} {o:HO} (h:b≠a):upd H a o b=H b:=by unfold upd;rw[if_neg h]
theorem bq {H:Hp} {o u:HO} (h:H a=some o) (h':H b=some u) (d:o≠u):a≠b:=by
 intro e;subst e;rw[h] at h';exact d (Option.some.inj h')
theorem aj {H:Hp} {o:HO} (h:H a=some o) (h':H b=none):a≠b:=by
 intro e;subst e;rw[h] at h';cases h'
section
variable (P:Program) (w:World)
noncomputable def Eh (o:Obj) (q:Str):Prop:=∃vs t,o.data = .fields vs∧vs[1]? = some (.str q t)
noncomputable def be (H:Hp) (h:Heap) (a:Addr):HO→Prop
 | .lst xs=>xs.length≤sizeLine∧∃(its:List Value) (n:Nat),aT xs its∧h.get? a=some { cls:=.type "list",data:=.seq its.toArray n }
 | .tup xs=>xs.length≤sizeLine∧∃its:List Value,aT xs its∧IsTup h a its.toArray
 | .dK kvs=>kvs.length≤sizeLine∧(a == sysModules)=false∧∃vs,KV kvs vs∧h.DictOf (aU P w) a vs
 | .dT kvs=>kvs.length≤sizeLine∧(a == sysModules)=false∧∃xs:List (List Key × Addr × Value),
   Paired (fun(p:List Key × V) (q:List Key × Addr × Value)=>p.1=q.1∧H q.2.1=some (.tup (p.1.map kV))∧aX p.2 q.2.2) kvs xs ∧
   ∃o es ep,h.get? a=some o∧o.ExactDict∧o.data = .dict es ep∧es.toList=xs.map (entryOfKey (tupleKind (aU P w)))∧(xs.map (·.1)).Nodup
 | .set S n=>h.SetOf (intKind P w) a S n
 | .ins C dx fs=>H dx=some (.own a)∧fs.length≤1000∧dx≠a∧h.get? a=some (instObj C dx) ∧
   ∃mA,h.Ns1 dx mA∧(∀f,jc (fs.lookup f) (mA f))∧PySem.Within mA (fs.map (·.1))
 | .own _=>∃o,h.get? a=some o
 | .xd fs=>∃mA,h.Ns1 a mA∧∀f,jc (fs.lookup f) (mA f)
 | .rng lo hi=>∃t u v,h.get? a=some { cls:=.type "range",data:=.fields #[.int lo t,.int hi u,.int 1 v] }
 | .frz o u=>h.get? a=some o∧be H h a u
 | .tbl ps=>h.get? a=some { cls:=.none,data:=.fields ps }
 | .tab q=>∃ps:Array Value,h.get? a=some { cls:=.none,data:=.fields ps }∧TriplesOk ps.toList∧∀pos cv,codeAmong pos ps.toList=some cv→∃c oc,cv=Value.ref c∧c≠a∧H c=some (.frz oc (.own a))∧Eh oc q
 | .met f x=>h.get? a=some (methodObj (.ref f) (.ref x))
 | .ext φ=>φ h∧(∃o,h.get? a=some o)∧∀h1 h2:Heap,φ h1→(∀o,h1.get? a=some o→h2.get? a=some o)→φ h2
noncomputable def HOk (H:Hp) (h:Heap):Prop:=∀a o,H a=some o→be P w H h a o
end
section
variable {H H':Hp} {o:HO}
theorem be.lt (x:be P w H h a o):a < h.objs.size:=by
 cases o with
 | lst xs=>obtain⟨_,_,_,_,e⟩:=x;exact Heap.lt_size e
 | tup xs=>obtain⟨_,_,_,p⟩:=x;exact p.lt
 | dK kvs=>obtain⟨_,_,_,_,o,_,_,e,_⟩:=x;exact Heap.lt_size e
 | dT kvs=>obtain⟨_,_,_,_,o,_,_,e,_⟩:=x;exact Heap.lt_size e
 | set S n=>obtain⟨o,_,_,_,e,_⟩:=x;exact Heap.lt_size e
 | ins C dx fs=>obtain⟨_,_,_,e,_⟩:=x;exact Heap.lt_size e
 | own y=>obtain⟨_,e⟩:=x;exact Heap.lt_size e
 | xd fs=>obtain⟨_,⟨_,_,_,e,_⟩,_⟩:=x;exact Heap.lt_size e
 | rng lo hi=>obtain⟨_,_,_,e⟩:=x;exact Heap.lt_size e
 | frz ob u=>obtain⟨e,_⟩:=x;exact Heap.lt_size e
 | tbl ps=>exact Heap.lt_size (show h.get? a=some _ from x)
 | tab q=>obtain⟨_,e,_⟩:=x;exact Heap.lt_size e
 | met f y=>exact Heap.lt_size (show h.get? a=some _ from x)
 | ext φ=>obtain⟨_,⟨_,e⟩,_⟩:=x;exact Heap.lt_size e
theorem Paired.mapP {α β:Type} {F G:α→β→Prop} : ∀{l₁:List α} {l₂:List β},Paired F l₁ l₂→(∀a b,F a b→G a b)→Paired G l₁ l₂
 | _,_,.nil,_=>.nil
 | _,_,.cons r t,f=>.cons (f _ _ r) (Paired.mapP t f)
theorem be.stay (x:be P w H h a o) (k : ∀b u,(b=a∨H b=some (.own a))→h.get? b=some u→h'.get? b=some u)
  (ho : ∀b,H b=some (.own a)→H' b=some (.own a)) (ht : ∀b xs,H b=some (.tup xs)→H' b=some (.tup xs)) (hz : ∀b o y,H b=some (.frz o (.own y))→H' b=some (.frz o (.own y)):=by exact fun _ _ _ q=>q):be P w H' h' a o:=by
 induction o with
 | lst xs=>obtain⟨z,its,n,r,e⟩:=x;exact⟨z,its,n,r,k _ _ (.inl rfl) e⟩
 | tup xs=>obtain⟨z,its,r,ob,e,c⟩:=x;exact⟨z,its,r,ob,k _ _ (.inl rfl) e,c⟩
 | dK kvs=>obtain⟨z,y,vs,r,ob,es,ep,e,c⟩:=x;exact⟨z,y,vs,r,ob,es,ep,k _ _ (.inl rfl) e,c⟩
 | dT kvs =>
  obtain⟨z,y,xs,r,ob,es,ep,e,c⟩:=x;exact⟨z,y,xs,Paired.mapP r fun p q z=>⟨z.1,ht _ _ z.2.1,z.2.2⟩,ob,es,ep,k _ _ (.inl rfl) e,c⟩
 | set S n=>obtain⟨ob,es,ep,t,e,c⟩:=x;exact⟨ob,es,ep,t,k _ _ (.inl rfl) e,c⟩
 | ins C dx fs =>
  obtain⟨d,z,ne,e,mA,⟨od,es,ep,e2,c⟩,r⟩:=x;exact⟨ho _ d,z,ne,k _ _ (.inl rfl) e,mA,⟨od,es,ep,k _ _ (.inr d) e2,c⟩,r⟩
 | own y=>obtain⟨ob,e⟩:=x;exact⟨ob,k _ _ (.inl rfl) e⟩
 | xd fs=>obtain⟨mA,⟨od,es,ep,e,c⟩,r⟩:=x;exact⟨mA,⟨od,es,ep,k _ _ (.inl rfl) e,c⟩,r⟩
 | rng lo hi=>obtain⟨t,u,v,e⟩:=x;exact⟨t,u,v,k _ _ (.inl rfl) e⟩
 | frz ob u ih=>obtain⟨e,q⟩:=x;exact⟨k _ _ (.inl rfl) e,ih q⟩
 | tbl ps =>
  have e:h.get? a=some { cls:=.none,data:=.fields ps }:=x
  show h'.get? a=some { cls:=.none,data:=.fields ps }
  exact k a _ (.inl rfl) e
 | tab q =>
  obtain⟨ps,e,t,hc⟩:=x;refine⟨ps,k _ _ (.inl rfl) e,t,fun pos cv z=>?_⟩
  obtain⟨c,oc,ec,ne,hw,hq⟩:=hc pos cv z;exact⟨c,oc,ec,ne,hz _ _ _ hw,hq⟩
 | met f y =>
  have e:h.get? a=some (methodObj (.ref f) (.ref y)):=x
  show h'.get? a=some (methodObj (.ref f) (.ref y))
  exact k a _ (.inl rfl) e
 | ext φ=>obtain⟨p,⟨o,e⟩,st⟩:=x;exact⟨st _ _ p fun o q=>k _ _ (.inl rfl) q,⟨o,k _ _ (.inl rfl) e⟩,st⟩
theorem HOk.lt (x:HOk P w H h) (e:H a=some o):a < h.objs.size:=(x a o e).lt
theorem HOk.fresh (x:HOk P w H h) (e:h.objs.size≤a):H a=none:=by
 cases q:H a with
 | none=>rfl
 | some u=>exact absurd (lt_of_lt_of_le (x.lt q) e) (lt_irrefl _)
theorem HOk.kept (x:HOk P w H h) (k : ∀b u,h.get? b=some u→h'.get? b=some u):HOk P w H h':=fun a o e =>
 (x a o e).stay (fun b u _ q=>k b u q) (fun _ q=>q) fun _ _ q=>q
theorem HOk.laid (x:HOk P w H h) (k : ∀b u,h.get? b=some u→h'.get? b=some u) (hp:h.objs.size≤a) (new:be P w (upd H a o) h' a o):HOk P w (upd H a o) h':=fun b u e=>by
 have hn:=x.fresh hp
 by_cases hb:b=a
 ·subst hb;rw[ab] at e;cases e;exact new
 ·rw[ag hb] at e
  exact(x b u e).stay (fun c v _ q=>k c v q) (fun c q=>by rw[ag (aj q hn)];exact q) (fun c xs q=>by rw[ag (aj q hn)];exact q) fun c _ _ q=>by rw[ag (aj q hn)];exact q
end
noncomputable def Rd (H:Hp) (a:Addr) (u:HO):Prop:=H a=some u∨∃o,H a=some (.frz o u)
theorem Rd.ok {H:Hp} {u:HO} (r:Rd H a u) (x:HOk P w H h):be P w H h a u:=by
 rcases r with r | ⟨o,r⟩
 ·exact x a u r
 ·obtain⟨_,q⟩:=x a _ r
  exact q
noncomputable def Mut:Option HO→Prop
 | some (.lst _)=>True
 | some (.dK _)=>True
 | some (.dT _)=>True
 | some (.set _ _)=>True
 | some (.ins _ _ _)=>True
 | some (.ext _)=>True
 | some (.tab _)=>True
 | _=>False
section
variable {H:Hp} {x e:Addr} {o':HO}
theorem HOk.write (ok:HOk P w H h) (mu:Mut (H x)) (he:e=x∨H e=some (.own x)) (k : ∀b u,b≠e→h.get? b=some u→h'.get? b=some u) (heo : ∃u,h'.get? e=some u)
  (new:be P w (upd H x o') h' x o'):HOk P w (upd H x o') h':=fun b u q=>by
 have nown : ∀c y,H c=some (.own y)→c≠x:=fun c y r z=>by subst z;rw[r] at mu;exact mu
 have ntup : ∀c xs,H c=some (.tup xs)→c≠x:=fun c xs r z=>by subst z;rw[r] at mu;exact mu
 by_cases hb:b=x
 ·subst hb;rw[ab] at q;cases q;exact new
 ·rw[ag hb] at q
  by_cases hbe:b=e
  ·have q':H b=some (.own x):=by
    rcases he with z | z
    ·exact absurd (hbe.trans z) hb
    ·rw[hbe];exact z
   rw[q] at q';cases q';obtain⟨v,hv⟩:=heo;exact⟨v,by rw[hbe];exact hv⟩
  ·refine(ok b u q).stay (fun c v hc r=>k c v ?_ r) (fun c r=>by rw[ag (nown c b r)];exact r) (fun c xs r=>by rw[ag (ntup c xs r)];exact r) fun c _ _ r=>by rw[ag (fun z=>by subst z;rw[r] at mu;exact mu)];exact r
   rcases hc with rfl | hc
   ·exact hbe
   ·rintro rfl
    rcases he with z | z
    ·exact nown c b hc z
    ·rw[hc] at z;cases z;exact hb rfl
end
structure Un (fs ex:List Addr) (H H':Hp) (h h':Heap):Prop where
 keep : ∀b o,h.get? b=some o→H b=none→b∉fs→b∉ex→h'.get? b=some o
 slot : ∀b o,h.get? b=some o→H b=none→b∈fs→b∉ex→∃sl,h'.get? b=some { o with slots:=sl }
 free : ∀b o,h.get? b=some o→H b=none→b∉ex→H' b=none
 there : ∀b o,h.get? b=some o→b∉ex→∃o',h'.get? b=some o'
 tups : ∀b xs,H b=some (.tup xs)→H' b=some (.tup xs)
 frzs : ∀b o u,H b=some (.frz o u)→H' b=some (.frz o u)
 tbls : ∀b ps,H b=some (.tbl ps)→∃more,H' b=some (.tbl (ps++more))
section
variable {fs fs' ex ex':List Addr} {H H1 H2:Hp} {h1 h2:Heap} {x e:Addr} {o:HO}
theorem Un.any (u:Un fs ex H H1 h h1) {b:Addr} {ob:Obj} (q:h.get? b=some ob) (n:H b=none) (hx:b∉ex) : ∃sl,h1.get? b=some { ob with slots:=sl }:=by
 by_cases hb:b∈fs
 ·exact u.slot b ob q n hb hx
 ·exact⟨ob.slots,u.keep b ob q n hb hx⟩
theorem Un.kept (k : ∀b u,h.get? b=some u→h'.get? b=some u):Un fs ex H H h h' :=
 ⟨fun b ob q _ _ _=>k b ob q,fun b ob q _ _ _=>⟨ob.slots,k b ob q⟩,fun _ _ _ n _=>n,fun b ob q _=>⟨ob,k b ob q⟩,fun _ _ q=>q,fun _ _ _ q=>q,fun _ ps q=>⟨#[],by rw[q];simp⟩⟩
theorem Un.refl:Un fs ex H H h h:=Un.kept fun _ _ q=>q
theorem Un.laid (k : ∀b u,h.get? b=some u→h'.get? b=some u) (hp:h.objs.size≤a) (hn:H a=none):Un fs ex H (upd H a o) h h' where
 keep:=fun b u q _ _ _=>k b u q
 slot:=fun b u q _ _ _=>⟨u.slots,k b u q⟩
 free:=fun b u q n _=>by rw[ag (ne_of_lt (lt_of_lt_of_le (Heap.lt_size q) hp))];exact n
 there:=fun b u q _=>⟨u,k b u q⟩
 tups:=fun b xs q=>by rw[ag (aj q hn)];exact q
 frzs:=fun b u xs q=>by rw[ag (aj q hn)];exact q
 tbls:=fun b ps q=>⟨#[],by rw[ag (aj q hn),q];simp⟩
theorem Un.write (mu:Mut (H x)) (he:e=x∨H e=some (.own x)) (k : ∀b u,b≠e→h.get? b=some u→h'.get? b=some u) (heo : ∃u,h'.get? e=some u):Un fs ex H (upd H x o) h h':=by
 have hx : ∀b,H b=none→b≠x:=fun b n z=>by subst z;rw[n] at mu;exact mu
 have hb : ∀b,H b=none→b≠e:=fun b n z=>by
  subst z;rcases he with r | r
  ·exact hx b n r
  ·rw[n] at r;cases r
 have hm : ∀b u,H b=some u→¬ Mut (some u)→b≠x:=fun b u q nm z=>by subst z;rw[q] at mu;exact nm mu
 refine⟨fun b u q n _ _=>k b u (hb b n) q,fun b u q n _ _=>⟨u.slots,k b u (hb b n) q⟩,fun b u q n _=>by rw[ag (hx b n)];exact n,fun b u q _=>?_,
  fun b xs q=>by rw[ag (hm b _ q fun z=>z)];exact q,fun b u xs q=>by rw[ag (hm b _ q fun z=>z)];exact q,fun b ps q=>⟨#[],by rw[ag (hm b _ q fun z=>z),q];simp⟩⟩
 by_cases hbe:b=e
 ·subst hbe;exact heo
 ·exact⟨u,k b u hbe q⟩
end
noncomputable def trk (h:Heap) (H:Hp):List Addr:=(range h.objs.size).filter fun a=>(H a).isSome
noncomputable def oA (h:Heap) (H:Hp):Heap:=PySem.W.hideAll h (trk h H)
theorem xo (h:Heap) (H:Hp):(oA h H).objs.size=h.objs.size:=PySem.W.hideAll_size _ _
theorem yp {H:Hp} {o:Obj} (e:h.get? b=some o) (n:H b=none):(oA h H).get? b=some o :=
 PySem.W.hideAll_get _ e fun hm=>by
  have q:(H b).isSome=true:=(mem_filter.mp hm).2
  rw[n] at q;simp at q
theorem zU {H:Hp} {o:Obj} (e:(oA h H).get? b=some o):h.get? b=some o∧H b=none:=by
 have e':h.get? b=some o:=PySem.W.of_hideAll (trk h H) e
 refine⟨e',?_⟩
 cases q:H b with
 | none=>rfl
 | some x =>
  have hm:b∈trk h H:=mem_filter.mpr ⟨mem_range.mpr (Heap.lt_size e'),by simp[q]⟩
  have z:(oA h H).get? b=none:=PySem.W.hideAll_none (trk h H) hm
  rw[z] at e;cases e
structure Mod (K:PySem.W.Frag) (mg:Str→Option Value) (base:Heap):Prop where
 kin:K.In base
 glob:base.Ns mainGlobals mg
 blt : ∃mb,base.Ns builtinsNs mb∧∀x:Str,x ≠ "__name__" → mb x=bootBuiltins x
 nolimit:base.NoLimit
structure Cx where
 prog:Program
 w:World
 K:PySem.W.Frag
 mg:Str→Option Value
 base:Heap
 A:Around
 N:List Str
 s₀:Shared
 H₀:Hp
 env:Env
 outer:List Env
 stack:List Env
 ex:List Addr
 fn:Str→Bool
 calm:Bool
 pn:List (Addr × Obj)
 xe:Value→Shared→Prop
noncomputable def frs (l:List Env):List Addr:=l.filterMap (·.frame)
noncomputable abbrev Cx.fs (X:Cx):List Addr:=frs X.outer
noncomputable def Vis (sc:Scope) (x:Str):Prop:=sc.names.lookup x=some .local∨sc.names.lookup x=some .cell∨sc.names.lookup x=some .free
noncomputable def Loc (sc:Scope) (x:Str):Prop:=sc.names.lookup x=some .local∨sc.names.lookup x=some .cell
noncomputable def EN (env:Env) (h:Heap) (m:Str→Option Value) (x:Str) (u:Value):Prop :=
 (env.kindOf x=some .local∧m x=some u)∨((env.kindOf x=some .cell∨env.kindOf x=some .free)∧∃c,env.cells.lookup x=some c∧h.IsCell c (some u))
structure Cx.Ok (X:Cx):Prop where
 mod:Mod X.K X.mg X.base
 kind:X.env.scope.kind = .function
 glob:X.env.globals=mainGlobals
 blt:X.env.builtins=builtinsNs
 above:X.s₀.heap.objs.size≤X.env.locals
 inj : ∀x y c,X.env.cells.lookup x=some c→X.env.cells.lookup y=some c→x=y
 has : ∀x,(X.env.kindOf x=some .cell∨X.env.kindOf x=some .free)→∃c,X.env.cells.lookup x=some c
 cab : ∀x c,X.fn x=true→X.env.cells.lookup x=some c→X.s₀.heap.objs.size≤c
 hd:X.calm=true→X.A.handled=none
 frames:X.A.frames=some X.stack
 stk:X.stack=X.outer∨(X.stack=X.env :: X.outer∧X.env.frame=some X.env.locals)
 exf : ∀b∈X.ex,b≠X.env.locals∧∀x c,X.env.cells.lookup x=some c→c≠b
 bs : ∀b o,X.base.get? b=some o→X.s₀.heap.get? b=some o∧X.H₀ b=none
 bsz:X.base.objs.size≤X.s₀.heap.objs.size
 noex : ∀b o,X.base.get? b=some o→b∉X.ex
 exfs : ∀b∈X.ex,b∉X.fs
 funs:X.s₀.heap.FunFrames X.base X.outer
 frf : ∀b∈X.fs,X.H₀ b=none
structure Inv (X:Cx) (pins:List (Addr × Obj)) (σ:List (Option V)) (H:Hp) (s:Shared):Prop where
 ok:X.Ok
 os:s.os=X.s₀.os
 bare:AllBare s.gens
 base:Un X.fs X.ex X.H₀ H X.s₀.heap s.heap
 loc : ∃m,s.heap.Ns X.env.locals m∧∀(i:Nat) (x:Str) (v:V),X.N[i]? = some x→σ[i]? = some (some v)→Vis X.env.scope x→∃u,aX v u∧EN X.env s.heap m x u
 cell : ∀x c,X.env.cells.lookup x=some c→∃v,s.heap.IsCell c v
 free:H X.env.locals=none
 freeC : ∀x c,X.env.cells.lookup x=some c→H c=none
 pin : ∀p∈X.pn++pins,s.heap.get? p.1=some p.2∧H p.1=none∧p.1≠X.env.locals∧p.1∉X.fs∧∀v,p.2.data≠.cell v
 hok:HOk X.prog X.w H s.heap
 len:σ.length=X.N.length
section
variable {X:Cx} {σ:List (Option V)} {H H':Hp}
theorem Cx.Ok.nofr (ok:X.Ok) {b:Addr} {o:Obj} (e:X.base.get? b=some o):b∉X.fs:=fun hb=>by
 have:=(ok.funs.mem hb).1
 rw[e] at this;cases this
theorem Inv.bs (I:Inv X pins σ H s) : ∀b o,X.base.get? b=some o→s.heap.get? b=some o∧H b=none:=fun b o e =>
 ⟨I.base.keep b o (I.ok.bs b o e).1 (I.ok.bs b o e).2 (I.ok.nofr e) (I.ok.noex b o e),I.base.free b o (I.ok.bs b o e).1 (I.ok.bs b o e).2 (I.ok.noex b o e)⟩
theorem Inv.bk (I:Inv X pins σ H s) : ∀b o,X.base.get? b=some o→s.heap.get? b=some o:=fun b o e=>(I.bs b o e).1
theorem Inv.mod (I:Inv X pins σ H s):Mod X.K X.mg X.base:=I.ok.mod
theorem Inv.kIn (I:Inv X pins σ H s):X.K.In s.heap:=I.ok.mod.kin.keeps I.bk
theorem Inv.nolimit (I:Inv X pins σ H s):s.heap.NoLimit:=I.ok.mod.nolimit.keeps I.bk
theorem Inv.lt (I:Inv X pins σ H s):X.env.locals < s.heap.objs.size:=let ⟨_,hn,_⟩:=I.loc;hn.lt
theorem Inv.sz (I:Inv X pins σ H s):X.s₀.heap.objs.size≤s.heap.objs.size:=le_trans I.ok.above (le_of_lt I.lt)
theorem Inv.nofs (I:Inv X pins σ H s) {a:Addr} (h:s.heap.objs.size≤a):a∉X.fs:=fun hb=>by
 obtain⟨_,o,ho,_⟩:=I.ok.funs.mem hb;exact absurd (lt_of_lt_of_le (Heap.lt_size ho) (le_trans I.sz h)) (lt_irrefl _)
theorem Inv.cne (I:Inv X pins σ H s) : ∀x c,X.env.cells.lookup x=some c→c≠X.env.locals:=fun x c e z=>by
 obtain⟨v,o,ho,hd⟩:=I.cell x c e;obtain⟨m,⟨o',es,ep,ho',hd',_⟩,_⟩:=I.loc;rw[z,ho'] at ho;cases ho;rw[hd'] at hd;cases hd
theorem Inv.funs (I:Inv X pins σ H s):s.heap.FunFrames X.base X.outer:=by
 have all : ∀(l:List Env),(∀b∈frs l,b∈X.fs)→X.s₀.heap.FunFrames X.base l→s.heap.FunFrames X.base l:=by
  intro l
  induction l with
  | nil=>intro _ _;trivial
  | cons env r ih =>
   intro hs hl;obtain⟨hk,⟨L,o,hf,hn,ho,hd⟩,hr⟩:=hl;have hL:L∈X.fs:=hs L (by unfold frs;rw[List.filterMap_cons,hf];exact mem_cons_self)
   obtain⟨sl,e⟩:=I.base.slot L o ho (I.ok.frf L hL) hL fun z=>I.ok.exfs L z hL
   exact⟨hk,⟨L,_,hf,hn,e,hd⟩,ih (fun b hb=>hs b (by unfold frs;rw[List.filterMap_cons,hf];exact mem_cons_of_mem _ hb)) hr⟩
 exact all X.outer (fun _ hb=>hb) I.ok.funs
theorem Inv.stack (I:Inv X pins σ H s):s.heap.FunFrames X.base X.stack:=by
 rcases I.ok.stk with e | ⟨e,hf⟩
 ·rw[e];exact I.funs
 ·rw[e]
  obtain⟨m,hn,_⟩:=I.loc;refine .cons (by rw[I.ok.kind];decide) hf hn ?_ I.funs
  exact Heap.get?_none_of_le (le_trans I.ok.bsz I.ok.above)
theorem Inv.stkSub (I:Inv X pins σ H s) : ∀b∈frs X.stack,b∈X.env.locals :: X.fs:=fun b hb=>by
 rcases I.ok.stk with e | ⟨e,hf⟩
 ·rw[e] at hb;exact mem_cons_of_mem _ hb
 ·rw[e] at hb
  unfold frs at hb;rw[List.filterMap_cons,hf] at hb;exact hb
theorem Inv.stkFree (I:Inv X pins σ H s) : ∀b∈frs X.stack,H b=none:=fun b hb=>by
 rcases mem_cons.mp (I.stkSub b hb) with e | hb
 ·rw[e];exact I.free
 ·obtain⟨_,o,ho,_⟩:=I.ok.funs.mem hb
  exact I.base.free b o ho (I.ok.frf b hb) fun z=>I.ok.exfs b z hb
theorem Inv.step (I:Inv X pins σ H s)
  (hch : ∀b∈ch,(b∈X.ex∨X.s₀.heap.objs.size≤b)∧b≠X.env.locals∧(∀x c,X.env.cells.lookup x=some c→c≠b)∧∀p∈X.pn++pins,p.1≠b)
  (keep : ∀b o,b≠X.env.locals→b∉X.fs→b∉ch→s.heap.get? b=some o→H b=none→h'.get? b=some o)
  (slot : ∀b o,b≠X.env.locals→b∈X.fs→b∉ch→s.heap.get? b=some o→H b=none→∃sl,h'.get? b=some { o with slots:=sl }) (free : ∀b o,b∉ch→s.heap.get? b=some o→H b=none→H' b=none)
  (there : ∀b o,b∉ch→s.heap.get? b=some o→∃o',h'.get? b=some o')
  (tups : ∀b xs,H b=some (.tup xs)→H' b=some (.tup xs)) (frzs : ∀b o u,H b=some (.frz o u)→H' b=some (.frz o u)) (tbls : ∀b ps,H b=some (.tbl ps)→∃more,H' b=some (.tbl (ps++more)))
  (ns : ∀m,s.heap.Ns X.env.locals m→h'.Ns X.env.locals m) (hok:HOk X.prog X.w H' h') (hg:AllBare g') :
  Inv X pins σ H' { s with heap:=h',gens:=g',drawn:=d',toks:=t' }:=by
 have neL : ∀b o,X.s₀.heap.get? b=some o→b≠X.env.locals:=fun b o e=>ne_of_lt (lt_of_lt_of_le (Heap.lt_size e) I.ok.above)
 have neC : ∀b o,X.s₀.heap.get? b=some o→b∉X.ex→b∉ch:=fun b o e hx hb=>by
  rcases (hch b hb).1 with z | z
  ·exact hx z
  ·exact absurd (lt_of_lt_of_le (Heap.lt_size e) z) (lt_irrefl _)
 have cellK : ∀x c,X.env.cells.lookup x=some c→∀v,s.heap.IsCell c v→h'.IsCell c v:=fun x c e v ⟨o,ho,hd⟩=>by
  have nch:c∉ch:=fun z=>(hch c z).2.2.1 x c e rfl
  by_cases hc:c∈X.fs
  ·obtain⟨sl,q⟩:=slot c o (I.cne x c e) hc nch ho (I.freeC x c e)
   exact⟨_,q,hd⟩
  ·exact⟨o,keep c o (I.cne x c e) hc nch ho (I.freeC x c e),hd⟩
 refine⟨I.ok,I.os,hg,⟨fun b o e n hb hx=>?_,fun b o e n hb hx=>?_,fun b o e n hx=>?_,fun b o e hx=>?_,fun b xs e=>tups b xs (I.base.tups b xs e),fun b o xs e=>frzs b o xs (I.base.frzs b o xs e),fun b ps e=>?_⟩,?_,fun x c e=>?_,?_,fun x c e=>?_,fun p hp=>?_,hok,I.len⟩
 ·exact keep b o (neL b o e) hb (neC b o e hx) (I.base.keep b o e n hb hx) (I.base.free b o e n hx)
 ·obtain⟨sl,e1⟩:=I.base.slot b o e n hb hx
  obtain⟨sl',e2⟩:=slot b _ (neL b o e) hb (neC b o e hx) e1 (I.base.free b o e n hx);exact⟨sl',e2⟩
 ·obtain⟨o',e1⟩:=I.base.there b o e hx
  exact free b o' (neC b o e hx) e1 (I.base.free b o e n hx)
 ·obtain⟨o',e1⟩:=I.base.there b o e hx
  exact there b o' (neC b o e hx) e1
 ·obtain⟨m1,e1⟩:=I.base.tbls b ps e
  obtain⟨m2,e2⟩:=tbls b _ e1;exact⟨m1++m2,by rw[e2,Array.append_assoc]⟩
 ·obtain⟨m,hn,hl⟩:=I.loc
  refine⟨m,ns m hn,fun i x v e1 e2 e3=>?_⟩
  obtain⟨u,r,l⟩:=hl i x v e1 e2 e3;refine⟨u,r,?_⟩
  rcases l with l | ⟨k,c,e,z⟩
  ·exact .inl l
  ·exact .inr ⟨k,c,e,cellK x c e _ z⟩
 ·obtain⟨v,z⟩:=I.cell x c e
  exact⟨v,cellK x c e v z⟩
 ·obtain⟨m,⟨o,_,_,ho,_⟩,_⟩:=I.loc
  exact free _ o (fun z=>(hch _ z).2.1 rfl) ho I.free
 ·obtain⟨v,o,ho,hd⟩:=I.cell x c e
  exact free c o (fun z=>(hch c z).2.2.1 x c e rfl) ho (I.freeC x c e)
 ·obtain⟨e,n,ne,nf,d⟩:=I.pin p hp
  have nch:p.1∉ch:=fun z=>(hch p.1 z).2.2.2 p hp rfl
  exact⟨keep p.1 p.2 ne nf nch e n,free p.1 p.2 nch e n,ne,nf,d⟩
theorem Inv.un (I:Inv X pins σ H s) (u:Un X.fs [] H H' s.heap h') (hok:HOk X.prog X.w H' h'):Inv X pins σ H' { s with heap:=h',toks:=t' }:=by
 obtain⟨m,⟨o,es,ep,ho,r⟩,_⟩:=id I.loc;obtain⟨sl,hL⟩:=u.any ho I.free (by simp)
 exact I.step (g':=s.gens) (d':=s.drawn) (ch:=[]) (fun _ z=>nomatch z) (fun b o _ hb _ e n=>u.keep b o e n hb (by simp)) (fun b o _ hb _ e n=>u.slot b o e n hb (by simp)) (fun b o _ e n=>u.free b o e n (by simp)) (fun b o _ e=>u.there b o e (by simp)) u.tups u.frzs u.tbls (fun m' hm=>by
  obtain⟨o',es',ep',ho',r'⟩:=hm;rw[ho] at ho';cases ho';exact⟨_,es',ep',hL,r'⟩) hok I.bare
theorem Inv.call (I:Inv X pins σ H s) (u:Un (frs X.stack) ch H H' s.heap h') (hok:HOk X.prog X.w H' h') (hg:AllBare g')
  (hch : ∀b∈ch,(b∈X.ex∨X.s₀.heap.objs.size≤b)∧b≠X.env.locals∧(∀x c,X.env.cells.lookup x=some c→c≠b)∧∀p∈X.pn++pins,p.1≠b) :
  Inv X pins σ H' { s with heap:=h',gens:=g',drawn:=d',toks:=t' }:=by
 obtain⟨m,⟨o,es,ep,ho,r⟩,_⟩:=id I.loc;obtain⟨sl,hL⟩:=u.any ho I.free fun z=>(hch _ z).2.1 rfl
 exact I.step (ch:=ch) hch (fun b o hL hb hc e n=>u.keep b o e n (fun z=>(mem_cons.mp (I.stkSub b z)).elim hL hb) hc) (fun b o _ _ hc e n=>u.any e n hc) (fun b o hc e n=>u.free b o e n hc) (fun b o hc e=>u.there b o e hc) u.tups u.frzs u.tbls (fun m' hm=>by
  obtain⟨o',es',ep',ho',r'⟩:=hm;rw[ho] at ho';cases ho';exact⟨_,es',ep',hL,r'⟩) hok hg
theorem Inv.turned (I:Inv X pins σ H s) (k : ∀b o,b≠it→s.heap.get? b=some o→h'.get? b=some o) (hn:H it=none) (hL:it≠X.env.locals)
  (h1:it∈X.ex∨X.s₀.heap.objs.size≤it) (h2 : ∀x c,X.env.cells.lookup x=some c→c≠it) (h3 : ∀p∈X.pn++pins,p.1≠it):Inv X pins σ H { s with heap:=h',toks:=t' }:=by
 have nit : ∀b u,H b=some u→b≠it:=fun b u e z=>by rw[z,hn] at e;cases e
 refine I.step (g':=s.gens) (d':=s.drawn) (ch:=[it]) (fun b hb=>?_) (fun b o _ _ hc e _=>k b o (fun z=>hc (by simp[z])) e) (fun b o _ _ hc e _=>⟨o.slots,k b o (fun z=>hc (by simp[z])) e⟩) (fun _ _ _ _ n=>n)
  (fun b o hc e=>⟨o,k b o (fun z=>hc (by simp[z])) e⟩) (fun _ _ e=>e) (fun _ _ _ e=>e) (fun b ps e=>⟨#[],by rw[e];simp⟩) (fun m hm=>?_) (fun b u e=>?_) I.bare
 ·have e:b=it:=by simpa using hb
  subst e;exact⟨h1,hL,h2,h3⟩
 ·obtain⟨o,es,ep,ho,r⟩:=hm
  exact⟨o,es,ep,k _ o (Ne.symm hL) ho,r⟩
 ·refine(I.hok b u e).stay (fun c v hc q=>k c v ?_ q) (fun _ q=>q) fun _ _ q=>q
  rcases hc with z | z
  ·rw[z];exact nit b u e
  ·exact nit c _ z
theorem Inv.tok (I:Inv X pins σ H s) (t:Nat):Inv X pins σ H { s with toks:=t }:=I.un (h':=s.heap) (t':=t) Un.refl I.hok
theorem Inv.kept {t':Nat} (I:Inv X pins σ H s) (k : ∀b u,s.heap.get? b=some u→h'.get? b=some u):Inv X pins σ H { s with heap:=h',toks:=t' }:=I.un (Un.kept k) (I.hok.kept k)
theorem Inv.laid {a:Addr} {o:HO} {t':Nat} (I:Inv X pins σ H s) (k : ∀b u,s.heap.get? b=some u→h'.get? b=some u) (hp:s.heap.objs.size≤a) (new:be X.prog X.w (upd H a o) h' a o) :
  Inv X pins σ (upd H a o) { s with heap:=h',toks:=t' }:=I.un (Un.laid k hp (I.hok.fresh hp)) (I.hok.laid k hp new)
theorem Inv.write {x e:Addr} {o:HO} {t':Nat} (I:Inv X pins σ H s) (mu:Mut (H x)) (he:e=x∨H e=some (.own x)) (k : ∀b u,b≠e→s.heap.get? b=some u→h'.get? b=some u) (heo : ∃u,h'.get? e=some u)
  (new:be X.prog X.w (upd H x o) h' x o):Inv X pins σ (upd H x o) { s with heap:=h',toks:=t' }:=I.un (Un.write mu he k heo) (I.hok.write mu he k heo new)
theorem Inv.weak {σ':List (Option V)} (I:Inv X pins σ H s) (hl:σ'.length=σ.length) (w : ∀(i:Nat) v,σ'[i]? = some (some v)→σ[i]? = some (some v)):Inv X pins σ' H s :=
 ⟨I.ok,I.os,I.bare,I.base,let ⟨m,hn,hl'⟩:=I.loc;⟨m,hn,fun i x v e1 e2 e3=>hl' i x v e1 (w i v e2) e3⟩,I.cell,I.free,I.freeC,I.pin,I.hok,hl.trans I.len⟩
theorem Inv.pins_of (I:Inv X pins σ H s) (h : ∀p∈pins',s.heap.get? p.1=some p.2∧H p.1=none∧p.1≠X.env.locals∧p.1∉X.fs∧∀v,p.2.data≠.cell v):Inv X pins' σ H s :=
 ⟨I.ok,I.os,I.bare,I.base,I.loc,I.cell,I.free,I.freeC,fun p hp=>(mem_append.mp hp).elim (fun z=>I.pin p (mem_append_left _ z)) (h p),I.hok,I.len⟩
theorem rM (hN:N.Nodup) {i j:Nat} {x:Str} (a:N[i]? = some x) (b:N[j]? = some x):i=j:=by
 obtain⟨h1,e1⟩:=List.getElem?_eq_some_iff.mp a;obtain⟨h2,e2⟩:=List.getElem?_eq_some_iff.mp b;exact(List.getElem_inj hN).mp (e1.trans e2.symm)
theorem pH {i:Nat} {v:V} {Q:Unit→Shared→Prop} (I:Inv X pins σ H s) (hN:X.N.Nodup) (hi:X.N[i]? = some x) (hx:Loc X.env.scope x) (r:aX v u)
  (h : ∀s',Inv X pins (σ.set i (some v)) H s'→(∃a,Heap.SameBut a s.heap s'.heap∧(a=X.env.locals∨X.env.cells.lookup x=some a))→Q () s') (hf:X.fn x=true∨X.env.scope.names.lookup x=some .local:=by first | exact .inl rfl | exact .inr rfl | assumption):wpAny M A (storeName X.env x u) Q E s:=by
 obtain⟨m,hn,hl⟩:=id I.loc;have hcls:(X.env.scope.kind == .class || (X.env.scope.kind == .module && X.env.locals != X.env.globals))=false:=by rw[I.ok.kind];rfl
 have hiσ:i < σ.length:=by rw[I.len];exact(List.getElem?_eq_some_iff.mp hi).1
 have cne:=I.cne;have tracked : ∀{a:Addr} {h':Heap},(∃o,s.heap.get? a=some o∧H a=none)→Heap.SameBut a s.heap h'→HOk X.prog X.w H h':=fun {a h'} ha hs b ob e=>by
  obtain⟨_,_,hfree⟩:=ha;refine(I.hok b ob e).stay (fun c w' hc q=>(hs.2 c ?_).trans q) (fun _ q=>q) fun _ _ q=>q
  rintro rfl
  rcases hc with rfl | hc
  ·rw[hfree] at e;cases e
  ·rw[hfree] at hc;cases hc
 rcases hx with hk | hk
 ·refine wpAny_storeName_local hk hn (fun h' hn' hs=>?_) hcls
  obtain⟨oL,_,_,hoL,_⟩:=id hn;refine h _ ⟨I.ok,I.os,I.bare,⟨fun b o e n hb hx=>?_,fun b o e n hb hx=>?_,I.base.free,fun b o e hx=>?_,I.base.tups,I.base.frzs,I.base.tbls⟩,⟨_,hn',fun j y v' e1 e2 e3=>?_⟩,fun y c e=>?_,I.free,I.freeC,fun p hp=>?_,tracked ⟨oL,hoL,I.free⟩ hs,by simpa using I.len⟩ ⟨_,hs,.inl rfl⟩
  ·exact(hs.2 b (ne_of_lt (lt_of_lt_of_le (Heap.lt_size e) I.ok.above))).trans (I.base.keep b o e n hb hx)
  ·obtain⟨sl,e1⟩:=I.base.slot b o e n hb hx
   exact⟨sl,(hs.2 b (ne_of_lt (lt_of_lt_of_le (Heap.lt_size e) I.ok.above))).trans e1⟩
  ·obtain⟨o',e1⟩:=I.base.there b o e hx
   exact⟨o',(hs.2 b (ne_of_lt (lt_of_lt_of_le (Heap.lt_size e) I.ok.above))).trans e1⟩
  ·by_cases hj:j=i
   ·subst hj
    rw[hi] at e1;cases e1;rw[List.getElem?_set_self hiσ] at e2;cases e2;exact⟨u,r,.inl ⟨hk,by simp⟩⟩
   ·rw[List.getElem?_set_ne (Ne.symm hj)] at e2
    obtain⟨u',r',q⟩:=hl j y v' e1 e2 e3;refine⟨u',r',?_⟩
    rcases q with⟨k,e⟩ | ⟨k,c,e,z⟩
    ·refine .inl ⟨k,?_⟩
     have:y≠x:=fun e=>hj (rM hN e1 (e ▸ hi))
     simp[this,e]
    ·exact .inr ⟨k,c,e,z.sameBut hs (cne y c e)⟩
  ·obtain⟨w',z⟩:=I.cell y c e
   exact⟨w',z.sameBut hs (cne y c e)⟩
  ·obtain⟨e,n,ne,nf,d⟩:=I.pin p hp
   exact⟨(hs.2 p.1 ne).trans e,n,ne,nf,d⟩
 ·have hfn:X.fn x=true:=by
   rcases hf with z | z
   ·exact z
   ·rw[z] at hk;cases hk
  obtain⟨c,hc⟩:=I.ok.has x (.inl hk);obtain⟨w',z⟩:=I.cell x c hc;refine wpAny_storeName_cell I.ok.kind hk hc z (fun h' hc' hs=>?_)
  obtain⟨oc,hoc,hocd⟩:=id z;refine h { s with heap:=h' } ⟨I.ok,I.os,I.bare,⟨fun b o e n hb hx=>?_,fun b o e n hb hx=>?_,I.base.free,fun b o e hx=>?_,I.base.tups,I.base.frzs,I.base.tbls⟩,⟨m,hn.sameBut hs (Ne.symm (cne x c hc)),fun j y v' e1 e2 e3=>?_⟩,fun y c' e=>?_,I.free,I.freeC,fun p hp=>?_,tracked ⟨oc,hoc,I.freeC x c hc⟩ hs,by simpa using I.len⟩ ⟨c,hs,.inr hc⟩
  ·exact(hs.2 b (ne_of_lt (lt_of_lt_of_le (Heap.lt_size e) (I.ok.cab x c hfn hc)))).trans (I.base.keep b o e n hb hx)
  ·obtain⟨sl,e1⟩:=I.base.slot b o e n hb hx
   exact⟨sl,(hs.2 b (ne_of_lt (lt_of_lt_of_le (Heap.lt_size e) (I.ok.cab x c hfn hc)))).trans e1⟩
  ·obtain⟨o',e1⟩:=I.base.there b o e hx
   exact⟨o',(hs.2 b (ne_of_lt (lt_of_lt_of_le (Heap.lt_size e) (I.ok.cab x c hfn hc)))).trans e1⟩
  ·by_cases hj:j=i
   ·subst hj
    rw[hi] at e1;cases e1;rw[List.getElem?_set_self hiσ] at e2;cases e2;exact⟨u,r,.inr ⟨.inl hk,c,hc,hc'⟩⟩
   ·rw[List.getElem?_set_ne (Ne.symm hj)] at e2
    obtain⟨u',r',q⟩:=hl j y v' e1 e2 e3;refine⟨u',r',?_⟩
    rcases q with q | ⟨k,c',e,z'⟩
    ·exact .inl q
    ·refine .inr ⟨k,c',e,z'.sameBut hs ?_⟩
     rintro rfl
     exact hj (rM hN e1 (I.ok.inj _ _ _ e hc ▸ hi))
  ·by_cases hcc:c'=c
   ·subst hcc;exact⟨_,hc'⟩
   ·obtain⟨w2,z2⟩:=I.cell y c' e
    exact⟨w2,z2.sameBut hs hcc⟩
  ·obtain⟨e,n,ne,nf,d⟩:=I.pin p hp
   refine⟨(hs.2 p.1 ?_).trans e,n,ne,nf,d⟩
   intro q;rw[q,hoc] at e;have q':oc=p.2:=Option.some.inj e
   exact d w' (by rw[← q'];exact hocd)
theorem rP {i:Nat} {v:V} {Q:Unit→Shared→Prop} (I:Inv X pins σ H s) (hN:X.N.Nodup) (hi:X.N[i]? = some x) (hx:Loc X.env.scope x) (r:aX v u)
  (h : ∀s',Inv X pins (σ.set i (some v)) H s'→Q () s') (hf:X.fn x=true∨X.env.scope.names.lookup x=some .local:=by first | exact .inl rfl | exact .inr rfl | assumption):wpAny M A (storeName X.env x u) Q E s :=
 pH I hN hi hx r (fun s' I' _=>h s' I') hf
theorem Inv.call' (I:Inv X pins σ H s) (ho:s'.os=s.os) (u:Un (frs X.stack) ch H H' s.heap s'.heap) (hok:HOk X.prog X.w H' s'.heap) (hg:AllBare s'.gens)
  (hch : ∀b∈ch,(b∈X.ex∨X.s₀.heap.objs.size≤b)∧b≠X.env.locals∧(∀x c,X.env.cells.lookup x=some c→c≠b)∧∀p∈X.pn++pins,p.1≠b):Inv X pins σ H' s':=by
 obtain⟨h',g',d',t',o'⟩:=s';have e:o'=s.os:=ho
 subst e;exact I.call (g':=g') (t':=t') (d':=d') u hok hg hch
end
noncomputable abbrev XK:=Value→Option Addr→Hp→Prop
noncomputable abbrev St:=List (Option V)
noncomputable abbrev VK:=V→Hp→Prop
noncomputable abbrev TE:=St→Hp→VK→Prop
noncomputable abbrev TT:=St→Hp→(Bool→Hp→Prop)→Prop
noncomputable abbrev TA:=St→Hp→(List V→Hp→Prop)→Prop
structure ll where
 nx:St→Hp→Prop
 rt:VK
 bk:St→Hp→Prop:=fun _ _=>False
 ct:St→Hp→Prop:=fun _ _=>False
noncomputable abbrev TS:=ll→St→Hp→Prop
noncomputable def EP (X:Cx) (pins:List (Addr × Obj)) (σ:St) (Q:VK) (u:Value) (s':Shared):Prop:=∃v H',Inv X pins σ H' s'∧aX v u∧Q v H'
noncomputable def TP (X:Cx) (pins:List (Addr × Obj)) (σ:St) (Q:Bool→Hp→Prop) (b:Bool) (s':Shared):Prop:=∃H',Inv X pins σ H' s'∧Q b H'
noncomputable def AP (X:Cx) (pins:List (Addr × Obj)) (σ:St) (Q:List V→Hp→Prop) (us:List Value) (s':Shared):Prop:=∃vs H',Inv X pins σ H' s'∧aT vs us∧Q vs H'
noncomputable def SP (X:Cx) (pins:List (Addr × Obj)) (D:ll) (f:Flow) (s':Shared):Prop :=
 match f with
 | .next=>∃ σ' H',Inv X pins σ' H' s'∧D.nx σ' H'
 | .brk=>∃ σ' H',Inv X pins σ' H' s'∧D.bk σ' H'
 | .cont=>∃ σ' H',Inv X pins σ' H' s'∧D.ct σ' H'
 | .ret u=>∃v σ' H',Inv X pins σ' H' s'∧aX v u∧D.rt v H'
namespace Irr
set_option allowUnsafeReducibility true in
@[scoped irreducible] def _root_.L2.PE (X:Cx) (e:Expr) (t:TE):Prop :=
 ∀(pins:List (Addr × Obj)) (s:Shared) (σ:St) (H:Hp) (Q:VK),Inv X pins σ H s→t σ H Q→wpAny (model X.prog X.w) X.A (eval e X.env) (EP X pins σ Q) X.xe s
end Irr
namespace Irr
set_option allowUnsafeReducibility true in
@[scoped irreducible] def _root_.L2.PT (X:Cx) (e:Expr) (t:TT):Prop :=
 ∀(pins:List (Addr × Obj)) (s:Shared) (σ:St) (H:Hp) (Q:Bool→Hp→Prop),Inv X pins σ H s→t σ H Q→wpAny (model X.prog X.w) X.A (isTrue e X.env (eval e X.env)) (TP X pins σ Q) X.xe s
end Irr
namespace Irr
set_option allowUnsafeReducibility true in
@[scoped irreducible] def _root_.L2.PW (X:Cx) (e:Expr) (t:TT):Prop :=
 ∀(whole:Sem Value) (pins:List (Addr × Obj)) (s:Shared) (σ:St) (H:Hp) (Q:Bool→Hp→Prop),Inv X pins σ H s→t σ H Q→wpAny (model X.prog X.w) X.A (isTrue e X.env whole) (TP X pins σ Q) X.xe s
end Irr
theorem PW.pt {X:Cx} {t:TT} (h:PW X e t):PT X e t:=h _
namespace Irr
set_option allowUnsafeReducibility true in
@[scoped irreducible] def _root_.L2.PA (X:Cx) (es:List Expr) (t:TA):Prop :=
 ∀(pos:Pos) (pins:List (Addr × Obj)) (s:Shared) (σ:St) (H:Hp) (Q:List V→Hp→Prop),Inv X pins σ H s→t σ H Q→wpAny (model X.prog X.w) X.A (spliced (backTo pos (starEach es X.env))) (AP X pins σ Q) X.xe s
end Irr
namespace Irr
set_option allowUnsafeReducibility true in
@[scoped irreducible] def _root_.L2.PS (X:Cx) (st:Stmt) (t:TS):Prop :=
 ∀(pins:List (Addr × Obj)) (s:Shared) (σ:St) (H:Hp) (D:ll),Inv X pins σ H s→t D σ H→wpAny (model X.prog X.w) X.A (exec st X.env) (SP X pins D) X.xe s
end Irr
namespace Irr
set_option allowUnsafeReducibility true in
@[scoped irreducible] def _root_.L2.PSs (X:Cx) (st:List Stmt) (t:TS):Prop :=
 ∀(pins:List (Addr × Obj)) (s:Shared) (σ:St) (H:Hp) (D:ll),Inv X pins σ H s→t D σ H→wpAny (model X.prog X.w) X.A (execs st X.env) (SP X pins D) X.xe s
end Irr
theorem thn {t:Sem α} {Q Q':α→Shared→Prop} (h:wpAny M A t Q E s) (hQ : ∀a s,Q a s→Q' a s):wpAny M A t Q' E s:=wpAny_mono h hQ fun _ _ x=>x
section
variable {X:Cx}
noncomputable def zY (i:Nat):TE:=fun σ H Q=>∃v,σ[i]? = some (some v)∧Q v H
noncomputable def tC (v:V):TE:=fun _ H Q=>Q v H
theorem Cf {i:Nat} (hN:X.N[i]? = some x) (hv:Vis X.env.scope x) (hd:(x ==("__debug__" : Str))=false:=by decide) (hcd:(x ==("__classdict__" : Str))=false:=by decide):PE X (.Name x pos) (zY i):=by
 intro pins s σ H Q I h;obtain⟨v,e,h⟩:=h;obtain⟨m,hn,hl⟩:=I.loc;obtain⟨u,r,l⟩:=hl i x v hN e hv;have fin:EP X pins σ Q u s:=⟨v,H,I,r,h⟩
 rcases l with⟨hk,hm⟩ | ⟨hk,c,hc,hcell⟩
 ·exact wpAny_Name (wpAny_loadName_local I.ok.kind hk hn hm fin) hd
 ·rcases hk with hk | hk
  ·exact wpAny_Name (wpAny_loadName_cell I.ok.kind hk hc hcell fin) hd
  ·exact wpAny_Name (wpAny_loadName_free I.ok.kind hk hc hcell fin hcd) hd
theorem ae {i j pos}:PE X (.Constant (.int i) j pos) (tC (.int i)):=fun _ _ _ H _ I h=>wpAny_Constant_int ⟨.int i,H,I.tok _,⟨_,rfl⟩,h⟩
theorem fL {b j pos}:PE X (.Constant (.bool b) j pos) (tC (.bl b)):=fun _ _ _ H _ I h=>Constant_bool ⟨.bl b,H,I,rfl,h⟩
theorem iX {j pos}:PE X (.Constant .none j pos) (tC .non):=fun _ _ _ H _ I h=>Constant_none ⟨.non,H,I,rfl,h⟩
theorem au {x j pos}:PE X (.Constant (.str x) j pos) (tC (.str x)):=fun _ _ _ H _ I h=>Calls.Constant_str ⟨.str x,H,I.tok _,⟨_,rfl⟩,h⟩
noncomputable def Gl (X:Cx) (x:Str):Prop:=X.env.kindOf x=some .globalImplicit
theorem qA {σ:St} {H:Hp} (I:Inv X pins σ H s) (hg:Gl X x) (hm:X.mg x=some u) (h:Q u s)
  (hd:(x ==("__debug__" : Str))=false:=by decide):wpAny (model X.prog X.w) X.A (eval (.Name x pos) X.env) Q E s :=
 Calls.Name_function_global I.ok.kind hg (Calls.loadGlobal_global (by rw[I.ok.glob];exact I.mod.glob.keeps I.bk) hm h) hd
theorem eE {σ:St} {H:Hp} (I:Inv X pins σ H s) (hg:Gl X x) (hm:X.mg x=none) (hv:bootBuiltins x=some u) (h:Q u s)
  (hn:x ≠ "__name__" := by decide) (hd:(x ==("__debug__" : Str))=false:=by decide):wpAny (model X.prog X.w) X.A (eval (.Name x pos) X.env) Q E s:=by
 obtain⟨mb,h1,h2⟩:=I.mod.blt;exact Calls.Name_function_global I.ok.kind hg (Calls.loadGlobal_builtin (by rw[I.ok.glob];exact I.mod.glob.keeps I.bk) hm (by rw[I.ok.blt];exact h1.keeps I.bk) ((h2 x hn).trans hv) h) hd
theorem At {v:V} (hg:Gl X x) (hm:X.mg x=none) (hv:bootBuiltins x=some u) (r:aX v u) (hn:x ≠ "__name__" := by decide) (hd:(x ==("__debug__" : Str))=false:=by decide):PE X (.Name x pos) (tC v) :=
 fun _ _ _ H _ I h=>eE I hg hm hv ⟨v,H,I,r,h⟩ hn hd
variable {a b:Expr} {ta tb:TE}
noncomputable def PC (X:Cx) (op:CmpOp) (a b:Expr) (t:TE):Prop :=
 ∀ (pins:List (Addr × Obj)) (s:Shared) (σ:St) (H:Hp) (Q:VK),Inv X pins σ H s→t σ H Q →
  wpAny (model X.prog X.w) X.A (eval a X.env) (fun v s₁=>wpAny (model X.prog X.w) X.A (eval b X.env) (fun u s₂=>wpAny (model X.prog X.w) X.A (compareOp op v u) (EP X pins σ Q) X.xe s₂) X.xe s₁) X.xe s
theorem se (b:Expr) {op:CmpOp} (h:op≠.In) (h2:op≠.NotIn):behindInMarks op b=false:=by
 have e1:(op == CmpOp.In)=false:=by cases op <;> first | rfl | exact absurd rfl h
 have e2:(op == CmpOp.NotIn)=false:=by cases op <;> first | rfl | exact absurd rfl h2
 cases b <;> simp[behindInMarks,e1,e2]
noncomputable def BI (ta:TE):TE:=fun σ H Q=>ta σ H fun x H1=>Q (.bl (decide (x = .non))) H1
noncomputable def wU (ta:TE):TE:=fun σ H Q=>ta σ H fun x H1=>Q (.bl (!decide (x = .non))) H1
theorem aX.none_iff {x:V} (r:aX x v):(v == Value.none)=decide (x = .non):=by
 cases x with
 | non=>cases r;rfl
 | bl _=>cases r;rfl
 | int _=>obtain⟨t,rfl⟩:=r;rfl
 | str _=>obtain⟨t,rfl⟩:=r;rfl
 | byt _=>obtain⟨t,rfl⟩:=r;rfl
 | flt _=>obtain⟨t,rfl⟩:=r;rfl
 | ref _=>cases r;rfl
 | ty _=>cases r;rfl
theorem lR {j pos'} (ha:PE X a ta):PC X .Is a (.Constant .none j pos') (BI ta):=by
 intro pins s σ H Q I h;refine thn (ha pins s σ H _ I h) fun v s1 zr795=>?_
 obtain⟨x,H1,I1,r1,q1⟩:=zr795;exact Constant_none (is_none_gen ⟨.bl _,H1,I1,by rw[r1.none_iff];rfl,q1⟩)
theorem AS {j pos'} (ha:PE X a ta):PC X .IsNot a (.Constant .none j pos') (wU ta):=by
 intro pins s σ H Q I h;refine thn (ha pins s σ H _ I h) fun v s1 zr799=>?_
 obtain⟨x,H1,I1,r1,q1⟩:=zr799;exact Constant_none (isnot_none_gen ⟨.bl _,H1,I1,by rw[r1.none_iff];rfl,q1⟩)
noncomputable def tB (t:TE):TT:=fun σ H Q=>t σ H fun x H1=>∃c,x = .bl c∧Q c H1
theorem BP {op:CmpOp} {t:TE} (h:PC X op a b t) (h1:behindInMarks op b=false:=by first | exact se _ (by decide) (by decide) | rfl):PE X (.Compare a [op] [b] pos) t:=fun pins s σ H Q I hw=>wpAny_Compare1 (h pins s σ H Q I hw) h1
theorem gT {op:CmpOp} {t:TE} (h:PC X op a b t) (h1:behindInMarks op b=false:=by first | exact se _ (by decide) (by decide) | rfl):PT X (.Compare a [op] [b] pos) (tB t):=by
 intro pins s σ H Q I hw;refine wpAny_isTrue_Compare1 (thn (h pins s σ H _ I hw) fun v s1 h1=>thn h1 fun u s2 h2=>thn h2 fun c s3 zr805=>?_) h1
 obtain⟨x,H1,I1,r1,q1⟩:=zr805;obtain⟨d,rfl,q⟩:=q1;cases r1;exact wpAny_truthy_bool ⟨H1,I1,q⟩
theorem kc {t:TE} (h:PE X e t) (he : ∀whole,isTrue e X.env whole=(do let v ← whole;standAt e.pos;holding [v] (truthy v)):=by intro _;rfl):PT X e (tB t):=by
 intro pins s σ H Q I hw;refine isTrue_plain (thn (h pins s σ H _ I hw) fun v s1 zr811=>?_) (he _)
 obtain⟨x,H1,I1,r1,q1⟩:=zr811;obtain⟨d,rfl,q⟩:=q1;cases r1;exact wpAny_truthy_bool ⟨H1,I1,q⟩
variable {tA tB':TT} {rest:List Expr}
noncomputable def BS (t u:TT):TT:=fun σ H Q=>t σ H fun c H1=>if c=true then u σ H1 Q else Q false H1
noncomputable def tOr (t u:TT):TT:=fun σ H Q=>t σ H fun c H1=>if c=true then Q true H1 else u σ H1 Q
noncomputable def CH (t:TT):TT:=fun σ H Q=>t σ H fun c H1=>Q (!c) H1
theorem gg (ha:PT X a tA):PW X (.BoolOp .And [a] pos) tA:=by
 intro wh pins s σ H Q I h;refine isTrue_and (thn (ha pins s σ H Q I h) fun c s1 e=>?_)
 cases c with
 | true=>exact isTrue_and_nil e
 | false=>exact e
theorem mL (ha:PT X a tA):PW X (.BoolOp .Or [a] pos) tA:=by
 intro wh pins s σ H Q I h;refine isTrue_or (thn (ha pins s σ H Q I h) fun c s1 e=>?_)
 cases c with
 | false=>exact isTrue_or_nil e
 | true=>exact e
theorem gh (ha:PT X a tA) (hb:PW X (.BoolOp .And (b :: rest) pos) tB'):PW X (.BoolOp .And (a :: b :: rest) pos) (BS tA tB'):=by
 intro wh pins s σ H Q I h;refine isTrue_and (thn (ha pins s σ H _ I h) fun c s1 zr833=>?_)
 obtain⟨H1,I1,q1⟩:=zr833;cases c with
 | true=>exact hb wh pins s1 σ H1 Q I1 q1
 | false=>exact⟨H1,I1,q1⟩
theorem pO (ha:PT X a tA) (hb:PW X (.BoolOp .Or (b :: rest) pos) tB'):PW X (.BoolOp .Or (a :: b :: rest) pos) (tOr tA tB'):=by
 intro wh pins s σ H Q I h;refine isTrue_or (thn (ha pins s σ H _ I h) fun c s1 zr839=>?_)
 obtain⟨H1,I1,q1⟩:=zr839;cases c with
 | true=>exact⟨H1,I1,q1⟩
 | false=>exact hb wh pins s1 σ H1 Q I1 q1
theorem lW (ha:PT X a tA):PT X (.UnaryOp .Not a pos) (CH tA):=by
 intro pins s σ H Q I h;exact isTrue_not (ha pins s σ H (fun c H1=>Q (!c) H1) I h)
noncomputable def zF (ta tb:TE):TE:=fun σ H Q=>ta σ H fun x H1=>∃c,x = .bl c∧if c=true then tb σ H1 Q else Q (.bl false) H1
theorem uL {op} {t:TE} (h:PE X a t):PE X (.BoolOp op [a] pos) t:=fun pins s σ H Q I hw=>BoolOp_one (h pins s σ H Q I hw)
theorem vd (ha:PE X a ta) (hb:PE X (.BoolOp .And (b :: rest) pos) tb):PE X (.BoolOp .And (a :: b :: rest) pos) (zF ta tb):=by
 intro pins s σ H Q I h;refine BoolOp_and (thn (ha pins s σ H _ I h) fun v s1 zr850=>?_)
 obtain⟨x,H1,I1,r1,q1⟩:=zr850;obtain⟨c,rfl,q1⟩:=q1;cases r1;refine wpAny_truthy_bool ?_
 cases c with
 | true=>exact hb pins s1 σ H1 Q I1 q1
 | false=>exact⟨.bl false,H1,I1,rfl,q1⟩
end
noncomputable def SqL (K:PySem.W.Frag) (H:Hp) (a:Addr) (xs:List V):Prop :=
 Rd H a (.lst xs) ∨
  ∃(o:Obj) (its:Array Value) (n:Nat),K.lookup a=some o∧o.cls = .type "list" ∧ o.dict=none∧o.data = .seq its n∧its.size≤sizeLine∧aT xs its.toList
noncomputable def SqT (K:PySem.W.Frag) (H:Hp) (a:Addr) (xs:List V):Prop :=
 Rd H a (.tup xs) ∨
  ∃(o:Obj) (its:Array Value) (n:Nat),K.lookup a=some o∧o.cls = .type "tuple" ∧ o.data = .seq its n∧its.size≤sizeLine∧aT xs its.toList
noncomputable def Et:Value→Option V
 | .none=>some .non
 | .bool b=>some (.bl b)
 | .int i _=>some (.int i)
 | .str x _=>some (.str x)
 | .bytes b _=>some (.byt b)
 | .float b _=>some (.flt b)
 | .ref a=>some (.ref a)
 | .type n=>some (.ty n)
 | _=>none
theorem aX.abs {x:V} (r:aX x u):Et u=some x:=by
 cases x with
 | non=>cases r;rfl
 | bl _=>cases r;rfl
 | int _=>obtain⟨t,rfl⟩:=r;rfl
 | str _=>obtain⟨t,rfl⟩:=r;rfl
 | byt _=>obtain⟨t,rfl⟩:=r;rfl
 | flt _=>obtain⟨t,rfl⟩:=r;rfl
 | ref _=>cases r;rfl
 | ty _=>cases r;rfl
theorem aX.inj {x y:V} {u:Value} (r:aX x u) (q:aX y u):x=y:=Option.some.inj (r.abs.symm.trans q.abs)
theorem aT.inj : ∀{xs ys:List V} {us:List Value},aT xs us→aT ys us→xs=ys
 | _,_,_,.nil,.nil=>rfl
 | _,_,_,.cons r t,.cons r' t'=>by rw[r.inj r',aT.inj t t']
section
variable {X:Cx} {σ:St} {H:Hp} {xs ys:List V}
theorem SqL.of (h:H a=some (.lst xs)):SqL K H a xs:=.inl (.inl h)
theorem SqT.of (h:H a=some (.tup xs)):SqT K H a xs:=.inl (.inl h)
theorem Inv.list (I:Inv X pins σ H s) (h:SqL X.K H a xs) : ∃its:List Value,aT xs its∧PlainL s.heap a its.toArray∧xs.length≤sizeLine:=by
 rcases h with h | ⟨o,its,n,hk,hc,hd,hs,hz,r⟩
 ·obtain⟨z,its,n,r,e⟩:=h.ok I.hok
  exact⟨its,r,⟨_,n,e,rfl,rfl,rfl⟩,z⟩
 ·refine⟨its.toList,r,⟨o,n,I.kIn a o hk,hc,hd,by simpa using hs⟩,?_⟩
  have e:=r.length;simp only[length_toList] at e;omega
theorem Inv.tuple (I:Inv X pins σ H s) (h:SqT X.K H a xs) : ∃its:List Value,aT xs its∧IsTup s.heap a its.toArray∧xs.length≤sizeLine:=by
 rcases h with h | ⟨o,its,n,hk,hc,hs,hz,r⟩
 ·obtain⟨z,its,r,p⟩:=h.ok I.hok
  exact⟨its,r,p,z⟩
 ·refine⟨its.toList,r,⟨o,I.kIn a o hk,hc,n,by simpa using hs⟩,?_⟩
  have e:=r.length;simp only[length_toList] at e;omega
theorem Inv.list_inj (I:Inv X pins σ H s) (h:SqL X.K H a xs) (h':SqL X.K H a ys):xs=ys:=by
 obtain⟨its,r,⟨o,n,e,_,_,d⟩,_⟩:=I.list h;obtain⟨its',r',⟨o',n',e',_,_,d'⟩,_⟩:=I.list h';rw[e] at e';cases e';rw[d] at d'
 injection d' with d1 _
 have:its=its':=by simpa using congrArg Array.toList d1
 subst this;exact r.inj r'
theorem Inv.tuple_inj (I:Inv X pins σ H s) (h:SqT X.K H a xs) (h':SqT X.K H a ys):xs=ys:=by
 obtain⟨its,r,⟨o,e,_,n,d⟩,_⟩:=I.tuple h;obtain⟨its',r',⟨o',e',_,n',d'⟩,_⟩:=I.tuple h';rw[e] at e';cases e';rw[d] at d'
 injection d' with d1 _
 have:its=its':=by simpa using congrArg Array.toList d1
 subst this;exact r.inj r'
end
noncomputable abbrev Cx.wish (X:Cx) (E:Value→Shared→Prop):Cx:={ X with xe:=E }
noncomputable abbrev Cx.nox (X:Cx):Cx:=X.wish fun _ _=>False
theorem Cx.Ok.wish {X:Cx} (ok:X.Ok) (E:Value→Shared→Prop):(X.wish E).Ok :=
 ⟨ok.mod,ok.kind,ok.glob,ok.blt,ok.above,ok.inj,ok.has,ok.cab,ok.hd,ok.frames,ok.stk,ok.exf,ok.bs,ok.bsz,ok.noex,ok.exfs,ok.funs,ok.frf⟩
theorem Cx.Ok.unwish {X:Cx} (ok:(X.wish E).Ok):X.Ok :=
 ⟨ok.mod,ok.kind,ok.glob,ok.blt,ok.above,ok.inj,ok.has,ok.cab,ok.hd,ok.frames,ok.stk,ok.exf,ok.bs,ok.bsz,ok.noex,ok.exfs,ok.funs,ok.frf⟩
section
variable {X:Cx} {σ:St} {H:Hp}
theorem Inv.wish (I:Inv X pins σ H s) (E:Value→Shared→Prop):Inv (X.wish E) pins σ H s:=⟨I.ok.wish E,I.os,I.bare,I.base,I.loc,I.cell,I.free,I.freeC,I.pin,I.hok,I.len⟩
theorem Inv.unwish (I:Inv (X.wish E) pins σ H s):Inv X pins σ H s:=⟨I.ok.unwish,I.os,I.bare,I.base,I.loc,I.cell,I.free,I.freeC,I.pin,I.hok,I.len⟩
theorem SP.unwish {D:ll} {f:Flow} {s':Shared} (h:SP (X.wish E) pins D f s'):SP X pins D f s':=by
 cases f with
 | next=>obtain⟨σ',H',I,q⟩:=h;exact⟨σ',H',I.unwish,q⟩
 | brk=>obtain⟨σ',H',I,q⟩:=h;exact⟨σ',H',I.unwish,q⟩
 | cont=>obtain⟨σ',H',I,q⟩:=h;exact⟨σ',H',I.unwish,q⟩
 | ret u=>obtain⟨v,σ',H',I,r,q⟩:=h;exact⟨v,σ',H',I.unwish,r,q⟩
theorem PSs.nox {st:List Stmt} {t:TS} (h:PSs X.nox st t):PSs X st t:=fun pins s σ H D I hw =>
 wpAny_mono (h pins s σ H D (I.wish _) hw) (fun _ _ q=>q.unwish) fun _ _ z=>False.elim z
end
section
variable {X:Cx} {t u:TS} {te:TE}
noncomputable def wH:TS:=fun D σ H=>D.nx σ H
noncomputable def jk (t u:TS):TS:=fun D σ H=>t { D with nx:=u D } σ H
theorem az:PSs X [] wH:=fun _ _ σ H _ I h=>wpAny_execs_nil ⟨σ,H,I,h⟩
theorem af (h1:PS X st t) (h2:PSs X rest u):PSs X (st :: rest) (jk t u):=by
 intro pins s σ H D I h;refine wpAny_execs_cons (thn (h1 pins s σ H { D with nx:=u D } I h) fun f s1 q=>?_)
 cases f with
 | next =>
  obtain⟨σ',H',I',q⟩:=q;exact h2 pins s1 σ' H' D I' q
 | ret v=>exact q
 | brk=>exact q
 | cont=>exact q
theorem ai (h1:PS X st t):PSs X [st] t:=by
 intro pins s σ H D I h;refine wpAny_execs_cons (thn (h1 pins s σ H D I h) fun f s1 q=>?_)
 cases f with
 | next=>exact wpAny_execs_nil q
 | ret v=>exact q
 | brk=>exact q
 | cont=>exact q
theorem Inv.quiet {σ:St} {H:Hp} (I:Inv X pins σ H s):interactive X.env=false:=by simp[interactive,I.ok.kind]
noncomputable def yf (te:TE):TS:=fun D σ H=>te σ H fun _ H1=>D.nx σ H1
theorem bU (he:PE X e te) (hs:swapsWith e none pos.line X.env=pure false:=by rfl):PS X (.Expr e pos) (yf te):=by
 intro pins s σ H D I h;exact wpAny_Expr_any (thn (he pins s σ H _ I h) fun v s1 zq0=>by obtain⟨x,H1,I1,r1,q1⟩:=zq0;exact(⟨σ,H1,I1,q1⟩)) I.quiet hs
noncomputable def CA (te:TE):TS:=fun D σ H=>te σ H D.rt
theorem aA (he:PE X e te):PS X (.Return (some e) pos) (CA te):=by
 intro pins s σ H D I h;exact wpAny_Return_some (thn (he pins s σ H _ I h) fun v s1 zq1=>by obtain⟨x,H1,I1,r1,q1⟩:=zq1;exact(⟨x,σ,H1,I1,r1,q1⟩))
noncomputable def BG (c:TT) (t u:TS):TS:=fun D σ H=>c σ H fun b H1=>if b=true then t D σ H1 else u D σ H1
theorem aK {c:Expr} {a b:List Stmt} {tc:TT} (hc:PT X c tc) (ha:PSs X a t) (hb:PSs X b u):PS X (.If c a b pos) (BG tc t u):=by
 intro pins s σ H D I h;refine wpAny_If (thn (hc pins s σ H _ I h) fun d s1 zr984=>?_)
 obtain⟨H1,I1,q1⟩:=zr984;cases d with
 | true=>exact ha pins s1 σ H1 D I1 q1
 | false=>exact hb pins s1 σ H1 D I1 q1
noncomputable def uO:TS:=fun _ _ _=>False
theorem aL:PS X st uO:=fun _ _ _ _ _ _ h=>h.elim
end
noncomputable abbrev TG:=V→St→Hp→(St→Hp→Prop)→Prop
noncomputable abbrev TGs:=List V→St→Hp→(St→Hp→Prop)→Prop
noncomputable def PG (X:Cx) (target:Expr) (t:TG):Prop :=
 ∀ (pins:List (Addr × Obj)) (s:Shared) (σ:St) (H:Hp) (v:V) (u:Value) (Q:St→Hp→Prop),Inv X pins σ H s→aX v u→t v σ H Q →
  wpAny (model X.prog X.w) X.A (assign target X.env u) (fun _ s'=>∃ σ' H',Inv X pins σ' H' s'∧Q σ' H') X.xe s
noncomputable def PGs (X:Cx) (ts:List Expr) (t:TGs):Prop :=
 ∀ (pins:List (Addr × Obj)) (s:Shared) (σ:St) (H:Hp) (vs:List V) (us:List Value) (Q:St→Hp→Prop),Inv X pins σ H s→aT vs us→t vs σ H Q →
  wpAny (model X.prog X.w) X.A (assignInOrder ((assignEach ts X.env).map (·.2)) us) (fun _ s'=>∃ σ' H',Inv X pins σ' H' s'∧Q σ' H') X.xe s
section
variable {X:Cx}
noncomputable def eV (i:Nat):TG:=fun v σ H Q=>Q (σ.set i (some v)) H
theorem aB (i:Nat) {x:Str} (hN:X.N.Nodup:=by first | assumption | exact of_decide_eq_true (by kernel_rfl)) (hi:X.N[i]? = some x:=by exact rfl) (hx:Loc X.env.scope x:=by first | exact Or.inl rfl | exact Or.inr rfl) (hf:X.fn x=true∨X.env.scope.names.lookup x=some .local:=by first | exact .inl rfl | exact .inr rfl | assumption):PG X (.Name x pos) (eV i):=by
 intro pins s σ H v u Q I r h;exact wpAny_assign_Name (rP I hN hi hx r (fun s' I'=>⟨_,H,I',h⟩) hf)
noncomputable def AO:TGs:=fun vs σ H Q=>vs=[]∧Q σ H
noncomputable def rV (t:TG) (u:TGs):TGs:=fun vs σ H Q=>∃v r,vs=v :: r∧t v σ H fun σ' H'=>u r σ' H' Q
theorem cY:PGs X [] AO:=by
 intro pins s σ H vs us Q I r h;obtain⟨e,h⟩:=h;subst e;cases r;exact assignInOrder_nil ⟨σ,H,I,h⟩
theorem aY {t:TG} {u:TGs} (h1:PG X e t) (h2:PGs X es u)
  (hs:(assignEach (e :: es) X.env).map (·.2)=assign e X.env ::(assignEach es X.env).map (·.2):=by rfl):PGs X (e :: es) (rV t u):=by
 intro pins s σ H vs us Q I r h;obtain⟨v,vr,e1,h⟩:=h;subst e1;cases r with
 | cons r rr =>
  rw[hs];refine assignInOrder_cons (thn (h1 pins s σ H _ _ _ I r h) fun _ s1 zr1021=>?_)
  obtain⟨σ1,H1,I1,q1⟩:=zr1021;exact h2 pins s1 σ1 H1 _ _ Q I1 rr q1
noncomputable def EY (K:PySem.W.Frag) (n:Nat) (t:TGs):TG:=fun v σ H Q=>∃a xs,v = .ref a∧SqT K H a xs∧xs.length=n∧t xs σ H Q
theorem Cq {t:TGs} (hc:X.calm=true) (h:PGs X es t)
  (hn:(assignEach es X.env).length=n:=by rfl) (hst:(assignEach es X.env).findIdx? (·.1)=none:=by rfl):PG X (.Tuple es k pos) (EY X.K n t):=by
 intro pins s σ H v u Q I r hw;obtain⟨a,xs,e1,hq,hl,hw⟩:=hw;subst e1;cases r;obtain⟨its,rv,ht,hz⟩:=I.tuple hq;refine assign_Tuple_tuple (I.ok.hd hc) ht (by simp[hn,← hl,rv.length]) hst fun h' hx=>?_
 have I1:Inv X pins σ H { s with heap:=h' }:=I.kept (t':=s.toks) fun b o e=>hx b o (ne_of_lt (Heap.lt_size e)) e
 exact h pins _ σ H xs _ Q I1 (by simpa using rv) hw
noncomputable def vh (te:TE) (g:TG):TS:=fun D σ H=>te σ H fun x H1=>g x σ H1 D.nx
theorem qS {te:TE} {g:TG} (he:PE X e te) (hg:PG X tg g) (hs:swapsWithSole [tg] e pos.line X.env=pure false:=by rfl) (hw:swappedStores [tg] e X.env=pure none:=by rfl)
  (h1:(assignEach [tg] X.env).map (·.2)=[assign tg X.env]:=by rfl):PS X (.Assign [tg] e pos) (vh te g):=by
 intro pins s σ H D I h;refine wpAny_Assign_stores (thn (he pins s σ H _ I h) fun v s1 zr1038=>?_) hs hw
 obtain⟨x,H1,I1,r1,q1⟩:=zr1038;rw[h1];exact thn (hg pins s1 σ H1 x v _ I1 r1 q1) fun _ s2 q=>q
theorem aC (i:Nat) {x:Str} {e:Expr} {te:TE} {pos':Pos} (he:PE X e te) (hN:X.N.Nodup:=by assumption) (hi:X.N[i]? = some x:=by exact rfl) (hx:Loc X.env.scope x:=by first | exact Or.inl rfl | exact Or.inr rfl) (hs:swapsWith e (some (.Name x pos')) pos.line X.env=pure false:=by rfl) (hf:X.fn x=true∨X.env.scope.names.lookup x=some .local:=by first | exact .inl rfl | exact .inr rfl | assumption) :
  PS X (.Assign [.Name x pos'] e pos) (vh te (eV i)):=by
 intro pins s σ H D I h;refine wpAny_Assign_Name (thn (he pins s σ H _ I h) fun v s1 zr1044=>?_) hs
 obtain⟨y,H1,I1,r1,q1⟩:=zr1044;exact rP I1 hN hi hx r1 (fun s2 I2=>⟨_,H1,I2,q1⟩) hf
end
section
variable {X:Cx}
noncomputable def uU (c:TT) (tb:TS):TS:=fun D σ H=>∃W:Nat→St→Hp→Prop,(∃m,W m σ H)∧∀m σ H,W m σ H →
 c σ H fun b H1=>if b=true then ∃N:St→Hp→Prop,(∀ σ' H',N σ' H'→∃m',m' < m∧W m' σ' H')∧tb { D with nx:=N,ct:=N,bk:=D.nx } σ H1 else D.nx σ H1
theorem fO {c:Expr} {tc:TT} {tb:TS} (hp:PassesOwn (model X.prog X.w) X.A X.env X.xe) (hc:PT X c tc) (hb:PSs X body tb):PS X (.While c body [] pos) (uU tc tb):=by
 intro pins s σ H D I h;obtain⟨W,⟨m0,w0⟩,turn⟩:=h;refine wpAny_While (codeAny_whileLoop (fun n s'=>∃ σ' H',Inv X pins σ' H' s'∧W n σ' H') ?_ m0 ⟨σ,H,I,w0⟩)
 rintro n s1 ⟨σ1,H1,I1,w1⟩
 refine wpAny_passesOwn hp (thn (hc pins s1 σ1 H1 _ I1 (turn n σ1 H1 w1)) fun b s2 zr1056=>?_)
 obtain⟨H2,I2,q2⟩:=zr1056;cases b with
 | true =>
  obtain⟨N,hN,q2⟩:=q2;rw[if_pos rfl];refine wpAny_passesOwn hp (thn (hb pins s2 σ1 H2 _ I2 q2) fun f s3 q3=>?_)
  cases f with
  | next =>
   obtain⟨σ3,H3,I3,n3⟩:=q3;obtain⟨m',hm,w3⟩:=hN σ3 H3 n3;exact⟨m',hm,σ3,H3,I3,w3⟩
  | cont =>
   obtain⟨σ3,H3,I3,n3⟩:=q3;obtain⟨m',hm,w3⟩:=hN σ3 H3 n3;exact⟨m',hm,σ3,H3,I3,w3⟩
  | brk=>exact q3
  | ret v=>exact q3
 | false =>
  rw[if_neg Bool.false_ne_true];exact wpAny_execs_nil ⟨σ1,H2,I2,q2⟩
end
structure It where
 go:Nat→Hp→Prop
 yld:Nat→Hp→V→Hp→Prop
 stop:Nat→Hp→Prop
noncomputable def oP (X:Cx) (pins:List (Addr × Obj)) (H:Hp) (b:Addr):Prop :=
 H b=none∧b≠X.env.locals∧b∉X.fs∧(b∈X.ex∨X.s₀.heap.objs.size≤b)∧(∀x c,X.env.cells.lookup x=some c→c≠b)∧∀p∈X.pn++pins,p.1≠b
theorem Inv.fpOk {X:Cx} {σ:St} {H H':Hp} (I:Inv X pins σ H s) (hb:s.heap.objs.size≤b) (hn:H' b=none):oP X pins H' b:=by
 refine⟨hn,ne_of_gt (lt_of_lt_of_le I.lt hb),I.nofs hb,.inr (le_trans I.sz hb),fun x c e z=>?_,fun p hp z=>?_⟩
 ·obtain⟨v,q⟩:=I.cell x c e
  exact absurd (lt_of_lt_of_le q.lt (by rw[z];exact hb)) (lt_irrefl _)
 ·exact absurd (lt_of_lt_of_le (Heap.lt_size (I.pin p hp).1) (by rw[z];exact hb)) (lt_irrefl _)
structure xi (P:Program) (w:World) (K:PySem.W.Frag) (tg:Expr) (J:It) (fp:List Addr) (it:Addr) (tn:Nat→Heap→Prop):Prop where
 mem:it∈fp
 obj : ∀i h,tn i h→∀b∈fp,∃o,h.get? b=some o∧∀v,o.data≠.cell v
 keep : ∀i h h',tn i h→(∀b∈fp,∀o,h.get? b=some o→h'.get? b=some o)→tn i h'
 item : ∀(X:Cx),X.prog=P→X.w=w→X.K=K→X.calm=true→∀(i:Nat) (pins:List (Addr × Obj)) (s:Shared) (σ:St) (H:Hp) (E:Value→Shared→Prop),Inv X pins σ H s→(∀b∈fp,oP X pins H b)→tn i s.heap→J.go i H →
  wpAny (model P w) X.A (pyNext (.ref it)) (fun r s1=>∃u,r=some u ∧
   wpAny (model P w) X.A (letOwnedTupleGo tg (.ref it) u) (fun _ s2=>∃x H',Inv X pins σ H' s2∧aX x u∧J.yld i H x H'∧tn (i+1) s2.heap∧∀b∈fp,H' b=none) E s1) E s
 done : ∀(X:Cx),X.prog=P→X.w=w→X.K=K→X.calm=true→∀(i:Nat) (pins:List (Addr × Obj)) (s:Shared) (σ:St) (H:Hp) (E:Value→Shared→Prop),Inv X pins σ H s→(∀b∈fp,oP X pins H b)→tn i s.heap→J.stop i H →
  wpAny (model P w) X.A (pyNext (.ref it)) (fun r s1=>r=none∧Inv X pins σ H s1) E s
 self : ∀(A:Around) (i:Nat) (s:Shared) (Q:Value→Shared→Prop) (E:Value→Shared→Prop),tn i s.heap→Q (.ref it) s→wpAny (model P w) A (pyIter (.ref it)) Q E s
noncomputable abbrev TI:=St→Hp→(It→Hp→Prop)→Prop
noncomputable def PIE (X:Cx) (pins:List (Addr × Obj)) (σ:St) (tg:Expr) (R:It→Hp→Prop) (itv:Value) (s2:Shared):Prop :=
 ∃(it:Addr) (fp:List Addr) (tn:Nat→Heap→Prop) (J:It) (H':Hp),itv = .ref it∧Inv X pins σ H' s2∧xi X.prog X.w X.K tg J fp it tn∧tn 0 s2.heap∧(∀b∈fp,oP X pins H' b)∧R J H'
noncomputable def PI (X:Cx) (tg iter:Expr) (wi:TI):Prop :=
 ∀ (pins:List (Addr × Obj)) (s:Shared) (σ:St) (H:Hp) (R:It→Hp→Prop),Inv X pins σ H s→wi σ H R →
  wpAny (model X.prog X.w) X.A (eval iter X.env) (fun v s1=>wpAny (model X.prog X.w) X.A (pyIter v) (PIE X pins σ tg R) X.xe s1) X.xe s
theorem wz {o:Obj} {n:String} {vs:Array Value} {Q:Unit→Shared→Prop} (ho:s.heap.get? it=some o) (hc:o.cls = .type n) (hd:o.data = .fields vs)
    (hn:["enumerate","zip","dict_itemiterator","dict_reverseitemiterator","odict_iterator","itertools.zip_longest","itertools.pairwise"].contains n=false) (hQ:Q () s):wpAny M A (letOwnedTupleGo tg (.ref it) u) Q E s:=by
  unfold letOwnedTupleGo;cases tg <;> first
    | exact wpAny_pure hQ
    | (cases u <;> first
        | exact wpAny_pure hQ
        | (refine wpAny_bind (wpAny_load ho ?_)
           rw[hc,hd]
           show wpAny M A (if (["enumerate","zip","dict_itemiterator","dict_reverseitemiterator","odict_iterator","itertools.zip_longest","itertools.pairwise"].contains n && vs[0]? == some (rawInt _))=true then _ else _) Q E s
           rw[if_neg (by intro h;rw[hn,Bool.false_and] at h;cases h)]
           exact wpAny_pure hQ))
noncomputable def Itl (K:PySem.W.Frag) (a:Addr):It :=
 ⟨fun i H=>∃xs x,SqL K H a xs∧xs[i]? = some x,fun i H x H'=>H'=H∧∀xs,SqL K H a xs→xs[i]? = some x,fun i H=>∃xs,SqL K H a xs∧xs.length≤i⟩
noncomputable def Itt (K:PySem.W.Frag) (a:Addr):It :=
 ⟨fun i H=>∃xs x,SqT K H a xs∧xs[i]? = some x,fun i H x H'=>H'=H∧∀xs,SqT K H a xs→xs[i]? = some x,fun i H=>∃xs,SqT K H a xs∧xs.length≤i⟩
noncomputable def Itr (lo:Int) (n:Nat):It:=⟨fun i _=>i < n,fun i H x H'=>H'=H∧x = .int (lo+i),fun i _=>n≤i⟩
theorem px (a it:Addr):xi P w K tg (Itl K a) [it] it (fun i h=>h.IsListIter it a i) where
 mem:=by simp
 obj:=fun i h st b hb=>by
  have e:b=it:=by simpa using hb
  subst e;obtain⟨o,e,c,d⟩:=st;exact⟨o,e,fun v z=>by rw[d] at z;cases z⟩
 keep:=fun i h h' st k=>st.at fun o e=>k it (by simp) o e
 item:=by
  intro X hP hw hK hc i pins s σ H E I hf st hg;subst hP hw hK;obtain⟨xs,x,hq,hx⟩:=hg;obtain⟨its,rv,p,hz⟩:=I.list hq;obtain⟨u,hu,ru⟩:=rv.get hx;obtain⟨f0,f1,f2,f3,f4,f5⟩:=hf it (by simp)
  refine wpAny_pyNext_list_item st p.isList (x:=u) (by simpa using hu) fun h' st' sb=>?_
  have I1:Inv X pins σ H { s with heap:=h' }:=I.turned (t':=s.toks) (fun b o hb e=>(sb.2 b hb).trans e) f0 f1 f3 f4 f5
  obtain⟨o,e,c,d⟩:=id st';exact⟨u,rfl,wz (s:={ s with heap:=h' }) e c d (by decide) ⟨x,H,I1,ru,⟨rfl,fun ys hy=>by rw[I.list_inj hy hq];exact hx⟩,st',fun b hb=>(hf b hb).1⟩⟩
 done:=by
  intro X hP hw hK hc i pins s σ H E I hf st hg;subst hP hw hK;obtain⟨xs,hq,hx⟩:=hg;obtain⟨its,rv,p,hz⟩:=I.list hq;obtain⟨f0,f1,f2,f3,f4,f5⟩:=hf it (by simp)
  have hl:=rv.length;exact wpAny_pyNext_list_end (I.ok.hd hc) st p.isList (by simp;omega) fun h' eb=>⟨rfl,I.turned (t':=s.toks) (fun b o hb e=>eb b o hb e) f0 f1 f3 f4 f5⟩
 self:=fun _ _ _ _ _ st h=>wpAny_pyIter_listiter st h
theorem nW (a it:Addr):xi P w K tg (Itt K a) [it] it (fun i h=>h.IsTupleIter it a i) where
 mem:=by simp
 obj:=fun i h st b hb=>by
  have e:b=it:=by simpa using hb
  subst e;obtain⟨o,e,c,d⟩:=st;exact⟨o,e,fun v z=>by rw[d] at z;cases z⟩
 keep:=fun i h h' st k=>st.at fun o e=>k it (by simp) o e
 item:=by
  intro X hP hw hK hc i pins s σ H E I hf st hg;subst hP hw hK;obtain⟨xs,x,hq,hx⟩:=hg;obtain⟨its,rv,p,hz⟩:=I.tuple hq;obtain⟨u,hu,ru⟩:=rv.get hx;obtain⟨f0,f1,f2,f3,f4,f5⟩:=hf it (by simp)
  refine wpAny_pyNext_tuple_item st (show s.heap.IsTuple a its.toArray from p) (x:=u) (by simpa using hu) fun h' st' sb=>?_
  have I1:Inv X pins σ H { s with heap:=h' }:=I.turned (t':=s.toks) (fun b o hb e=>(sb.2 b hb).trans e) f0 f1 f3 f4 f5
  obtain⟨o,e,c,d⟩:=id st';exact⟨u,rfl,wz (s:={ s with heap:=h' }) e c d (by decide) ⟨x,H,I1,ru,⟨rfl,fun ys hy=>by rw[I.tuple_inj hy hq];exact hx⟩,st',fun b hb=>(hf b hb).1⟩⟩
 done:=by
  intro X hP hw hK hc i pins s σ H E I hf st hg;subst hP hw hK;obtain⟨xs,hq,hx⟩:=hg;obtain⟨its,rv,p,hz⟩:=I.tuple hq;obtain⟨f0,f1,f2,f3,f4,f5⟩:=hf it (by simp)
  have hl:=rv.length;exact wpAny_pyNext_tuple_end (I.ok.hd hc) st (show s.heap.IsTuple a its.toArray from p) (by simp;omega) fun h' eb=>⟨rfl,I.turned (t':=s.toks) (fun b o hb e=>eb b o hb e) f0 f1 f3 f4 f5⟩
 self:=fun _ _ _ _ _ st h=>wpAny_pyIter_tupleiter st h
theorem uQ (it:Addr) (lo:Int) (n:Nat):xi P w K tg (Itr lo n) [it] it (fun i h=>IsRangeIter h it (lo+(i:Nat) * 1) ((n:Int) - (i:Nat)) 1) where
 mem:=by simp
 obj := fun i h st b hb=>by
  have e:b=it:=by simpa using hb
  subst e;exact⟨_,st,fun v z=>by
   have z':Data.fields _=Data.cell v:=z
   cases z'⟩
 keep:=fun i h h' st k=>k it (by simp) _ st
 item:=by
  intro X hP hw hK hc i pins s σ H E I hf st hg;subst hP hw hK;obtain⟨f0,f1,f2,f3,f4,f5⟩:=hf it (by simp)
  have W:=Walks.range (prog:=X.prog) (w:=X.w) (I.ok.hd hc) it lo 1 n;refine W.item i s _ _ hg st fun v h' tk hv st' kk=>?_
  obtain⟨t,rfl⟩:=hv;have I1:Inv X pins σ H { s with heap:=h',toks:=tk }:=I.turned (fun b o hb e=>kk b o (by simpa using hb) e) f0 f1 f3 f4 f5
  refine⟨_,rfl,wz (s:={ s with heap:=h',toks:=tk }) (n := "range_iterator") st' rfl rfl (by decide) ⟨.int (lo+i),H,I1,⟨t,?_⟩,⟨rfl,rfl⟩,st',fun b hb=>(hf b hb).1⟩⟩
  rw[Int.mul_one]
 done:=by
  intro X hP hw hK hc i pins s σ H E I hf st hg;subst hP hw hK;obtain⟨f0,f1,f2,f3,f4,f5⟩:=hf it (by simp)
  exact wpAny_pyNext_range_end (I.ok.hd hc) st (by have:n≤i:=hg;omega) fun h' eb=>⟨rfl,I.turned (t':=s.toks) (fun b o hb e=>eb b o hb e) f0 f1 f3 f4 f5⟩
 self:=fun _ _ _ _ _ st h=>wpAny_pyIter_rangeiter st h
section
variable {X:Cx}
theorem zc {σ:St} {H:Hp} {R:It→Hp→Prop} {lo hi:Int} {t u v:Tok} (I:Inv X pins σ H s) (h1 : -(2 ^ 62)≤lo) (h2:lo < 2 ^ 62) (h3 : -(2 ^ 62)≤hi) (h4:hi < 2 ^ 62)
  (q:R (Itr lo (hi - lo).toNat) H):wpAny (model X.prog X.w) X.A (pyIter (.ref s.heap.objs.size)) (PIE X pins σ tg R) E { s with heap:=s.heap.push { cls:=.type "range",data:=.fields #[.int lo t,.int hi u,.int 1 v] },toks:=tk }:=by
 refine wpAny_pyIter_range (IsRange.new ..) (small_one h1 h2 h3 h4) ?_
 have I1:Inv X pins σ H { s with heap:=s.heap.push { cls:=.type "range",data:=.fields #[.int lo t,.int hi u,.int 1 v] },toks:=tk }:=I.kept fun b o e=>Heap.get?_push_of_some _ e
 refine⟨(s.heap.push { cls:=.type "range",data:=.fields #[.int lo t,.int hi u,.int 1 v] }).objs.size,[(s.heap.push { cls:=.type "range",data:=.fields #[.int lo t,.int hi u,.int 1 v] }).objs.size],_,_,H,rfl,
  I1.kept (t':=tk) fun b o e=>Heap.get?_push_of_some _ e,uQ _ lo (hi - lo).toNat,?_,fun b hb=>?_,q⟩
 ·have e1:lo+((0:Nat):Int) * 1=lo:=by simp
  have e2:(((hi - lo).toNat:Nat):Int) - ((0:Nat):Int)=Builtin.Range.rangeSize lo hi 1:=by rw[rangeSize_one];split <;> omega
  show IsRangeIter _ _ (lo+((0:Nat):Int) * 1) ((((hi - lo).toNat:Nat):Int) - ((0:Nat):Int)) 1
  rw[e1,e2];exact Heap.get?_push_size _ rfl
 ·have e:b=(s.heap.push { cls:=.type "range",data:=.fields #[.int lo t,.int hi u,.int 1 v] }).objs.size:=by simpa using hb
  subst e;exact I1.fpOk (le_refl _) (I1.hok.fresh (le_refl _))
noncomputable def yU (ta:TA):TI:=fun σ H R=>ta σ H fun vs H1=>∃j:Int,vs=[.int j]∧-(2 ^ 62)≤j∧j < 2 ^ 62∧R (Itr 0 j.toNat) H1
theorem bY {a:Expr} {ta:TA} {p:Pos} (hg:Gl X "range") (hm:X.mg "range" = none) (ha:PA X [a] ta) (hs:starEach [a] X.env=[(false,eval a X.env)]:=by rfl):PI X tg (.Call (.Name "range" p) [a] [] pos) (yU ta):=by
 intro pins s σ H R I h;refine Call_ (eE I hg hm boot_range (PyProof.Rows.callWith_type1 (thn (ha pos pins s σ H _ I h) fun us s1 zr1224=>?_) hs rfl))
 obtain⟨vs,H1,I1,r1,q1⟩:=zr1224;obtain⟨j,e,q1,q2,q⟩:=q1;subst e;cases r1 with
 | cons r rr =>
  cases rr;obtain⟨t,rfl⟩:=r;exact call_range_1 (zc I1 (by omega) (by omega) q1 q2 (by simpa using q))
noncomputable def Dx (wi:TI) (g:TG) (tb:TS):TS:=fun D σ H=>wi σ H fun J H1=>∃W:Nat→Nat→St→Hp→Prop,(∃m,W 0 m σ H1)∧∀i m σ H,W i m σ H →
 (J.stop i H∧D.nx σ H)∨(J.go i H∧∃N:St→Hp→Prop,(∀ σ' H',N σ' H'→∃m',m' < m∧W (i+1) m' σ' H')∧∀x H',J.yld i H x H'→g x σ H' fun σ2 H2=>tb { D with nx:=N,ct:=N,bk:=D.nx } σ2 H2)
noncomputable def nG (fp:List Addr) (h:Heap):List (Addr × Obj):=fp.filterMap fun b=>(h.get? b).map fun o=>(b,o)
theorem jg {o:Obj} (hb:b∈fp) (e:h.get? b=some o):(b,o)∈nG fp h:=List.mem_filterMap.mpr ⟨b,hb,by rw[e];rfl⟩
theorem xl {p:Addr × Obj} (hp:p∈nG fp h):p.1∈fp∧h.get? p.1=some p.2:=by
 obtain⟨b,hb,e⟩:=List.mem_filterMap.mp hp;cases q:h.get? b with
 | none=>rw[q] at e;cases e
 | some o =>
  rw[q] at e;have e':(b,o)=p:=Option.some.inj e
  subst e';exact⟨hb,q⟩
theorem Inv.pinned {σ:St} {H:Hp} (I:Inv X pins σ H s) (hf : ∀b∈fp,oP X pins H b) (ho : ∀b∈fp,∃o,s.heap.get? b=some o∧∀v,o.data≠.cell v):Inv X (pins++nG fp s.heap) σ H s :=
 I.pins_of fun p hp=>(mem_append.mp hp).elim (fun z=>I.pin p (mem_append_right _ z)) fun z=>by
  obtain⟨hb,e⟩:=xl z;obtain⟨f0,f1,f2,_⟩:=hf p.1 hb;obtain⟨o,e',d⟩:=ho p.1 hb;rw[e] at e';cases e';exact⟨e,f0,f1,f2,d⟩
theorem Inv.unpinned {pl:List (Addr × Obj)} {σ:St} {H:Hp} (I:Inv X (pins++pl) σ H s):Inv X pins σ H s:=I.pins_of fun p hp=>I.pin p (mem_append_right _ (mem_append_left _ hp))
theorem bE {wi:TI} {g:TG} {tb:TS} (hi:PI X tg iter wi) (hg:PG X tg g) (hb:PSs X body tb) (hp:PassesOwn (model X.prog X.w) X.A X.env X.xe:=by exact PassesOwn.never) (hc:X.calm=true:=by exact rfl)
  (hs : ∀x,foldedSetIterable iter X.env x=pure x:=by intro _;rfl):PS X (.For tg iter body [] pos) (Dx wi g tb):=by
 intro pins s σ H D I h;refine wpAny_For (thn (hi pins s σ H _ I h) fun v s1 h1=>thn h1 fun itv s2 h2=>?_) hs
 obtain⟨it,fp,tn,J,H2,e,I2,T,st2,f2,W,⟨m0,w0⟩,turn⟩:=h2;subst e;have stat : ∀{H':Hp},(∀b∈fp,H' b=none)→∀b∈fp,oP X pins H' b:=fun hn b hb=>⟨hn b hb,(f2 b hb).2⟩
 refine codeAny_forLoop_any (fun n s'=>∃i σ' H',Inv X pins σ' H' s'∧tn i s'.heap∧(∀b∈fp,H' b=none)∧W i n σ' H') ?_ m0 ⟨0,σ,H2,I2,st2,fun b hb=>(f2 b hb).1,w0⟩
 rintro n s3 ⟨i,σ3,H3,I3,st3,fr3,w3⟩
 rcases turn i n σ3 H3 w3 with⟨stop,qn⟩ | ⟨go,N,hN,step⟩
 ·refine wpAny_passesOwn hp (thn (T.done X rfl rfl rfl hc i pins s3 σ3 H3 X.xe I3 (stat fr3) st3 stop) fun r s4 zr1264=>?_)
  obtain⟨hr,I4⟩:=zr1264;subst hr;exact wpAny_execs_nil ⟨σ3,H3,I4,qn⟩
 ·refine wpAny_passesOwn hp (thn (T.item X rfl rfl rfl hc i pins s3 σ3 H3 X.xe I3 (stat fr3) st3 go) fun r s4 zr1267=>?_)
  obtain⟨u,hr,h4⟩:=zr1267;subst hr;refine wpAny_passesOwn hp (thn h4 fun _ s5 zr1269=>?_)
  obtain⟨x,H5,I5,r5,y5,st5,fr5⟩:=zr1269;have I5':=I5.pinned (stat fr5) (T.obj _ _ st5);refine wpAny_passesOwn hp (thn (hg _ s5 σ3 H5 x u _ I5' r5 (step x H5 y5)) fun _ s6 zr1271=>?_)
  obtain⟨σ6,H6,I6,q6⟩:=zr1271;refine wpAny_passesOwn hp (thn (hb _ s6 σ6 H6 _ I6 q6) fun f s7 q7=>?_)
  have again : ∀{σ7:St} {H7:Hp},Inv X (pins++nG fp s5.heap) σ7 H7 s7→N σ7 H7→∃m,m < n∧∃i σ' H',Inv X pins σ' H' s7∧tn i s7.heap∧(∀b∈fp,H' b=none)∧W i m σ' H':=fun {σ7 H7} I7 n7=>by
   obtain⟨m',hm,w7⟩:=hN σ7 H7 n7;refine⟨m',hm,i+1,σ7,H7,I7.unpinned,T.keep _ _ _ st5 fun b hb o e=>(I7.pin (b,o) (mem_append_right _ (mem_append_right _ (jg hb e)))).1,fun b hb=>?_,w7⟩
   obtain⟨o,e,d⟩:=T.obj _ _ st5 b hb;exact(I7.pin (b,o) (mem_append_right _ (mem_append_right _ (jg hb e)))).2.1
  cases f with
  | next=>obtain⟨σ7,H7,I7,n7⟩:=q7;exact again I7 n7
  | cont=>obtain⟨σ7,H7,I7,n7⟩:=q7;exact again I7 n7
  | brk=>obtain⟨σ7,H7,I7,q7⟩:=q7;exact⟨σ7,H7,I7.unpinned,q7⟩
  | ret v=>obtain⟨x7,σ7,H7,I7,r7,q7⟩:=q7;exact⟨x7,σ7,H7,I7.unpinned,r7,q7⟩
end
noncomputable abbrev R2:=V→V→Hp→VK→Prop
noncomputable def OpR (X:Cx) (f:Value→Value→Sem Value) (r:R2):Prop :=
 ∀ (pins:List (Addr × Obj)) (s:Shared) (σ:St) (H:Hp) (x y:V) (v u:Value) (Q:VK),Inv X pins σ H s→aX x v→aX y u→r x y H Q →
  wpAny (model X.prog X.w) X.A (f v u) (EP X pins σ Q) X.xe s
noncomputable def UnR (X:Cx) (f:Value→Sem Value) (r:V→Hp→VK→Prop):Prop :=
 ∀ (pins:List (Addr × Obj)) (s:Shared) (σ:St) (H:Hp) (x:V) (v:Value) (Q:VK),Inv X pins σ H s→aX x v→r x H Q →
  wpAny (model X.prog X.w) X.A (f v) (EP X pins σ Q) X.xe s
noncomputable def bC (X:Cx) (f:Value) (r:List V→Hp→VK→Prop):Prop :=
 ∀ (pins:List (Addr × Obj)) (s:Shared) (σ:St) (H:Hp) (xs:List V) (us:List Value) (Q:VK),Inv X pins σ H s→aT xs us→r xs H Q →
  wpAny (model X.prog X.w) X.A (call f us) (EP X pins σ Q) X.xe s
noncomputable def tOp (r:R2) (ta tb:TE):TE:=fun σ H Q=>ta σ H fun x H1=>tb σ H1 fun y H2=>r x y H2 Q
noncomputable def tUn (r:V→Hp→VK→Prop) (ta:TE):TE:=fun σ H Q=>ta σ H fun x H1=>r x H1 Q
noncomputable def rI (C:Int→Int→Prop) (g:Int→Int→V):R2:=fun x y H Q=>∃i j,x = .int i∧y = .int j∧C i j∧Q (g i j) H
noncomputable def rI0 (g:Int→Int→V):R2:=fun x y H Q=>∃i j,x = .int i∧y = .int j∧Q (g i j) H
noncomputable def rU (g:Int→V):V→Hp→VK→Prop:=fun x H Q=>∃i,x = .int i∧Q (g i) H
section
variable {X:Cx} {a b c:Expr} {ta tb tc:TE}
theorem C8 (ha:PE X a ta) (hb:PE X b tb) {pins:List (Addr × Obj)} {s:Shared} {σ:St} {H:Hp} {R:V→V→Hp→Prop} (I:Inv X pins σ H s)
  (h:ta σ H fun x H1=>tb σ H1 fun y H2=>R x y H2) {Q:Value→Shared→Prop} {f:Value→Value→Sem Value}
  (hf : ∀v u s2 x y H2,Inv X pins σ H2 s2→aX x v→aX y u→R x y H2→wpAny (model X.prog X.w) X.A (f v u) Q X.xe s2) :
  wpAny (model X.prog X.w) X.A (eval a X.env) (fun v s₁=>wpAny (model X.prog X.w) X.A (eval b X.env) (fun u s₂=>wpAny (model X.prog X.w) X.A (f v u) Q X.xe s₂) X.xe s₁) X.xe s:=by
 refine thn (ha pins s σ H _ I h) fun v s1 zr1308=>?_
 obtain⟨x,H1,I1,r1,q1⟩:=zr1308;refine thn (hb pins s1 σ H1 _ I1 q1) fun u s2 zr1309=>?_
 obtain⟨y,H2,I2,r2,q2⟩:=zr1309;exact hf v u s2 x y H2 I2 r1 r2 q2
theorem aN {op:Operator} {r:R2} (ho:OpR X (binaryOp op) r) (ha:PE X a ta) (hb:PE X b tb):PE X (.BinOp a op b pos) (tOp r ta tb):=by
 intro pins s σ H Q I h;exact wpAny_BinOp (C8 ha hb I h fun v u s2 x y H2 I2 rx ry q=>ho pins s2 σ H2 x y v u Q I2 rx ry q)
theorem iK {op:UnaryOp} {r:V→Hp→VK→Prop} (ho:UnR X (unaryOp op) r) (ha:PE X a ta):PE X (.UnaryOp op a pos) (tUn r ta):=by
 intro pins s σ H Q I h;exact UnaryOp_ (thn (ha pins s σ H _ I h) fun v s1 zq2=>by obtain⟨x,H1,I1,r1,q1⟩:=zq2;exact(ho pins s1 σ H1 x v Q I1 r1 q1))
theorem opI {f:Value→Value→Sem Value} {C:Int→Int→Prop}
  (rule : ∀(i j:Int) (t u:Tok) (s:Shared) (Q:Value→Shared→Prop) (E:Value→Shared→Prop),C i j→Q (.int (g i j) s.toks) { s with toks:=s.toks+1 }→wpAny (model X.prog X.w) X.A (f (.int i t) (.int j u)) Q E s) :
  OpR X f (rI C fun i j=>.int (g i j)):=by
 intro pins s σ H x y v u Q I rx ry h;obtain⟨i,j,rfl,rfl,hc,q⟩:=h;obtain⟨t,rfl⟩:=rx;obtain⟨t',rfl⟩:=ry;exact rule i j t t' s _ _ hc ⟨.int (g i j),H,I.tok _,⟨_,rfl⟩,q⟩
theorem Dz {f:Value→Value→Sem Value}
  (rule : ∀(i j:Int) (t u:Tok) (s:Shared) (Q:Value→Shared→Prop) (E:Value→Shared→Prop),Q (.int (g i j) s.toks) { s with toks:=s.toks+1 }→wpAny (model X.prog X.w) X.A (f (.int i t) (.int j u)) Q E s) :
  OpR X f (rI0 fun i j=>.int (g i j)):=by
 intro pins s σ H x y v u Q I rx ry h;obtain⟨i,j,rfl,rfl,q⟩:=h;obtain⟨t,rfl⟩:=rx;obtain⟨t',rfl⟩:=ry;exact rule i j t t' s _ _ ⟨.int (g i j),H,I.tok _,⟨_,rfl⟩,q⟩
theorem Ek {f:Value→Value→Sem Value} {g:Int→Int→Bool}
  (rule : ∀(i j:Int) (t u:Tok) (s:Shared) (Q:Value→Shared→Prop) (E:Value→Shared→Prop),Q (.bool (g i j)) s→wpAny (model X.prog X.w) X.A (f (.int i t) (.int j u)) Q E s) :
  OpR X f (rI0 fun i j=>.bl (g i j)):=by
 intro pins s σ H x y v u Q I rx ry h;obtain⟨i,j,rfl,rfl,q⟩:=h;obtain⟨t,rfl⟩:=rx;obtain⟨t',rfl⟩:=ry;exact rule i j t t' s _ _ ⟨.bl (g i j),H,I,rfl,q⟩
noncomputable def zI (i j:Int):Prop:=(-(2 ^ 64) < i∧i < 2 ^ 64)∨(-(2 ^ 64) < j∧j < 2 ^ 64)
theorem zI.ok {j:Int} (h:zI i j):IntMulOk i j:=by
 rcases h with⟨h1,h2⟩ | ⟨h1,h2⟩
 ·exact .of_left (intBits_le_64 h1 h2)
 ·exact .of_right (intBits_le_64 h1 h2)
theorem bw:OpR X (binaryOp .Add) (rI0 fun i j=>.int (i+j)):=Dz fun _ _ _ _ _ _ _ q=>add_int q
theorem gH:OpR X (binaryOp .Sub) (rI0 fun i j=>.int (i - j)):=Dz fun _ _ _ _ _ _ _ q=>sub_int q
theorem gX:OpR X (binaryOp .Mult) (rI zI fun i j=>.int (i * j)):=opI fun _ _ _ _ _ _ _ hc q=>mul_int q hc.ok
theorem gu:OpR X (binaryOp .Mod) (rI (fun _ j=>0 < j) fun i j=>.int (i % j)):=opI fun i j _ _ _ _ _ hc q=>by
 have h1:(0:Int) < j:=hc
 exact mod_int' (by omega) (by rw[Int.fmod_eq_emod_of_nonneg i (by omega)];exact q)
theorem unI {f:Value→Sem Value} {g:Int→Int}
  (rule : ∀(i:Int) (t:Tok) (s:Shared) (Q:Value→Shared→Prop) (E:Value→Shared→Prop),Q (.int (g i) s.toks) { s with toks:=s.toks+1 }→wpAny (model X.prog X.w) X.A (f (.int i t)) Q E s) :
  UnR X f (rU fun i=>.int (g i)):=by
 intro pins s σ H x v Q I rx h;obtain⟨i,rfl,q⟩:=h;obtain⟨t,rfl⟩:=rx;exact rule i t s _ _ ⟨.int (g i),H,I.tok _,⟨_,rfl⟩,q⟩
theorem fB:UnR X (unaryOp .USub) (rU fun i=>.int (-i)):=unI fun _ _ _ _ _ q=>neg_int q
end
noncomputable def rB:V→V→Bool
 | .non,.non=>true | .non,.int _=>true | .int _,.non=>true | .non,.bl _=>true | .bl _,.non=>true | .non,.str _=>true | .str _,.non=>true
 | .int _,.int _=>true | .bl _,.bl _=>true | .str _,.str _=>true | .byt _,.byt _=>true
 | .int _,.str _=>true | .str _,.int _=>true | .bl _,.str _=>true | .str _,.bl _=>true
 | _,_=>false
noncomputable def rEq:R2:=fun x y H Q=>rB x y=true∧Q (.bl (decide (x=y))) H
noncomputable def rNe:R2:=fun x y H Q=>rB x y=true∧Q (.bl (!decide (x=y))) H
theorem wM {j:Int}:decide (V.int i=V.int j)=(i == j):=by
 rw[Bool.eq_iff_iff];simp
theorem zz {i j:Bool}:decide (V.bl i=V.bl j)=(i == j):=by
 rw[Bool.eq_iff_iff];simp
theorem wJ {i j:Str}:decide (V.str i=V.str j)=(i == j):=by
 rw[Bool.eq_iff_iff];simp
theorem vR {i j:Array UInt8}:decide (V.byt i=V.byt j)=(i.toList == j.toList):=by
 rw[Bool.eq_iff_iff];cases i;cases j;simp
section
variable {X:Cx} {a b c:Expr} {ta tb tc:TE}
theorem ba {σ:St} {H:Hp} {Q:VK} {k k':Bool} (I:Inv X pins σ H s) (q:Q (.bl k) H) (e:k=k'):EP X pins σ Q (.bool k') s:=by
 subst e;exact⟨.bl k,H,I,rfl,q⟩
theorem aR:OpR X (compareOp .Eq) rEq:=by
 intro pins s σ H x y v u Q I rx ry h;obtain⟨hs,q⟩:=h;cases x with
 | non =>
  cases rx;cases y with
  | non=>cases ry;exact PySem.EqNone.eq_none_none (ba I q (by simp))
  | bl j=>cases ry;exact PySem.EqNone.eq_none_bool (ba I q (by simp))
  | int j=>obtain⟨t',rfl⟩:=ry;exact PySem.EqNone.eq_none_int (ba I q (by simp))
  | str j=>obtain⟨t',rfl⟩:=ry;exact PySem.EqNone.eq_none_str (ba I q (by simp))
  | _=>exact absurd (show false=true from hs) Bool.false_ne_true
 | bl i =>
  cases rx;cases y with
  | non=>cases ry;exact PySem.EqNone.eq_bool_none (ba I q (by simp))
  | bl j=>cases ry;exact eq_bool (ba I q zz)
  | str j=>obtain⟨t',rfl⟩:=ry;exact PySem.EqMixed.eq_bool_str (ba I q (by simp))
  | _=>exact absurd (show false=true from hs) Bool.false_ne_true
 | int i =>
  obtain⟨t,rfl⟩:=rx;cases y with
  | non=>cases ry;exact PySem.EqNone.eq_int_none (ba I q (by simp))
  | int j=>obtain⟨t',rfl⟩:=ry;exact eq_int (ba I q wM)
  | str j=>obtain⟨t',rfl⟩:=ry;exact PySem.EqMixed.eq_int_str (ba I q (by simp))
  | _=>exact absurd (show false=true from hs) Bool.false_ne_true
 | str i =>
  obtain⟨t,rfl⟩:=rx;cases y with
  | non=>cases ry;exact PySem.EqNone.eq_str_none (ba I q (by simp))
  | bl j=>cases ry;exact PySem.EqMixed.eq_str_bool (ba I q (by simp))
  | int j=>obtain⟨t',rfl⟩:=ry;exact PySem.EqMixed.eq_str_int (ba I q (by simp))
  | str j=>obtain⟨t',rfl⟩:=ry;exact eq_str (ba I q wJ)
  | _=>exact absurd (show false=true from hs) Bool.false_ne_true
 | byt i =>
  obtain⟨t,rfl⟩:=rx;cases y with
  | byt j=>obtain⟨t',rfl⟩:=ry;exact PySem.W.eq_bytes (ba I q vR)
  | _=>exact absurd (show false=true from hs) Bool.false_ne_true
 | _=>cases y <;> exact absurd (show false=true from hs) Bool.false_ne_true
theorem yd:OpR X (compareOp .NotEq) rNe:=by
 intro pins s σ H x y v u Q I rx ry h;obtain⟨hs,q⟩:=h;cases x with
 | non =>
  cases rx;cases y with
  | non=>cases ry;exact PySem.EqNone.ne_none_none (ba I q (by simp))
  | bl j=>cases ry;exact PySem.EqNone.ne_none_bool (ba I q (by simp))
  | int j=>obtain⟨t',rfl⟩:=ry;exact PySem.EqNone.ne_none_int (ba I q (by simp))
  | str j=>obtain⟨t',rfl⟩:=ry;exact PySem.EqNone.ne_none_str (ba I q (by simp))
  | _=>exact absurd (show false=true from hs) Bool.false_ne_true
 | bl i =>
  cases rx;cases y with
  | non=>cases ry;exact PySem.EqNone.ne_bool_none (ba I q (by simp))
  | bl j=>cases ry;exact ne_bool (ba I q (congrArg not zz))
  | str j=>obtain⟨t',rfl⟩:=ry;exact PySem.EqMixed.ne_bool_str (ba I q (by simp))
  | _=>exact absurd (show false=true from hs) Bool.false_ne_true
 | int i =>
  obtain⟨t,rfl⟩:=rx;cases y with
  | non=>cases ry;exact PySem.EqNone.ne_int_none (ba I q (by simp))
  | int j=>obtain⟨t',rfl⟩:=ry;exact ne_int (ba I q (congrArg not wM))
  | str j=>obtain⟨t',rfl⟩:=ry;exact PySem.EqMixed.ne_int_str (ba I q (by simp))
  | _=>exact absurd (show false=true from hs) Bool.false_ne_true
 | str i =>
  obtain⟨t,rfl⟩:=rx;cases y with
  | non=>cases ry;exact PySem.EqNone.ne_str_none (ba I q (by simp))
  | bl j=>cases ry;exact PySem.EqMixed.ne_str_bool (ba I q (by simp))
  | int j=>obtain⟨t',rfl⟩:=ry;exact PySem.EqMixed.ne_str_int (ba I q (by simp))
  | str j=>obtain⟨t',rfl⟩:=ry;exact ne_str (ba I q (congrArg not wJ))
  | _=>exact absurd (show false=true from hs) Bool.false_ne_true
 | byt i =>
  obtain⟨t,rfl⟩:=rx;cases y with
  | byt j=>obtain⟨t',rfl⟩:=ry;exact PySem.W.ne_bytes (ba I q (congrArg not vR))
  | _=>exact absurd (show false=true from hs) Bool.false_ne_true
 | _=>cases y <;> exact absurd (show false=true from hs) Bool.false_ne_true
theorem Bp:OpR X (compareOp .Lt) (rI0 fun i j=>.bl (decide (i < j))):=Ek fun _ _ _ _ _ _ _ q=>lt_int q
theorem sP:OpR X (compareOp .Gt) (rI0 fun i j=>.bl (decide (j < i))):=Ek fun _ _ _ _ _ _ _ q=>gt_int q
theorem nomark (b:Expr) {op:CmpOp} (h:op≠.In:=by decide) (h2:op≠.NotIn:=by decide):behindInMarks op b=false:=by
 have e1:(op == CmpOp.In)=false:=by cases op <;> first | rfl | exact absurd rfl h
 have e2:(op == CmpOp.NotIn)=false:=by cases op <;> first | rfl | exact absurd rfl h2
 cases b <;> simp[behindInMarks,e1,e2]
theorem jH {op:CmpOp} {r:R2} (ho:OpR X (compareOp op) r) (ha:PE X a ta) (hb:PE X b tb) (hm:behindInMarks op b=false:=by first | exact nomark _ | with_unfolding_all rfl):PE X (.Compare a [op] [b] pos) (tOp r ta tb):=by
 intro pins s σ H Q I h;exact wpAny_Compare1 (C8 ha hb I h fun v u s2 x y H2 I2 rx ry q=>ho pins s2 σ H2 x y v u Q I2 rx ry q) hm
noncomputable def tG (t:TE):TT:=fun σ H Q=>t σ H fun x H'=>∃k,x = .bl k∧Q k H'
theorem ay {op:CmpOp} {r:R2} (ho:OpR X (compareOp op) r) (ha:PE X a ta) (hb:PE X b tb) (hm:behindInMarks op b=false:=by first | exact nomark _ | with_unfolding_all rfl):PT X (.Compare a [op] [b] pos) (tG (tOp r ta tb)):=by
 intro pins s σ H Q I h;refine wpAny_isTrue_Compare1 (thn (ha pins s σ H _ I h) fun v s1 ⟨x,H1,I1,r1,q1⟩=>thn (hb pins s1 σ H1 _ I1 q1) fun u s2 ⟨y,H2,I2,r2,q2⟩ =>
  thn (ho pins s2 σ H2 x y v u _ I2 r1 r2 q2) fun c s3 ⟨z,H3,I3,r3,k,e,q3⟩=>?_) hm
 subst e;cases r3;exact wpAny_truthy_bool ⟨H3,I3,q3⟩
theorem iO:(sizeLine:Nat) < 2 ^ 63:=by rw[sizeLine_eq];decide
theorem uV:OpR X (binaryOp .Add) (fun x y H Q=>∃i j,x = .str i∧y = .str j∧i.length+j.length≤sizeLine∧Q (.str (i++j)) H):=by
 intro pins s σ H x y v u Q I rx ry h;obtain⟨i,j,rfl,rfl,hz,q⟩:=h;obtain⟨t,rfl⟩:=rx;obtain⟨t',rfl⟩:=ry;exact add_str (fun t' tk=>⟨.str (i++j),H,I.tok _,⟨_,rfl⟩,q⟩) hz
theorem cS {x:V} (r:aT [x] us) : ∃u,us=[u]∧aX x u:=by
 cases r with
 | cons r1 r2=>cases r2;exact⟨_,rfl,r1⟩
theorem mM {x y:V} (r:aT [x,y] us) : ∃u w',us=[u,w']∧aX x u∧aX y w':=by
 cases r with
 | cons r1 r2 =>
  cases r2 with
  | cons r3 r4=>cases r4;exact⟨_,_,rfl,r1,r3⟩
theorem xJ (hc:X.calm=true):bC X (.builtin "max") (fun xs H Q=>∃i j,xs=[.int i,.int j]∧Q (.int (if j > i then j else i)) H):=by
 intro pins s σ H xs us Q I r h;obtain⟨i,j,rfl,q⟩:=h;obtain⟨u,w',rfl,⟨t,rfl⟩,⟨t',rfl⟩⟩:=mM r;refine max_two_ints (I.ok.hd hc) fun h' tk k=>⟨_,H,I.kept k,?_,q⟩
 by_cases hj:j > i
 ·rw[if_pos hj,if_pos hj];exact⟨_,rfl⟩
 ·rw[if_neg hj,if_neg hj];exact⟨_,rfl⟩
theorem xA (hc:X.calm=true):bC X (.builtin "min") (fun xs H Q=>∃i j,xs=[.int i,.int j]∧Q (.int (if j < i then j else i)) H):=by
 intro pins s σ H xs us Q I r h;obtain⟨i,j,rfl,q⟩:=h;obtain⟨u,w',rfl,⟨t,rfl⟩,⟨t',rfl⟩⟩:=mM r;refine min_two_ints (I.ok.hd hc) fun h' tk k=>⟨_,H,I.kept k,?_,q⟩
 by_cases hj:j < i
 ·rw[if_pos hj,if_pos hj];exact⟨_,rfl⟩
 ·rw[if_neg hj,if_neg hj];exact⟨_,rfl⟩
theorem xL:bC X (.type "int") (fun xs H Q=>(∃i,xs=[.int i]∧Q (.int i) H)∨∃k,xs=[.bl k]∧Q (.int (if k then 1 else 0)) H):=by
 intro pins s σ H xs us Q I r h;rcases h with⟨i,rfl,q⟩ | ⟨k,rfl,q⟩
 ·obtain⟨u,rfl,t,rfl⟩:=cS r
  exact call_int_int ⟨.int i,H,I,⟨_,rfl⟩,q⟩
 ·obtain⟨u,rfl,r1⟩:=cS r
  cases r1;exact call_int_bool ⟨.int (if k then 1 else 0),H,I.tok _,⟨_,rfl⟩,q⟩
end
structure Cg (h:Heap) (x dx C:Addr) (mA:Str→Option Value):Prop where
 obj:h.get? x=some (instObj C dx)
 ns:h.Ns1 dx mA
 ne:dx≠x
theorem xm (n:h.Ns1 dx mA) : ∃od,h.get? dx=some od∧∀name,lookIn name od=some (mA name):=by
 obtain⟨o,es,ep,ho,hd,hk,_,hm⟩:=n;refine⟨o,ho,fun name=>?_⟩
 have e:=hm name;unfold nsFind findBy at e;rw[← Array.find?_toList] at e;unfold lookIn;rw[hd];dsimp only
 split
 ·rename_i y q
  rw[q] at e;exact congrArg some e
 ·rename_i q
  rw[q] at e;have a:es.toList.any (·.refKey)=false:=by
   rw[List.any_eq_false];intro y hy;obtain⟨z,t,hkey⟩:=hk y (Array.mem_toList_iff.mp hy);simp[DictEntry.refKey,hkey]
  have a' : ¬ es.toList.any (·.refKey)=true:=by rw[a];exact Bool.false_ne_true
  rw[if_neg a'];exact congrArg some e
theorem Cg.look {x C:Addr} (I:Cg h x dx C mA) : ∃od,PySem.W.InstAt h x (instObj C dx) C (some od)∧∀name,lookIn name od=some (mA name) :=
 let ⟨od,ho,hl⟩:=xm I.ns
 ⟨od,⟨I.obj,rfl,rfl,ho⟩,hl⟩
theorem jc.some_of {v:V} {o:Option Value} (r:jc (some v) o) : ∃u,o=some u∧aX v u:=by
 cases o with
 | none=>exact(show False from r).elim
 | some u=>exact⟨u,rfl,r⟩
section
variable {H H':Hp} {C:Addr} {fs fs':List (Str × V)}
theorem AK (hok:HOk P w H h) (e:H a=some (.ins C dx fs)) : ∃mA,Cg h a dx C mA∧(∀f,jc (fs.lookup f) (mA f))∧PySem.Within mA (fs.map (·.1))∧fs.length≤1000∧H dx=some (.own a):=by
 obtain⟨d,z,ne,ob,mA,n,r,q⟩:=(show be P w H h a (.ins C dx fs) from hok a _ e)
 exact⟨mA,⟨ob,n,ne⟩,r,q,z,d⟩
end
structure Cls (K:PySem.W.Frag) (C:Addr):Prop where
 pg:plainGet K C Str.empty=true
 hd:PySem.W.hasDictIn K C=true
 po:PySem.W.plainOver K C=true
 sa:findIn K (.ref C) "__setattr__" = some (some (.builtin "object.__setattr__"))
theorem Cls.get {C:Addr} (c:Cls K C) (f:Str):plainGet K C f=true:=c.pg
section
variable {X:Cx} {σ:St} {H:Hp} {c:Value} {b:Bool}
inductive jW (K:PySem.W.Frag) (H:Hp):V→Value→Prop where
 | non:jW K H .non (.type "NoneType")
 | bl (x:Bool):jW K H (.bl x) (.type "bool")
 | int (i:Int):jW K H (.int i) (.type "int")
 | str (x:Str):jW K H (.str x) (.type "str")
 | flt (x:UInt64):jW K H (.flt x) (.type "float")
 | lst {a:Addr} {xs:List V} (e:H a=some (.lst xs)):jW K H (.ref a) (.type "list")
 | frz {a:Addr} {o:Obj} {xs:List V} (e:H a=some (.frz o (.lst xs))):jW K H (.ref a) (.type "list")
 | tup {a:Addr} {xs:List V} (e:H a=some (.tup xs)):jW K H (.ref a) (.type "tuple")
 | dK {a:Addr} {kvs:List (Key × V)} (e:H a=some (.dK kvs)):jW K H (.ref a) (.type "dict")
 | dT {a:Addr} {kvs:List (List Key × V)} (e:H a=some (.dT kvs)):jW K H (.ref a) (.type "dict")
 | ins {a C dx:Addr} {fs:List (Str × V)} (e:H a=some (.ins C dx fs)) (cl:Cls K C) (ha:findIn K (.ref C) "__class__" = some (some (.builtin "object.__class__")))
   (hn:PySem.W.specialIn K (.builtin "object.__class__") "__get__" = some (some (.builtin "getset_descriptor.__get__"))) (htk:PySem.W.takesIn K (.builtin "object.__class__")=some true)
   (hm:PySem.W.mroIn K C (.type "object")=some true):jW K H (.ref a) (.ref C)
theorem wW {x:V} {t:Value} (I:Inv X pins σ H s) (rx:aX x u) (ty:jW X.K H x t) (e:kitOne X.K t c=some b) (h : ∀tk,Q (.bool b) { s with toks:=tk }) :
  wpAny (model X.prog X.w) A (call (.builtin "isinstance") [u,c]) Q E s:=by
 cases ty with
 | non=>cases (show u=Value.none from rx);exact kia_one PySem.W.kitx_none I.kIn True.intro e (fun z=>nomatch z) h
 | bl y=>cases (show u=Value.bool y from rx);exact kia_one PySem.W.kitx_bool I.kIn True.intro e (fun z=>nomatch z) h
 | int i=>obtain⟨t,q⟩:=(show ∃t,u=Value.int i t from rx);cases q;exact kia_one PySem.W.kitx_int I.kIn True.intro e (fun z=>nomatch z) h
 | str y=>obtain⟨t,q⟩:=(show ∃t,u=Value.str y t from rx);cases q;exact kia_one PySem.W.kitx_str I.kIn True.intro e (fun z=>nomatch z) h
 | flt y=>obtain⟨t,q⟩:=(show ∃t,u=Value.float y t from rx);cases q;exact kia_one PySem.W.kitx_float I.kIn True.intro e (fun z=>nomatch z) h
 | @lst a xs ea =>
  cases (show u=Value.ref a from rx)
  obtain⟨_,_,n,_,h1⟩:=(show be X.prog X.w H s.heap a (.lst xs) from I.hok a _ ea)
  exact kia_one kitx_list I.kIn ⟨_,h1,rfl⟩ e (fun z=>nomatch z) h
 | @frz a ob xs ea =>
  cases (show u=Value.ref a from rx)
  obtain⟨_,_,_,n,_,h1⟩:=(show be X.prog X.w H s.heap a (.frz ob (.lst xs)) from I.hok a _ ea)
  exact kia_one kitx_list I.kIn ⟨_,h1,rfl⟩ e (fun z=>nomatch z) h
 | @tup a xs ea =>
  cases (show u=Value.ref a from rx)
  obtain⟨_,_,_,p⟩:=(show be X.prog X.w H s.heap a (.tup xs) from I.hok a _ ea)
  obtain⟨o,h1,h2,_⟩:=p;exact kia_one PySem.W.kitx_tuple I.kIn ⟨o,h1,h2⟩ e (fun z=>nomatch z) h
 | @dK a kvs ea =>
  cases (show u=Value.ref a from rx)
  obtain⟨_,_,vs,_,p⟩:=(show be X.prog X.w H s.heap a (.dK kvs) from I.hok a _ ea)
  obtain⟨o,es,ep,h1,h2,_⟩:=p;exact kia_one kitx_dict I.kIn ⟨o,h1,h2.1⟩ e (fun z=>nomatch z) h
 | @dT a kvs ea =>
  cases (show u=Value.ref a from rx)
  obtain⟨_,_,xs,_,o,es,ep,h1,h2,_⟩:=(show be X.prog X.w H s.heap a (.dT kvs) from I.hok a _ ea)
  exact kia_one kitx_dict I.kIn ⟨o,h1,h2.1⟩ e (fun z=>nomatch z) h
 | @ins a C dx fs ea cl ha hn htk hm =>
  cases (show u=Value.ref a from rx)
  obtain⟨mA,O,_⟩:=AK I.hok ea;obtain⟨od,J,_⟩:=O.look;exact kia_one (PySem.W.kitx_own (cl.get _) cl.hd ha hn htk hm) I.kIn J e (fun z=>nomatch z) h
end
structure cu (k:Nat) (A:Around):Prop where
 hd:A.handled=none
 dp:A.depth+3 * k+5 < recursionLimit
 un:A.units+16 * k+200 < cLine
theorem cu.mono (r:cu k A) (h:j≤k):cu j A:=⟨r.hd,by have:=r.dp;omega,by have:=r.un;omega⟩
theorem cu.deeper {k:Nat} {A:Around} (r:cu (k+1) A) (env:Env):cu k (A.deeper env) :=
 ⟨r.hd,by have:=r.dp;show A.depth+1+3 * k+5 < _;omega,by have:=r.un;show A.units+3+16 * k+200 < _;omega⟩
theorem cu.depth {k:Nat} {A:Around} (r:cu k A):A.depth < recursionLimit:=by have:=r.dp;omega
theorem cu.units {k:Nat} {A:Around} (r:cu k A):A.units+64 < cLine:=by have:=r.un;omega
noncomputable def uq:TA:=fun _ H Q=>Q [] H
noncomputable def jK (ta:TE) (tr:TA):TA:=fun σ H Q=>ta σ H fun x H1=>tr σ H1 fun xs H2=>Q (x :: xs) H2
section
variable {X:Cx} {te:TE} {t:TA}
theorem ac:PA X [] uq:=fun _ _ _ _ H Q I h=>Calls.spliced_nil ⟨[],H,I,.nil,h⟩
theorem aa (ha:PE X e te) (hr:PA X es t) (hs:starEach (e :: es) X.env=(false,eval e X.env) :: starEach es X.env:=by rfl):PA X (e :: es) (jK te t):=by
 intro pos pins s σ H Q I h;rw[hs]
 show wpAny _ _ (spliced ((false,eval e X.env) :: backTo pos (starEach es X.env))) _ _ s
 refine Calls.spliced_cons (thn (ha pins s σ H _ I h) fun u s1 zr1646=>?_)
 obtain⟨x,H1,I1,r1,q1⟩:=zr1646;exact thn (hr pos pins s1 σ H1 _ I1 q1) fun us s2 zq3=>by obtain⟨xs,H2,I2,r2,q2⟩:=zq3;exact(⟨x :: xs,H2,I2,.cons r1 r2,q2⟩)
noncomputable def A5 (t:TA):TE:=fun σ H Q=>t σ H fun xs H1=>xs.length≤sizeLine∧∀p,H1 p=none→Q (.ref p) (upd H1 p (.tup xs))
noncomputable def Aj (t:TA):TE:=fun σ H Q=>t σ H fun xs H1=>xs.length≤sizeLine∧∀p,H1 p=none→Q (.ref p) (upd H1 p (.lst xs))
theorem aE {x1} (h:PA X es t):PE X (.Tuple es x1 pos) (A5 t):=by
 intro pins s σ H Q I hq;refine wpAny_Tuple_spliced (thn (h pos pins s σ H _ I hq) fun us s1 ⟨xs,H1,I1,r,z,q⟩=>⟨by rw[← r.length];exact z,?_⟩)
 have hf:H1 s1.heap.objs.size=none:=I1.hok.fresh (le_refl _)
 refine⟨.ref s1.heap.objs.size,upd H1 s1.heap.objs.size (.tup xs),I1.laid (t':=s1.toks) (fun b u e=>Heap.get?_push_of_some _ e) (le_refl _) ?_,rfl,q _ hf⟩
 exact⟨z,us,r,⟨_,Heap.get?_push_size _ rfl,rfl,_,rfl⟩⟩
theorem bA (h:PA X es t):PE X (.List es pos) (Aj t):=by
 intro pins s σ H Q I hq;refine wpAny_List_spliced (thn (h pos pins s σ H _ I hq) fun us s1 ⟨xs,H1,I1,r,z,q⟩=>⟨by rw[← r.length];exact z,?_⟩)
 have hf:H1 s1.heap.objs.size=none:=I1.hok.fresh (le_refl _)
 refine⟨.ref s1.heap.objs.size,upd H1 s1.heap.objs.size (.lst xs),I1.laid (t':=s1.toks) (fun b u e=>Heap.get?_push_of_some _ e) (le_refl _) ?_,rfl,q _ hf⟩
 exact⟨z,us,0,r,Heap.get?_push_size _ rfl⟩
end
noncomputable abbrev Sp:=List V→Hp→VK→XK→Prop
noncomputable abbrev CXT:=List Env→Hp→Shared→XK→Value→Shared→Prop
structure AG (P:Program) (w:World) (K:PySem.W.Frag) (mg:Str→Option Value) (base:Heap) (A:Around) (outer:List Env) (s:Shared) (H:Hp):Prop where
 frames:A.frames=some outer
 mod:Mod K mg base
 bs : ∀b o,base.get? b=some o→s.heap.get? b=some o∧H b=none
 bsz:base.objs.size≤s.heap.objs.size
 funs:s.heap.FunFrames base outer
 frf : ∀b∈frs outer,H b=none
 hok:HOk P w H s.heap
 bare:AllBare s.gens
noncomputable def CE (outer:List Env) (P:Program) (w:World) (H:Hp) (s:Shared) (Q:VK) (u:Value) (s':Shared):Prop :=
 ∃v H',s'.os=s.os∧AllBare s'.gens∧Un (frs outer) [] H H' s.heap s'.heap∧HOk P w H' s'.heap∧aX v u∧Q v H'
noncomputable def CR (CX:CXT) (outer:List Env) (P:Program) (w:World) (H:Hp) (s:Shared) (Q:VK) (E:XK) (r:Result) (s':Shared):Prop :=
 match r with
 | .ok (.ret u)=>CE outer P w H s Q u s'
 | .ok _=>False
 | .error e=>CX outer H s E e s'
structure gY (P:Program) (w:World) (K:PySem.W.Frag) (mg:Str→Option Value) (base:Heap) (CX:CXT) (k:Nat) (f:Addr) (fd:FuncData) (ps:List Str) (sp:Sp):Prop where
 len : ∀vs H Q E,sp vs H Q E→vs.length=ps.length
 run : ∀(A:Around) (outer:List Env) (s:Shared) (H:Hp) (args:Args) (us:List Value) (vs:List V) (Q:VK) (E:XK),cu k A→AG P w K mg base A outer s H→BindsTo s fd args (ps.zip us)→aT vs us→sp vs H Q E →
  codeAny (model P w) A (.call (.ref f) args) (CR CX outer P w H s Q E) s
theorem gY.mono {P:Program} {w:World} {K:PySem.W.Frag} {mg:Str→Option Value} {base:Heap} {CX:CXT} {j k:Nat} {f:Addr} {fd:FuncData} {ps:List Str} {sp:Sp} (F:gY P w K mg base CX j f fd ps sp) (h:j≤k) :
  gY P w K mg base CX k f fd ps sp:=⟨F.len,fun A outer s H args us vs Q E hr=>F.run A outer s H args us vs Q E (hr.mono h)⟩
theorem gY.imp {CX:CXT} {sp sp':Sp} (F:gY P w K mg base CX k f fd ps sp)
  (h : ∀vs H Q E,sp' vs H Q E→sp vs H Q E):gY P w K mg base CX k f fd ps sp' :=
 ⟨fun vs H Q E q=>F.len vs H Q E (h _ _ _ _ q),fun A outer s H args us vs Q E hr he hb hv hs=>F.run A outer s H args us vs Q E hr he hb hv (h _ _ _ _ hs)⟩
section
variable {X:Cx} {σ:St} {H:Hp}
theorem Inv.env0 (I:Inv X pins σ H s):AG X.prog X.w X.K X.mg X.base X.A X.stack s H :=
 ⟨I.ok.frames,I.ok.mod,I.bs,le_trans I.ok.bsz I.sz,I.stack,I.stkFree,I.hok,I.bare⟩
theorem Inv.after {Q:VK} (I:Inv X pins σ H s) (h:CE X.stack X.prog X.w H s Q u s'):EP X pins σ Q u s':=by
 obtain⟨v,H',os,bare,un,hok,r,q⟩:=h;obtain⟨hh,g,d,t,os'⟩:=s';obtain rfl:os'=s.os:=os
 exact⟨v,H',I.call (h':=hh) (g':=g) (d':=d) (t':=t) (ch:=[]) un hok bare (fun b z=>absurd z (by simp)),r,q⟩
end
noncomputable def rW (sp:Sp) (dvs:List V) (E:XK) (t:TA):TE:=fun σ H Q=>t σ H fun vs H1=>sp (vs++dvs) H1 Q E
noncomputable def jA (K:PySem.W.Frag) (fd:FuncData) (ps:List Str) (ds:List Value):Prop :=
 ∀(s:Shared) (us:List Value),K.In s.heap→(us++ds).length=ps.length→BindsTo s fd ⟨us,[]⟩ (ps.zip (us++ds))
theorem jA.all (h : ∀us:List Value,us.length=ps.length→bindArgs fd ⟨us,[]⟩=pure (ps.zip us)):jA K fd ps []:=fun s us _ hl=>by
 rw[append_nil] at hl ⊢;exact .of_eq (h us hl)
noncomputable def uF (CX:CXT) (X:Cx) (E:XK):Prop:=∀(pins:List (Addr × Obj)) (σ:St) (H:Hp) (s:Shared) (e:Value) (s':Shared),Inv X pins σ H s→CX X.stack H s E e s'→X.xe e s'
section
variable {X:Cx} {CX:CXT} {C:Addr} {sp:Sp} {dvs:List V} {ds:List Value} {E:XK} {m:Str} {p:Pos} {o:Expr} {ta:TE} {t:TA}
theorem qM {σ:St} {H:Hp} {Q:VK} {vs:List V} (F:gY X.prog X.w X.K X.mg X.base CX k f fd ps sp) (hr:cu k X.A) (hb:jA X.K fd ps ds) (hd:aT dvs ds) (hx:uF CX X E)
  (I:Inv X pins σ H s) (r:aT vs us) (h:sp (vs++dvs) H Q E):wpAny (model X.prog X.w) X.A (call (.ref f) us) (EP X pins σ Q) X.xe s:=by
 have r2:aT (vs++dvs) (us++ds):=r.append hd
 have hl:(us++ds).length=ps.length:=by rw[← r2.length];exact F.len _ _ _ _ h
 refine wpAny_call (codeAny_mono (F.run X.A X.stack s H ⟨us,[]⟩ (us++ds) (vs++dvs) Q E hr I.env0 (hb s us I.kIn hl) r2 h) fun r s' hq=>?_)
 cases r with
 | error e=>exact hx pins σ H s e s' I hq
 | ok fl =>
  cases fl with
  | ret u=>exact I.after hq
  | next=>exact False.elim hq
  | brk=>exact False.elim hq
  | cont=>exact False.elim hq
theorem A3 (F:gY X.prog X.w X.K X.mg X.base CX k f fd ps sp) (hr:cu k X.A) (hg:Gl X x) (hm:X.mg x=some (.ref f)) (hk:keepIn X.K (.ref f)=true) (hb:jA X.K fd ps ds) (hd:aT dvs ds) (hx:uF CX X E)
  (ha:PA X (e :: es) t) (hdb:(x ==("__debug__" : Str))=false:=by decide) (he:starEach (e :: es) X.env=(false,eval e X.env) :: starEach es X.env:=by rfl) (hpl:(backTo pos (starEach es X.env)).any (·.1)=false:=by rfl) :
  PE X (.Call (.Name x p) (e :: es) [] pos) (rW sp dvs E t):=by
 intro pins s σ H Q I h;refine wpAny_Call_Name_kw (qA I hg hm ?_ hdb)
 refine callWith_K (h₀:=X.base) I.ok.mod.kin hk (thn (ha pos pins s σ H _ I h) fun us s1 ⟨vs,H1,I1,r,q⟩=>⟨I1.kIn,?_⟩) he hpl
 exact qM F hr hb hd hx I1 r q
end
structure aH (N P:List Str) (sc:Scope):Prop where
 kind:sc.kind = .function
 co:sc.isCoroutine=false
 gen:sc.isGenerator=false
 nd:N.Nodup
 pre:N.take P.length=P
 par : ∀x∈P,sc.names.lookup x=some .local∨sc.names.lookup x=some .cell
 nofree : ∀y∈sc.names,y.2≠.free
theorem pX {kindOf:Str→Option NameKind} {x:Str} : ∀{binds:List (Str × Value)} {m:Str→Option Value},(∀v,(x,v)∉binds)→bindL kindOf binds m x=m x
 | [],_,_=>rfl
 | (n,v) :: r,m,h=>by
  unfold bindL;rw[pX fun w hw=>h w (mem_cons_of_mem _ hw)]
  split
  ·have:x≠n:=by rintro rfl;exact h v mem_cons_self
   simp[this]
  ·rfl
theorem pZ {kindOf:Str→Option NameKind} {x:Str} : ∀{binds:List (Str × Value)} {m:Str→Option Value},(∀v,(x,v)∉binds)→bindC kindOf binds m x=m x
 | [],_,_=>rfl
 | (n,v) :: r,m,h=>by
  unfold bindC;rw[pZ fun w hw=>h w (mem_cons_of_mem _ hw)]
  split
  ·rfl
  ·have:x≠n:=by rintro rfl;exact h v mem_cons_self
   simp[this]
theorem pv {kindOf:Str→Option NameKind} {x:Str} {v:Value} : ∀{P:List Str} {vs:List Value} {i:Nat} {m:Str→Option Value},P.Nodup→P[i]? = some x→vs[i]? = some v→kindOf x=some .local →
  bindL kindOf (P.zip vs) m x=some v
 | [],_,_,_,_,h,_,_=>by simp at h
 | _ :: _,[],_,_,_,_,h,_=>by simp at h
 | p :: P,w :: vs,0,m,nd,h1,h2,hk=>by
  simp at h1 h2;subst h1;subst h2
  show bindL kindOf ((p,w) :: P.zip vs) m p=_
  unfold bindL;rw[pX fun v hv=>(nodup_cons.mp nd).1 (of_mem_zip hv).1,if_pos hk]
  simp
 | p :: P,w :: vs,i+1,m,nd,h1,h2,hk=>by
  show bindL kindOf ((p,w) :: P.zip vs) m x=_
  unfold bindL;exact pv (i:=i) (nodup_cons.mp nd).2 (by simpa using h1) (by simpa using h2) hk
theorem pP {kindOf:Str→Option NameKind} {x:Str} {v:Value} : ∀{P:List Str} {vs:List Value} {i:Nat} {m:Str→Option Value},P.Nodup→P[i]? = some x→vs[i]? = some v→kindOf x≠some .local →
  bindC kindOf (P.zip vs) m x=some v
 | [],_,_,_,_,h,_,_=>by simp at h
 | _ :: _,[],_,_,_,_,h,_=>by simp at h
 | p :: P,w :: vs,0,m,nd,h1,h2,hk=>by
  simp at h1 h2;subst h1;subst h2
  show bindC kindOf ((p,w) :: P.zip vs) m p=_
  unfold bindC;rw[pZ fun v hv=>(nodup_cons.mp nd).1 (of_mem_zip hv).1,if_neg hk]
  simp
 | p :: P,w :: vs,i+1,m,nd,h1,h2,hk=>by
  show bindC kindOf ((p,w) :: P.zip vs) m x=_
  unfold bindC;exact pP (i:=i) (nodup_cons.mp nd).2 (by simpa using h1) (by simpa using h2) hk
noncomputable def fM (N:List Str) (vs:List V):St:=vs.map some++replicate (N.length - vs.length) none
noncomputable def rn (CX:CXT) (P:Program) (w:World) (K:PySem.W.Frag) (mg:Str→Option Value) (base:Heap) (N:List Str) (qual:Str) (scope:Scope) (f:Addr) (cd:Value) (A:Around) (outer:List Env) (s:Shared) (H:Hp) (E:XK):Cx where
 prog:=P
 w:=w
 K:=K
 mg:=mg
 base:=base
 A:=A.deeper (envOfC qual scope s.heap.objs.size f cd)
 N:=N
 s₀:=s
 H₀:=H
 env:=envOfC qual scope s.heap.objs.size f cd
 outer:=outer
 stack:=envOfC qual scope s.heap.objs.size f cd :: outer
 ex:=[]
 calm:=true
 fn:=fun _=>true
 pn:=[]
 xe:=fun e s'=>wpAny (model P w) (A.deeper (envOfC qual scope s.heap.objs.size f cd)) (leaving (envOfC qual scope s.heap.objs.size f cd) e) (fun _ s''=>CX outer H s E e s'') (fun e' s''=>CX outer H s E e' s'') s'
theorem sL (h:sc.names.lookup x=some .cell) : ∃c,(cellsFrom n sc.names []).lookup x=some c:=by
 have q:=PySem.W.cellsFrom_some sc.names n [] (.inl h);exact isSome_iff_exists.mp q
theorem xn {CX:CXT} {s1:Shared} {H:Hp} {E:XK} {vs:List V}
  (S:aH N ps scope) (hd:A.handled=none) (e0:AG P w K mg base A outer s H) (hl:vs.length=ps.length) (r:aT vs us)
  (x:InCallC s s.heap.objs.size (bindL (envOfC qual scope s.heap.objs.size f cd).kindOf (ps.zip us) fun _=>none) (cellsFrom (s.heap.objs.size+1) scope.names []) (bindC (envOfC qual scope s.heap.objs.size f cd).kindOf (ps.zip us) fun _=>none) s1) :
  Inv (rn CX P w K mg base N qual scope f cd A outer s H E) [] (fM N vs) H s1:=by
 have hpl:ps.length≤N.length:=by have:=congrArg List.length S.pre;rw[length_take] at this;omega
 obtain⟨h1,tk,rfl,hk⟩:=x.done;have noA : ∀b:Addr,b∉(rn CX P w K mg base N qual scope f cd A outer s H E).ex:=fun b z=>absurd (show b∈([]:List Addr) from z) (by simp)
 refine⟨⟨e0.mod,S.kind,rfl,rfl,le_refl _,fun y z c h1 h2=>?_,fun y hy=>?_,fun y c _ h=>?_,fun _=>hd,Around.frames_deeper e0.frames,.inr ⟨rfl,rfl⟩,fun b z=>absurd z (noA b),e0.bs,e0.bsz,fun b _ _=>noA b,fun b z=>absurd z (noA b),e0.funs,e0.frf⟩,
  rfl,e0.bare,Un.kept hk,⟨_,x.toInCall.ns,fun i y v h1 h2 h3=>?_⟩,fun y c h=>⟨_,x.cell y c h⟩,e0.hok.fresh (le_refl _),fun y c h=>?_,fun p hp=>absurd (show p∈([]:List (Addr × Obj)) from hp) (by simp),e0.hok.kept hk,?_⟩
 ·exact name_of_addr x.apart (PySem.mem_of_lookup h1) (PySem.mem_of_lookup h2)
 ·have hy:scope.names.lookup y=some .cell∨scope.names.lookup y=some .free:=hy
  rcases hy with hy | hy
  ·exact sL hy
  ·exact absurd rfl (S.nofree _ (PySem.mem_of_lookup hy))
 ·exact le_of_lt (x.above y c (PySem.mem_of_lookup h))
 ·have hi:i < vs.length:=by
   unfold fM at h2
   by_cases hi:i < vs.length
   ·exact hi
   ·rw[List.getElem?_append_right (by simpa using hi)] at h2
    rw[List.getElem?_replicate] at h2
    split at h2 <;> cases h2
  have ha:vs[i]? = some v:=by
   unfold fM at h2;rw[List.getElem?_append_left (by simpa using hi),List.getElem?_map] at h2
   cases e:vs[i]? with
   | none=>rw[e] at h2;cases h2
   | some a=>rw[e] at h2;cases h2;rfl
  obtain⟨u,hu,rv⟩:=r.get ha;have hp:ps[i]? = some y:=by
   rw[← S.pre,List.getElem?_take_of_lt (by omega)];exact h1
  have ndP:ps.Nodup:=by rw[← S.pre];exact S.nd.sublist (take_sublist _ _)
  refine⟨u,rv,?_⟩
  rcases S.par y (mem_of_getElem? hp) with k | k
  ·exact .inl ⟨k,pv ndP hp hu k⟩
  ·obtain⟨c,e⟩:=sL (n:=s.heap.objs.size+1) k
   refine .inr ⟨.inl k,c,e,?_⟩
   have q:=x.cell y c e;rw[pP ndP hp hu (by show scope.names.lookup y≠_;rw[k];decide)] at q
   exact q
 ·exact e0.hok.fresh (le_of_lt (x.above y c (PySem.mem_of_lookup h)))
 ·unfold fM
  show _=N.length
  rw[length_append,length_map,List.length_replicate];omega
theorem Be {CX:CXT} {dV kV:Value} {an:Option Addr}
   {sp:Sp} (lk:K.lookup f=some ⟨oc,od,.func (fnOf name qual params body scope dV kV doc pm an cdv ct),osl⟩) (hcd:codeIn K cdv qual=true) (S:aH N ps scope)
  (len : ∀vs H Q E,sp vs H Q E→vs.length=ps.length)
  (hbody : ∀(A:Around) (outer:List Env) (s:Shared) (H:Hp) (vs:List V) (Q:VK) (E:XK),cu k (A.deeper (envOfC qual scope s.heap.objs.size f cdv))→sp vs H Q E →
   ∃t,PSs (rn CX P w K mg base N qual scope f cdv A outer s H E) body t∧t { nx:=fun _ H'=>Q .non H',rt:=Q } (fM N vs) H) :
  gY P w K mg base CX (k+1) f (fnOf name qual params body scope dV kV doc pm an cdv ct) ps sp:=by
 refine⟨len,fun A outer s H args us vs Q E hr e0 hb r hsp=>?_⟩
 have hl:=len _ _ _ _ hsp;have KX:K.In s.heap:=e0.mod.kin.keeps fun b o e=>(e0.bs b o e).1
 have lim:s.heap.NoLimit:=e0.mod.nolimit.keeps fun b o e=>(e0.bs b o e).1
 have hkind : ∀y∈ps.zip us,scope.names.lookup y.1=some .local∨(scope.names.lookup y.1=some .cell∧((cellsFrom (s.heap.objs.size+1) scope.names []).lookup y.1).isSome=true):=fun⟨n,v⟩ hy=>by
  rcases S.par n (of_mem_zip hy).1 with q | q
  ·exact .inl q
  ·exact .inr ⟨q,PySem.W.cellsFrom_some _ _ _ (.inl q)⟩
 refine codeAny_call_function hr.depth (KX _ _ lk) rfl S.co S.gen rfl (PySem.W.codeRec_of KX hcd) (hb _ _ _ _ ?_)
 refine wpAny_newFunctionEnv_cells S.kind hkind fun env he s1 x=>?_
 subst he;refine⟨lim.keeps x.toInCall.keep,codeAny_func ?_⟩
 obtain⟨t,ht,hq⟩:=hbody A outer s H vs Q E (hr.deeper _) hsp;have I:Inv (rn CX P w K mg base N qual scope f cdv A outer s H E) [] (fM N vs) H s1:=xn S hr.hd e0 hl r x
 refine wpAny_mono (ht [] s1 (fM N vs) H _ I hq) (fun fl s' hs=>?_) fun e s' hs=>hs
 have fin : ∀{σ':St} {H':Hp} {v:V} {u:Value},Inv (rn CX P w K mg base N qual scope f cdv A outer s H E) [] σ' H' s'→aX v u→Q v H'→CE outer P w H s Q u s' :=
  fun {σ' H' v u} J rv q=>⟨v,H',J.os,J.bare,J.base,J.hok,rv,q⟩
 cases fl with
 | ret u =>
  obtain⟨v,σ',H',J,rv,q⟩:=hs;exact fin J rv q
 | next =>
  obtain⟨σ',H',J,q⟩:=hs;exact fin (v:=V.non) (u:=Value.none) J rfl q
 | brk =>
  obtain⟨_,_,_,q⟩:=hs;exact False.elim q
 | cont =>
  obtain⟨_,_,_,q⟩:=hs;exact False.elim q
section
variable {X:Cx} {p:Pos} {t:TA} {id:String} {r:List V→Hp→VK→Prop}
noncomputable def tCB (r:List V→Hp→VK→Prop) (t:TA):TE:=fun σ H Q=>t σ H fun vs H1=>r vs H1 Q
theorem aG (hc:bC X (.builtin id) r) (hm:X.mg x=none) (ha:PA X (e :: es) t) (hg:Gl X x:=by exact rfl) (hv:bootBuiltins x=some (.builtin id):=by decide+kernel) (hn:x ≠ "__name__" := by decide) (hdb:(x ==("__debug__" : Str))=false:=by decide)
  (he:starEach (e :: es) X.env=(false,eval e X.env) :: starEach es X.env:=by rfl) (hpl:(backTo pos (starEach es X.env)).any (·.1)=false:=by rfl):PE X (.Call (.Name x p) (e :: es) [] pos) (tCB r t):=by
 intro pins s σ H Q I h;refine wpAny_Call_Name_kw (eE I hg hm hv ?_ hn hdb)
 exact PyProof.Rows.callWith_builtin1 (thn (ha pos pins s σ H _ I h) fun us s1 zq4=>by obtain⟨vs,H1,I1,r1,q1⟩:=zq4;exact(hc pins s1 σ H1 vs us Q I1 r1 q1)) he hpl
theorem aF (hc:bC X (.type T) r) (hm:X.mg x=none) (ha:PA X (e :: es) t) (hg:Gl X x:=by exact rfl) (hv:bootBuiltins x=some (.type T):=by decide+kernel) (hn:x ≠ "__name__" := by decide) (hdb:(x ==("__debug__" : Str))=false:=by decide)
  (he:starEach (e :: es) X.env=(false,eval e X.env) :: starEach es X.env:=by rfl) (hpl:(backTo pos (starEach es X.env)).any (·.1)=false:=by rfl):PE X (.Call (.Name x p) (e :: es) [] pos) (tCB r t):=by
 intro pins s σ H Q I h;refine wpAny_Call_Name_kw (eE I hg hm hv ?_ hn hdb)
 exact PyProof.Rows.callWith_type1 (thn (ha pos pins s σ H _ I h) fun us s1 zq5=>by obtain⟨vs,H1,I1,r1,q1⟩:=zq5;exact(hc pins s1 σ H1 vs us Q I1 r1 q1)) he hpl
end
end L2
variable {C:L2.Hp→Prop} {CX:L2.CXT} {D:L2.ll} {H H' H1 H2:L2.Hp} {J:L2.It} {X:L2.Cx} {dvs vs xs:List L2.V} {fs l0:List L2.Key} {fs':List (PySem.Str × L2.V)} {kvs:List (L2.Key × L2.V)} {m:List (L2.Key × L2.Key)} {o o' u0:L2.HO} {r r':L2.V→Option Int→Option Int→L2.Hp→L2.VK→Prop} {rb:L2.Key→List Int} {sp sp':L2.Sp} {ta tb td te tl to tv ty:L2.TE} {tc:L2.TT} {trs:List (L2.TE × L2.TE)} {vb:List (L2.Key × PySem.Value)} {wi:L2.TI} {y:L2.V} {zs:List (L2.V × PySem.Str)} {σ σ0:L2.St} {σ':List (Option L2.V)}
namespace HT
open PySem PyProof.Rows
theorem cat_tup {vs ws:List Value} (ht:IsTup s.heap t vs.toArray) (hb:IsTup s.heap b ws.toArray) (hv:vs≠[])
  (h1:ws=[]→Q (.ref t) s) (h2:ws≠[]→Q (.ref s.heap.objs.size) { s with heap:=s.heap.push { cls:=.type "tuple",data:=.seq (vs++ws).toArray } })
  (hsz:vs.length+ws.length≤sizeLine):wpAny (model prog w) A (binaryOp .Add (.ref t) (.ref b)) Q E s:=by
 obtain⟨⟨cls,dd,data,sl⟩,ho,hc,n,hd⟩:=id ht;obtain⟨⟨cls2,dd2,data2,sl2⟩,ho2,hc2,n2,hd2⟩:=id hb;simp only at hc hd hc2 hd2;subst hc hd hc2 hd2;have e:vs.toArray++ws.toArray=(vs++ws).toArray:=by simp
 by_cases hw:ws=[]
 ·exact concat_meets ⟨_,ho,rfl⟩ ⟨_,ho2,rfl⟩ noFill_tuple_add seq_tuple_add PySem.F.slot_tuple_add PySem.F.entry_tuple_add (PySem.F.args_tuple_add_2 _ _)
   (tuple_addW1 t b vs.toArray ws.toArray n n2 dd dd2 sl sl2 (by simpa using hv) (by simp[hw])) ⟨ho,ho2,h1 hw⟩
 ·refine concat_meets ⟨_,ho,rfl⟩ ⟨_,ho2,rfl⟩ noFill_tuple_add seq_tuple_add PySem.F.slot_tuple_add PySem.F.entry_tuple_add (PySem.F.args_tuple_add_2 _ _)
   (tuple_addW2 t b vs.toArray ws.toArray n n2 dd dd2 sl sl2 (by simpa using hv) (by simpa using hw) (by rw[size_toArray,size_toArray];exact hsz)) ⟨ho,ho2,?_⟩
  rw[e];exact h2 hw
noncomputable def sIx (n d:Nat):Option Int→Nat
 | none=>d
 | some v=>if v < 0 then(v+(n:Int)).toNat else min v.toNat n
theorem sIx_none (n d:Nat):sIx n d none=d:=rfl
theorem sIx_nat (n d k:Nat):sIx n d (some (k:Int))=min k n:=by
 show(if (k:Int) < 0 then((k:Int)+(n:Int)).toNat else min (k:Int).toNat n)=min k n
 rw[if_neg (by omega),Int.toNat_natCast]
theorem sIx_le (n d:Nat) (hd:d≤n) (o:Option Int):sIx n d o≤n:=by
 cases o with
 | none=>exact hd
 | some v =>
  show(if v < 0 then(v+(n:Int)).toNat else min v.toNat n)≤n
  by_cases hv:v < 0
  ·rw[if_pos hv];omega
  ·rw[if_neg hv];exact Nat.min_le_right _ _
theorem wK (v:Int) (n d:Nat):(if v < 0 then max (v+(n:Int)) 0 else min v (n:Int))=((sIx n d (some v):Nat):Int):=by
 show(if v < 0 then max (v+(n:Int)) 0 else min v (n:Int))=(((if v < 0 then(v+(n:Int)).toNat else min v.toNat n):Nat):Int)
 by_cases hv:v < 0
 ·simp only[if_pos hv];omega
 ·simp only[if_neg hv];omega
theorem uW (lo hi:Option Int) (n:Nat):Builtin.Slice.sliceAdjust lo hi 1 (n:Int)=(((sIx n 0 lo:Nat):Int),((sIx n n hi:Nat):Int)):=by
 have h1 : ¬ ((1:Int) < 0):=by omega
 unfold Builtin.Slice.sliceAdjust;simp only[h1,if_false];refine Prod.ext ?_ ?_
 ·cases lo with
  | none=>rfl
  | some v=>exact wK v n 0
 ·cases hi with
  | none=>rfl
  | some v=>exact wK v n n
theorem uS (i j:Nat):Builtin.Slice.slicePlaces (i:Int) (j:Int) 1=j - i:=by
 unfold Builtin.Slice.slicePlaces;have h1:(1:Int) > 0:=by omega
 simp only[h1,if_true,Int.ediv_one]
 split <;> omega
theorem mJ {o:Option Int} {Q:Option Int→Shared→Prop} (p:IsPart v o) (h:Q o s):wpAny (model prog w) A (Builtin.Slice.slicePartIndex v) Q E s:=by
 cases p with
 | none=>exact slicePart_none h
 | int i t=>exact slicePart_int h
theorem fK {sl:Addr} {Q:Int × Int × Nat→Shared→Prop} (hs:s.heap.IsSliceOf sl vl vu .none) (pl:IsPart vl lo) (pu:IsPart vu hi)
  (h:Q (((sIx n 0 lo:Nat):Int),1,sIx n n hi - sIx n 0 lo) s):wpAny (model prog w) A (Builtin.Slice.sliceApplied (.ref sl) (pure (n:Int))) Q E s:=by
 obtain⟨os,hos,hcs,hds⟩:=id hs;unfold Builtin.Slice.sliceApplied Builtin.Slice.sliceFields;refine wpAny_bind (wpAny_bind (wpAny_field hos hds (x:=vl) rfl (wpAny_bind (wpAny_field hos hds (x:=vu) rfl (wpAny_bind (wpAny_field hos hds (x:=.none) rfl (wpAny_pure ?_)))))))
 refine wpAny_bind (slicePart_none ?_)
 show wpAny _ _ (if ((1:Int) == 0)=true then _ else _) _ _ s
 rw[if_neg (by decide)]
 refine wpAny_bind (mJ pl (wpAny_bind (mJ pu (wpAny_bind (wpAny_pure ?_)))))
 show wpAny _ _ (match Builtin.Slice.sliceAdjust lo hi 1 (n:Int) with | (lo,hi)=>pure (lo,(1:Int),Builtin.Slice.slicePlaces lo hi 1)) _ _ s
 rw[uW lo hi n]
 show wpAny _ _ (pure (((sIx n 0 lo:Nat):Int),(1:Int),Builtin.Slice.slicePlaces ((sIx n 0 lo:Nat):Int) ((sIx n n hi:Nat):Int) 1)) _ _ s
 rw[uS];exact wpAny_pure h
theorem yI (xs:Array Value) (i k:Nat):((range k).filterMap fun(m:Nat)=>xs[((i:Int)+(m:Int) * 1).toNat]?).toArray=((xs.toList.drop i).take k).toArray:=by
 have e:(fun(m:Nat)=>xs[((i:Int)+(m:Int) * 1).toNat]?)=fun m=>xs[i+m]? := by
  funext m
  have:((i:Int)+(m:Int) * 1).toNat=i+m:=by omega
  rw[this]
 rw[e];have:=pick_run xs i k
 rw[List.filterMap_map] at this;have e2:((fun x=>xs[x]?) ∘ fun x=>i+x)=fun m=>xs[i+m]? := rfl
 rw[e2] at this;rw[this]
theorem getItem_tuple_cut {sl:Addr} (ht:IsTup s.heap t items) (hs:s.heap.IsSliceOf sl vl vu .none) (pl:IsPart vl lo) (pu:IsPart vu hi)
  (hw : ¬ (sIx items.size 0 lo=0∧sIx items.size items.size hi=items.size))
  (h:Q (.ref s.heap.objs.size) { s with heap:=s.heap.push { cls:=.type "tuple",data:=.seq ((items.toList.drop (sIx items.size 0 lo)).take (sIx items.size items.size hi - sIx items.size 0 lo)).toArray } })
  (hsz:items.size≤sizeLine):wpAny (model prog w) A (getItem (.ref t) (.ref sl)) Q E s:=by
 have htake:sizeOk (.seq ((items.toList.drop (sIx items.size 0 lo)).take (sIx items.size items.size hi - sIx items.size 0 lo)).toArray):=by
  show((items.toList.drop (sIx items.size 0 lo)).take (sIx items.size items.size hi - sIx items.size 0 lo)).toArray.size≤sizeLine
  rw[size_toArray,length_take,length_drop,length_toList];omega
 have hj:sIx items.size items.size hi≤items.size:=sIx_le _ _ (le_refl _) hi
 obtain⟨os,hos,hcs,hds⟩:=id hs;have hTs:s.TypeIs (.ref sl) "slice" :=⟨os,hos,hcs⟩
 unfold getItem
 try with_reducible refine wpAny_holding ?_
 first | refine wpAny_bind (wpAny_pure ?_) | skip
 refine wpAny_bind (wpAny_sequenceKey ht.typeIs (by decide) ?_)
 refine wpAny_bind (wpAny_callSpecial?_slot (name:=Str.ofString "__getitem__") ht.typeIs PyProof.Rows.slot_tuple_getitem
  (wpAny_call_entry PyProof.Rows.slot_tuple_getitem ht.typeIs entry_tuple_getitem ?_ (args_tuple_getitem _ _)))
 show wpAny _ _ (Builtin.Tuple.tupleItemsOf (.ref t) >>= _) _ _ s
 refine wpAny_bind (tupleItemsOf_ ht ?_)
 refine wpAny_bind (wpAny_typeOf hTs ?_)
 rw[if_pos (by decide)]
 refine wpAny_bind (fK hs pl pu ?_)
 have hno : ¬ ((((sIx items.size 0 lo:Nat):Int) == 0 && (1:Int) == 1 && (sIx items.size items.size hi - sIx items.size 0 lo) == items.size)=true):=by
  intro q;rw[Bool.and_eq_true,Bool.and_eq_true] at q;have q1:((sIx items.size 0 lo:Nat):Int)=0:=eq_of_beq q.1.1
  have q2:sIx items.size items.size hi - sIx items.size 0 lo=items.size:=eq_of_beq q.2
  exact hw ⟨by omega,by omega⟩
 show wpAny _ _ (if (((sIx items.size 0 lo:Nat):Int) == 0 && (1:Int) == 1 && (sIx items.size items.size hi - sIx items.size 0 lo) == items.size)=true then _ else _) _ _ s
 rw[if_neg hno,yI]
 first
  | exact wpAny_bind (m:=Builtin.Tuple.tupleExact _) (wpAny_newObj_type (wpAny_pure ⟨_,rfl,wpAny_pure h⟩) htake)
  | exact wpAny_bind (m:=Builtin.Tuple.tupleExact _) (wpAny_newObj_type (wpAny_bind (wpAny_pure (wpAny_pure ⟨_,rfl,wpAny_pure h⟩))) htake)
  | exact wpAny_bind (wpAny_bind (m:=Builtin.Tuple.tupleExact _) (wpAny_newObj_type (wpAny_pure (wpAny_pure ⟨_,rfl,wpAny_pure h⟩)) htake))
  | exact wpAny_bind (wpAny_bind (m:=Builtin.Tuple.tupleExact _) (wpAny_newObj_type (wpAny_pure ⟨_,rfl,wpAny_pure h⟩) htake))
end HT
namespace L2
open PySem PySem.Spec PyProof.Rows
noncomputable abbrev TO:=St→Hp→(Option Int→Hp→Prop)→Prop
noncomputable def PO (X:Cx) (e:Option Expr) (t:TO):Prop :=
 ∀ (pins:List (Addr × Obj)) (s:Shared) (σ:St) (H:Hp) (Q:Option Int→Hp→Prop),Inv X pins σ H s→t σ H Q →
  wpAny (model X.prog X.w) X.A (evalPart e X.env) (fun u s'=>∃o H',Inv X pins σ H' s'∧IsPart u o∧Q o H') X.xe s
noncomputable def lA:TO:=fun _ H Q=>Q none H
noncomputable def wx (t:TE):TO:=fun σ H Q=>t σ H fun x H1=>∃i,x = .int i∧Q (some i) H1
theorem cQ : ∀{us:List Value},aT (ns.map V.int) us→IntsAre us ns:=by
 induction ns with
 | nil=>intro us r;rw[map_nil] at r;cases r;exact .nil
 | cons n ns ih =>
  intro us r;rw[map_cons] at r;cases r with
  | cons r1 r2 =>
   obtain⟨t,e⟩:=r1;subst e;exact .cons n t (ih r2)
section
variable {lo hi:Option Expr} {tl th:TO}
theorem cA:PO X none lA:=by
 intro pins s σ H Q I h;rw[evalPart_none];exact wpAny_pure ⟨none,H,I,.none,h⟩
theorem bQ (h:PE X e te):PO X (some e) (wx te):=by
 intro pins s σ H Q I hw;rw[evalPart_some];refine thn (h pins s σ H _ I hw) fun u s1 zr2054=>?_
 obtain⟨x,H1,I1,r1,q1⟩:=zr2054;obtain⟨i,rfl,q⟩:=q1;obtain⟨t,rfl⟩:=r1;exact⟨some i,H1,I1,.int i t,q⟩
noncomputable def SlR (X:Cx) (r:V→Option Int→Option Int→Hp→VK→Prop):Prop :=
 ∀ (pins:List (Addr × Obj)) (s:Shared) (σ:St) (H:Hp) (x:V) (v vl vu:Value) (lo hi:Option Int) (sl:Addr) (Q:VK),Inv X pins σ H s→aX x v→s.heap.IsSliceOf sl vl vu .none→IsPart vl lo→IsPart vu hi→r x lo hi H Q →
  ∃T id,typeLookup (.type T) "__getitem__" = pure (some (.builtin id))∧s.TypeIs v T∧wpAny (model X.prog X.w) X.A (getItem v (.ref sl)) (EP X pins σ Q) X.xe s
noncomputable def tSl (r:V→Option Int→Option Int→Hp→VK→Prop) (te:TE) (tl th:TO):TE:=fun σ H Q=>te σ H fun x H1=>tl σ H1 fun l H2=>th σ H2 fun u H3=>r x l u H3 Q
theorem bI (hr:SlR X r) (he:PE X e te) (hl:PO X lo tl) (hu:PO X hi th):PE X (.Subscript e (.Slice lo hi none p2) pos) (tSl r te tl th):=by
 intro pins s σ H Q I h;refine Subscript_ (thn (he pins s σ H _ I h) fun v s1 zr2064=>?_)
 obtain⟨x,H1,I1,r1,q1⟩:=zr2064;refine wpAny_Slice (thn (hl pins s1 σ H1 _ I1 q1) fun vl s2 ⟨l,H2,I2,pl,q2⟩=>thn (hu pins s2 σ H2 _ I2 q2) fun vu s3 zr2065=>?_)
 obtain⟨u,H3,I3,pu,q3⟩:=zr2065;rw[evalPart_none];refine wpAny_pure ?_
 have I4:Inv X pins σ H3 { s3 with heap:=s3.heap.push { cls:=.type "slice",data:=.fields #[vl,vu,.none] } }:=I3.kept (t':=s3.toks) fun b ob q=>Heap.get?_push_of_some _ q
 obtain⟨T,id,hT,ht,hg⟩:=hr pins { s3 with heap:=s3.heap.push { cls:=.type "slice",data:=.fields #[vl,vu,.none] } } σ H3 x v vl vu l u s3.heap.objs.size Q I4 r1 (Heap.IsSliceOf.new ..) pl pu q3
 show wpAny (model X.prog X.w) X.A (subscriptTail e (.Slice lo hi none p2) v (.ref s3.heap.objs.size)) (EP X pins σ Q) X.xe { s3 with heap:=s3.heap.push { cls:=.type "slice",data:=.fields #[vl,vu,.none] } }
 exact tail_any (ops:=[.ref s3.heap.objs.size,v]) ht hT hg (by with_unfolding_all rfl)
noncomputable def dN (xs:List V) (lo hi:Option Int):List V:=(xs.drop (HT.sIx xs.length 0 lo)).take (HT.sIx xs.length xs.length hi - HT.sIx xs.length 0 lo)
theorem kB (xs:List V) (lo hi:Option Int):(dN xs lo hi).length≤xs.length:=by
 unfold dN;rw[length_take,length_drop];omega
noncomputable def EK (K:PySem.W.Frag):V→Option Int→Option Int→Hp→VK→Prop:=fun x lo hi H Q=>∃a xs,x = .ref a∧SqT K H a xs ∧
 ¬ (HT.sIx xs.length 0 lo=0∧HT.sIx xs.length xs.length hi=xs.length)∧∀p,H p=none→Q (.ref p) (upd H p (.tup (dN xs lo hi)))
theorem BK:SlR X (EK X.K):=by
 intro pins s σ H x v vl vu lo hi sl Q I rx hs pl pu h;obtain⟨a,xs,rfl,hx,hw,q⟩:=h;cases rx;obtain⟨its,r,ht,hz⟩:=I.tuple hx;have hlen:its.toArray.size=xs.length:=by rw[size_toArray];exact r.length.symm
 refine⟨"tuple",_,PyProof.Rows.slot_tuple_getitem.lookup,ht.typeIs,?_⟩
 refine HT.getItem_tuple_cut ht hs pl pu (by rw[hlen];exact hw) ?_ (by rw[hlen];exact hz)
 rw[hlen];refine⟨.ref s.heap.objs.size,_,I.laid (t':=s.toks) (o:=.tup (dN xs lo hi)) (fun b ob q=>Heap.get?_push_of_some _ q) (le_refl _) ?_,rfl,q _ (I.hok.fresh (le_refl _))⟩
 exact⟨le_trans (kB xs lo hi) hz,_,(r.drop (HT.sIx xs.length 0 lo)).take (HT.sIx xs.length xs.length hi - HT.sIx xs.length 0 lo),IsTup.new _ _⟩
noncomputable def DI (K:PySem.W.Frag):R2:=fun x y H Q=>∃a b xs ys,x = .ref a∧y = .ref b∧SqT K H a xs∧SqT K H b ys∧xs≠[]∧xs.length+ys.length≤sizeLine ∧
 (ys=[]→Q (.ref a) H)∧(ys≠[]→∀p,H p=none→Q (.ref p) (upd H p (.tup (xs++ys))))
theorem aT.nil_iff (r:aT xs us):us=[]↔xs=[]:=by
 cases r with
 | nil=>simp
 | cons _ _=>simp
theorem Ad:OpR X (binaryOp .Add) (DI X.K):=by
 intro pins s σ H x y v u Q I rx ry h;obtain⟨a,b,xs,ys,rfl,rfl,ha,hb,hx,hz,q1,q2⟩:=h;cases rx;cases ry;obtain⟨its,r1,p1,_⟩:=I.tuple ha;obtain⟨its2,r2,p2,_⟩:=I.tuple hb;refine HT.cat_tup p1 p2 (fun z=>hx (r1.nil_iff.mp z)) (fun z=>⟨.ref a,H,I,rfl,q1 (r2.nil_iff.mp z)⟩) (fun z=>?_) (by rw[← r1.length,← r2.length];exact hz)
 refine⟨.ref s.heap.objs.size,_,I.laid (t':=s.toks) (o:=.tup (xs++ys)) (fun b ob q=>Heap.get?_push_of_some _ q) (le_refl _) ?_,rfl,q2 (fun w=>z (r2.nil_iff.mpr w)) _ (I.hok.fresh (le_refl _))⟩
 exact⟨by rw[length_append];exact hz,_,r1.append r2,IsTup.new _ _⟩
end
noncomputable def ixN (n:Nat) (i:Int):Option Nat:=if 0≤i then(if i < n then some i.toNat else none) else if -(n:Int)≤i then some (i+n).toNat else none
noncomputable def atI {α:Type} (xs:List α) (i:Int):Option α:=(ixN xs.length i).bind fun j=>xs[j]?
theorem AZ (h:ixN n i=some j):seqIndex? i n=some j∧j < n∧-(n:Int)≤i∧i < n:=by
 unfold ixN at h
 by_cases h0:0≤i
 ·rw[if_pos h0] at h
  by_cases h1:i < n
  ·rw[if_pos h1] at h
   have e:i.toNat=j:=Option.some.inj h
   exact⟨by rw[seqIndex_of h0 h1,e],by omega,by omega,h1⟩
  ·rw[if_neg h1] at h;cases h
 ·rw[if_neg h0] at h
  by_cases h1 : -(n:Int)≤i
  ·rw[if_pos h1] at h
   have e:(i+n).toNat=j:=Option.some.inj h
   exact⟨by rw[seqIndex_neg (by omega) h1,e],by omega,h1,by omega⟩
  ·rw[if_neg h1] at h;cases h
theorem lL {xs:List α} {v:α} (h:atI xs i=some v) : ∃j,seqIndex? i xs.length=some j∧xs[j]? = some v∧j < xs.length∧-(xs.length:Int)≤i∧i < xs.length:=by
 unfold atI at h;cases e:ixN xs.length i with
 | none=>rw[e] at h;cases h
 | some j =>
  rw[e] at h;obtain⟨h1,h2,h3,h4⟩:=AZ e;exact⟨j,h1,h,h2,h3,h4⟩
theorem aO {xs:List α} {v:α} (h:xs[j]? = some v):atI xs (j:Int)=some v:=by
 have hj:j < xs.length:=(List.getElem?_eq_some_iff.mp h).1
 have e:ixN xs.length (j:Int)=some j:=by
  unfold ixN;rw[if_pos (by omega),if_pos (by omega)];simp
 unfold atI;rw[e];exact h
theorem lX (xs:List α) (v:α):atI (xs++[v]) (-1)=some v:=by
 have hl:(xs++[v]).length=xs.length+1:=by simp
 have e:ixN (xs++[v]).length (-1)=some xs.length:=by
  unfold ixN;rw[hl,if_neg (by decide),if_pos (by omega)]
  congr 1
  omega
 unfold atI;rw[e]
 show(xs++[v])[xs.length]? = some v
 simp
noncomputable def lB (b:Expr):Prop:=∀o i,subscripted b false o i=operate [o,i] (getItem o i)
noncomputable def IxR (X:Cx) (r:R2):Prop :=
 ∀ (value slice:Expr) (pins:List (Addr × Obj)) (s:Shared) (σ:St) (H:Hp) (x y:V) (v u:Value) (Q:VK),Inv X pins σ H s→aX x v→aX y u→r x y H Q →
  subscripted slice false v u=operate [v,u] (getItem v u)→wpAny (model X.prog X.w) X.A (subscriptTail value slice v u) (EP X pins σ Q) X.xe s
noncomputable def MtR (X:Cx) (id:String) (r:V→List V→Hp→VK→Prop):Prop :=
 ∀ (pins:List (Addr × Obj)) (s:Shared) (σ:St) (H:Hp) (x:V) (xs:List V) (v:Value) (us:List Value) (Q:VK),Inv X pins σ H s→aX x v→aT xs us→r x xs H Q →
  wpAny (model X.prog X.w) X.A (call (.builtin id) (v :: us)) (EP X pins σ Q) X.xe s
section
variable {a b:Expr}
theorem ak {r:R2} (hr:IxR X r) (ha:PE X a ta) (hb:PE X b tb) (hs:lB b:=by exact fun _ _=>rfl):PE X (.Subscript a b pos) (tOp r ta tb):=by
 intro pins s σ H Q I h;exact Subscript_ (C8 ha hb I h fun v u s2 x y H2 I2 rx ry q=>hr a b pins s2 σ H2 x y v u Q I2 rx ry q (hs _ _))
noncomputable def EA (K:PySem.W.Frag):R2:=fun x y H Q=>∃p xs i v,x = .ref p∧y = .int i∧SqL K H p xs∧atI xs i=some v∧Q v H
noncomputable def EM (K:PySem.W.Frag):R2:=fun x y H Q=>∃p xs i v,x = .ref p∧y = .int i∧SqT K H p xs∧atI xs i=some v∧Q v H
noncomputable def ER:R2:=fun x y H Q=>∃z i c,x = .str z∧y = .int i∧z.length≤sizeLine∧atI z.cps.toList i=some c∧Q (.str ⟨#[c]⟩) H
theorem Ap:IxR X (EA X.K):=by
 intro value slice pins s σ H x y v u Q I rx ry h hs;obtain⟨p,xs,i,z,rfl,rfl,hq,he,q⟩:=h;cases rx;obtain⟨t,rfl⟩:=ry;obtain⟨its,r,pl,hz⟩:=I.list hq;obtain⟨j,h1,h2,h3,h4,h5⟩:=lL he;obtain⟨w,ew,rw'⟩:=r.get h2;have hl:=r.length;have hn:=iO;have fin:EP X pins σ Q w s:=⟨z,H,I,rw',q⟩
 by_cases h0:0≤i
 ·have hj:i.toNat=j:=by
   rw[seqIndex_of h0 h5] at h1;exact Option.some.inj h1
  exact item_listR pl.isList h0 (by omega) (by rw[hj];simpa using ew) fin hs
 ·have hj:(i+(its.toArray.size:Int)).toNat=j:=by
   rw[seqIndex_neg (by omega) h4] at h1
   rw[size_toArray,← hl];exact Option.some.inj h1
  exact subscriptTail_builtinR (x:=w) pl.isList.typeIs slot_list_getitem.lookup
   (wpAny_getItem_list_neg (Q:=fun r s'=>r=w∧EP X pins σ Q r s') pl.isList (by omega) (by rw[size_toArray] <;> omega) (by omega) (by rw[hj];simpa using ew) ⟨rfl,fin⟩) hs
theorem Cp:IxR X (EM X.K):=by
 intro value slice pins s σ H x y v u Q I rx ry h hs;obtain⟨p,xs,i,z,rfl,rfl,hq,he,q⟩:=h;cases rx;obtain⟨t,rfl⟩:=ry;obtain⟨its,r,pl,hz⟩:=I.tuple hq;obtain⟨j,h1,h2,h3,h4,h5⟩:=lL he;obtain⟨w,ew,rw'⟩:=r.get h2;have hl:=r.length;have hn:=iO;have fin:EP X pins σ Q w s:=⟨z,H,I,rw',q⟩
 exact subscriptTail_builtinR (x:=w) pl.typeIs slot_tuple_getitem.lookup
  (getItem_tuple (j:=j) (Q:=fun r s'=>r=w∧EP X pins σ Q r s') pl (by omega) (by omega) (by rw[size_toArray,← hl];exact h1) (by simpa using ew) ⟨rfl,fin⟩) hs
theorem BQ:IxR X ER:=by
 intro value slice pins s σ H x y v u Q I rx ry h hs;obtain⟨z,i,c,rfl,rfl,hz,he,q⟩:=h;obtain⟨t,rfl⟩:=rx;obtain⟨t',rfl⟩:=ry;obtain⟨j,h1,h2,h3,h4,h5⟩:=lL he;have hl:z.cps.toList.length=z.length:=by simp[Str.length]
 rw[hl] at h1 h4 h5;have hn:=iO;exact tail_any (typeIs_str s z t) slot_str_getitem.lookup (getItem_str (c:=c) (by
  have e1:decide (i < -(2 ^ 63:Int))=false:=decide_eq_false (by omega)
  have e2:decide (i ≥ 2 ^ 63)=false:=decide_eq_false (by omega)
  rw[e1,e2,Bool.or_false]) (by rw[h1];simpa using h2) ⟨.str ⟨#[c]⟩,H,I.tok _,⟨_,rfl⟩,q⟩) hs
theorem rC (lo hi:Option Int) (n:Nat):(sliceBounds lo hi none n).1=((HT.sIx n 0 lo:Nat):Int)∧(sliceBounds lo hi none n).2.1=((HT.sIx n n hi:Nat):Int)∧(sliceBounds lo hi none n).2.2=1:=by
 refine⟨?_,?_,rfl⟩
 ·cases lo with
  | none=>simp[sliceBounds,HT.sIx]
  | some i =>
   simp only[sliceBounds,HT.sIx,getD_none,show(1:Int) > 0 by decide,if_true]
   by_cases h:i < 0
   ·simp only[h,if_true] <;> omega
   ·simp only[h,if_false] <;> omega
 ·cases hi with
  | none=>simp[sliceBounds,HT.sIx]
  | some i =>
   simp only[sliceBounds,HT.sIx,getD_none,show(1:Int) > 0 by decide,if_true]
   by_cases h:i < 0
   ·simp only[h,if_true] <;> omega
   ·simp only[h,if_false] <;> omega
theorem oS (its:List Value) (lo hi:Option Int):slicePick its.toArray lo hi none=((its.drop (HT.sIx its.length 0 lo)).take (HT.sIx its.length its.length hi - HT.sIx its.length 0 lo)).toArray:=by
 obtain⟨h1,h2,h3⟩:=rC lo hi its.toArray.size;unfold slicePick;rw[h1,h2,h3];simp only[sliceRange_one,pick_run,size_toArray] <;> rfl
noncomputable def Gj (K:PySem.W.Frag):V→Option Int→Option Int→Hp→VK→Prop:=fun x lo hi H Q=>∃a xs,x = .ref a∧SqL K H a xs∧∀p,H p=none→Q (.ref p) (upd H p (.lst (dN xs lo hi)))
theorem vT:SlR X (Gj X.K):=by
 intro pins s σ H x v vl vu lo hi sl Q I rx hs pl pu h;obtain⟨a,xs,rfl,hx,q⟩:=h;cases rx;obtain⟨its,r,ht,hz⟩:=I.list hx;have hlen:=r.length;refine⟨"list",_,slot_list_getitem.lookup,ht.isList.typeIs,?_⟩
 refine wpAny_getItem_list_slice ht.isList hs pl pu .none (by simp) ?_ (by rw[size_toArray] <;> omega)
 rw[oS,← hlen];refine⟨.ref s.heap.objs.size,_,I.laid (t':=s.toks) (o:=.lst (dN xs lo hi)) (fun b ob q=>Heap.get?_push_of_some _ q) (le_refl _) ?_,rfl,q _ (I.hok.fresh (le_refl _))⟩
 exact⟨le_trans (kB xs lo hi) hz,_,0,(r.drop (HT.sIx xs.length 0 lo)).take (HT.sIx xs.length xs.length hi - HT.sIx xs.length 0 lo),Heap.get?_push_size _ rfl⟩
noncomputable def fF:V→Bool
 | .non=>true
 | .bl _=>true
 | .int _=>true
 | .str _=>true
 | _=>false
noncomputable def eqV:V→V→Bool
 | .non,.non=>true
 | .bl a,.bl b=>a == b
 | .bl a,.int b=>(if a then 1 else 0) == b
 | .int a,.bl b=>a ==(if b then 1 else 0)
 | .int a,.int b=>a == b
 | .str a,.str b=>a == b
 | _,_=>false
theorem CC {x:V} (ry:aX y u) (rx:aX x v) (fy:fF y=true) (fx:fF x=true):SeqAt.EqAt A s u v (eqV y x):=by
 cases y with
 | non =>
  cases ry;cases x with
  | non=>cases rx;exact SeqAt.EqAt.same _
  | bl b=>cases rx;exact SeqAt.EqAt.none_bool b
  | int b=>obtain⟨t,rfl⟩:=rx;exact SeqAt.EqAt.none_int b t
  | str b=>obtain⟨t,rfl⟩:=rx;exact SeqAt.EqAt.none_str b t
  | _=>exact absurd (show false=true from fx) Bool.false_ne_true
 | bl a =>
  cases ry;cases x with
  | non=>cases rx;exact SeqAt.EqAt.bool_none a
  | bl b=>cases rx;exact SeqAt.EqAt.bool_bool a b
  | int b=>obtain⟨t,rfl⟩:=rx;exact SeqAt.EqAt.bool_int a b t
  | str b=>obtain⟨t,rfl⟩:=rx;exact SeqAt.EqAt.bool_str a b t
  | _=>exact absurd (show false=true from fx) Bool.false_ne_true
 | int a =>
  obtain⟨t',rfl⟩:=ry;cases x with
  | non=>cases rx;exact SeqAt.EqAt.int_none a t'
  | bl b=>cases rx;exact SeqAt.EqAt.int_bool a t' b
  | int b=>obtain⟨t,rfl⟩:=rx;exact SeqAt.EqAt.int_int a t' b t
  | str b=>obtain⟨t,rfl⟩:=rx;exact SeqAt.EqAt.int_str a t' b t
  | _=>exact absurd (show false=true from fx) Bool.false_ne_true
 | str a =>
  obtain⟨t',rfl⟩:=ry;cases x with
  | non=>cases rx;exact SeqAt.EqAt.str_none a t'
  | bl b=>cases rx;exact SeqAt.EqAt.str_bool a t' b
  | int b=>obtain⟨t,rfl⟩:=rx;exact SeqAt.EqAt.str_int a t' b t
  | str b=>obtain⟨t,rfl⟩:=rx;exact SeqAt.EqAt.str_str a t' b t
  | _=>exact absurd (show false=true from fx) Bool.false_ne_true
 | _=>exact absurd (show false=true from fy) Bool.false_ne_true
noncomputable def eqU (x:V) (u:Value):Bool:=match u with
 | .none=>eqV .non x
 | .bool b=>eqV (.bl b) x
 | .int i _=>eqV (.int i) x
 | .str z _=>eqV (.str z) x
 | _=>false
theorem zl {x:V} (r:aX y u) (f:fF y=true):eqU x u=eqV y x:=by
 cases y with
 | non=>cases r;rfl
 | bl b=>cases r;rfl
 | int i=>obtain⟨t,rfl⟩:=r;rfl
 | str z=>obtain⟨t,rfl⟩:=r;rfl
 | _=>exact absurd (show false=true from f) Bool.false_ne_true
theorem rh {x:V} : ∀{xs:List V} {us:List Value},aT xs us→xs.all fF=true→us.any (eqU x)=xs.any fun y=>eqV y x
 | _,_,.nil,_=>rfl
 | y :: xs,u :: us,.cons r t,f=>by
  rw[all_cons,Bool.and_eq_true] at f;rw[any_cons,any_cons,zl r f.1,rh t f.2]
theorem mN {A:Around} {s:Shared} {x:V} {v:Value} (rx:aX x v) (fx:fF x=true) : ∀{xs:List V} {us:List Value},aT xs us→xs.all fF=true→∀u∈us,SeqAt.EqAt A s u v (eqU x u)
 | _,_,.nil,_=>fun u hu=>by cases hu
 | y :: xs,u :: us,.cons r t,f=>fun u' hu=>by
  rw[all_cons,Bool.and_eq_true] at f;rcases mem_cons.mp hu with rfl | hu
  ·rw[zl r f.1];exact CC r rx f.1 fx
  ·exact mN rx fx t f.2 u' hu
noncomputable def inV (x:V) (xs:List V):Bool:=xs.any fun y=>eqV y x
noncomputable def rIn (K:PySem.W.Frag) (neg:Bool):R2:=fun x y H Q=>∃p xs,y = .ref p∧(SqL K H p xs∨SqT K H p xs)∧fF x=true∧xs.all fF=true∧Q (.bl (if neg then !inV x xs else inV x xs)) H
theorem pY:OpR X (compareOp .In) (rIn X.K false):=by
 intro pins s σ H x y v u Q I rx ry h;obtain⟨p,xs,rfl,hq,fx,fs,q⟩:=h;cases ry;rcases hq with hq | hq
 ·obtain⟨its,r,pl,hz⟩:=I.list hq
  refine SeqAt.in_listAt (eqU x) pl.isList (fun w hw=>mN rx fx r fs w (by simpa using hw)) ⟨.bl _,H,I,rfl,?_⟩
  rw[show its.toArray.any (eqU x)=its.any (eqU x) by simp,rh r fs]
  exact q
 ·obtain⟨its,r,pl,hz⟩:=I.tuple hq
  refine SeqAt.in_tupleAt (eqU x) pl (fun w hw=>mN rx fx r fs w (by simpa using hw)) ⟨.bl _,H,I,rfl,?_⟩
  rw[show its.toArray.any (eqU x)=its.any (eqU x) by simp,rh r fs]
  exact q
theorem ju:bC X (.builtin "len") (fun xs H Q=>∃p ys,xs=[.ref p]∧(SqL X.K H p ys∨SqT X.K H p ys)∧Q (.int ys.length) H):=by
 intro pins s σ H xs us Q I r h;obtain⟨p,ys,rfl,hq,q⟩:=h;obtain⟨u,rfl,rx⟩:=cS r;cases rx;have hn:=iO;rcases hq with hq | hq
 ·obtain⟨its,r',pl,hz⟩:=I.list hq
  have hlen:=r'.length;exact Calls.call_len_list pl.isList (by simp only[size_toArray] <;> omega) ⟨.int ys.length,H,I.tok _,⟨s.toks+1,by rw[size_toArray,hlen]⟩,q⟩
 ·obtain⟨its,r',pl,hz⟩:=I.tuple hq
  have hlen:=r'.length;exact len_tuple pl (by simp only[size_toArray] <;> omega) ⟨.int ys.length,H,I.tok _,⟨s.toks+1,by rw[size_toArray,hlen]⟩,q⟩
theorem qE:bC X (.builtin "len") (fun xs H Q=>∃z,xs=[.str z]∧z.length≤sizeLine∧Q (.int z.length) H):=by
 intro pins s σ H xs us Q I r h;obtain⟨z,rfl,hz,q⟩:=h;obtain⟨u,rfl,t,rfl⟩:=cS r;have hn:=iO;exact len_str (by omega) ⟨.int z.length,H,I.tok _,⟨_,rfl⟩,q⟩
theorem jo:bC X (.type "list") (fun xs H Q=>∃p ys,xs=[.ref p]∧(SqL X.K H p ys∨SqT X.K H p ys)∧∀l,H l=none→Q (.ref l) (upd H l (.lst ys))):=by
 intro pins s σ H xs us Q I r h;obtain⟨p,ys,rfl,hq,q⟩:=h;obtain⟨u,rfl,rx⟩:=cS r;cases rx;have fin : ∀(its:List Value),aT ys its→ys.length≤sizeLine→∀(h':Heap) (c':Nat),(∀b o',s.heap.get? b=some o'→h'.get? b=some o') →
   h'.get? s.heap.objs.size=some { cls:=.type "list",dict:=none,data:=.seq its.toArray c',slots := #[] }→EP X pins σ Q (.ref s.heap.objs.size) { s with heap:=h' }:=fun its r' hz h' c' kp e =>
  ⟨.ref s.heap.objs.size,_,I.laid (t':=s.toks) kp (le_refl _) (show be X.prog X.w _ h' _ (.lst ys) from⟨hz,its,c',r',e⟩),rfl,q _ (I.hok.fresh (le_refl _))⟩
 rcases hq with hq | hq
 ·obtain⟨its,r',pl,hz⟩:=I.list hq
  have hlen:=r'.length;obtain⟨o,ho,hc,n,hd⟩:=pl.isList;exact call_list_seq p (.inl rfl) ho hc hd (fun h' c' kp e=>fin its r' hz h' c' kp e) (by simp only[size_toArray] <;> omega)
 ·obtain⟨its,r',pl,hz⟩:=I.tuple hq
  have hlen:=r'.length;obtain⟨o,ho,hc,n,hd⟩:=pl;exact call_list_seq p (.inr rfl) ho hc hd (fun h' c' kp e=>fin its r' hz h' c' kp e) (by simp only[size_toArray] <;> omega)
theorem oC:bC X (.type "tuple") (fun xs H Q=>∃p ys,xs=[.ref p]∧((SqL X.K H p ys∧∀l,H l=none→Q (.ref l) (upd H l (.tup ys)))∨(SqT X.K H p ys∧Q (.ref p) H))):=by
 intro pins s σ H xs us Q I r h;obtain⟨p,ys,rfl,h⟩:=h;obtain⟨u,rfl,rx⟩:=cS r;cases rx;rcases h with⟨hq,q⟩ | ⟨hq,q⟩
 ·obtain⟨its,r',pl,hz⟩:=I.list hq
  have hlen:=r'.length;refine call_tuple_list pl.isList (fun h' kp=>?_) (by simp only[size_toArray] <;> omega)
  have I1:Inv X pins σ H { s with heap:=h' }:=I.kept (t':=s.toks) kp
  have I2:Inv X pins σ (upd H h'.objs.size (.tup ys)) { s with heap:=h'.push { cls:=.type "tuple",data:=.seq its.toArray } } :=
   I1.laid (t':=s.toks) (fun b o e=>Heap.get?_push_of_some _ e) (le_refl _) (show be X.prog X.w _ _ _ (.tup ys) from⟨hz,its,r',IsTup.new _ _⟩)
  exact⟨.ref h'.objs.size,_,I2,rfl,q _ (I1.hok.fresh (le_refl _))⟩
 ·obtain⟨its,r',pl,hz⟩:=I.tuple hq
  exact call_tuple_same pl ⟨.ref p,H,I,rfl,q⟩
noncomputable def tyV (K:PySem.W.Frag) (T:String) (x:V) (H:Hp):Prop:=match x with
 | .str _=>T = "str"
 | .int _=>T = "int"
 | .ref p=>(T = "list"∧∃xs,SqL K H p xs)∨(T = "tuple"∧∃o,K.lookup p=some o∧o.cls = .type "tuple" ∧ o.dict=none) ∨
   (T = "dict" ∧((∃kvs,H p=some (.dK kvs))∨∃kvs,H p=some (.dT kvs)))∨(T = "set"∧∃S n,H p=some (.set S n))
 | _=>False
theorem uy {x:V} (I:Inv X pins σ H s) (r:aX x v) (ty:tyV X.K T x H) :
  s.TypeIs v T∧∀a,v = .ref a→∃ob,s.heap.get? a=some ob∧ob.dict=none:=by
 cases x with
 | str z =>
  obtain⟨t,rfl⟩:=r;cases (show T = "str" from ty)
  exact⟨typeIs_str s z t,fun _ e=>nomatch e⟩
 | int i =>
  obtain⟨t,rfl⟩:=r;cases (show T = "int" from ty)
  exact⟨typeIs_int s i t,fun _ e=>nomatch e⟩
 | ref p =>
  cases r;rcases ty with⟨rfl,xs,hq⟩ | ⟨rfl,o,hk,hc,hd⟩ | ⟨rfl,hk⟩ | ⟨rfl,S,n,hk⟩
  ·obtain⟨its,_,pl,_⟩:=I.list hq
   refine⟨pl.isList.typeIs,fun a e=>?_⟩
   cases e;obtain⟨o,n,e,c,hd,_⟩:=pl;exact⟨o,e,hd⟩
  ·refine⟨⟨o,I.kIn p o hk,hc⟩,fun a e=>?_⟩
   cases e;exact⟨o,I.kIn _ o hk,hd⟩
  ·have z : ∃o,s.heap.get? p=some o∧o.ExactDict:=by
    rcases hk with⟨kvs,hk⟩ | ⟨kvs,hk⟩
    ·obtain⟨_,_,_,_,o,_,_,e,ex,_⟩:=I.hok p _ hk
     exact⟨o,e,ex⟩
    ·obtain⟨_,_,_,_,o,_,_,e,ex,_⟩:=I.hok p _ hk
     exact⟨o,e,ex⟩
   obtain⟨o,e,ex⟩:=z;refine⟨⟨o,e,ex.1⟩,fun a e2=>?_⟩
   cases e2;exact⟨o,e,ex.2.1⟩
  ·obtain⟨o,_,_,_,e,ex,_⟩:=I.hok p _ hk
   refine⟨⟨o,e,ex.1⟩,fun a e2=>?_⟩
   cases e2;exact⟨o,e,ex.2.1⟩
 | _=>exact False.elim ty
variable {o:Expr} {t:TA} {id:String} {r:V→List V→Hp→VK→Prop}
end
noncomputable def MtM (X:Cx) (id:String) (r:V→List V→Hp→VK→Prop):Prop :=
 ∀ (pins:List (Addr × Obj)) (s:Shared) (σ:St) (H:Hp) (x:V) (xs:List V) (v:Value) (us:List Value) (Q:VK),Inv X pins σ H s→aX x v→aT xs us→r x xs H Q →
  wpAny (model X.prog X.w) X.A (call (.builtin id) (v :: us)) (EP X pins σ Q) X.xe s
theorem aT.one : ∀{x:V} {us:List Value},aT [x] us→∃u,us=[u]∧aX x u
 | _,_,.cons r .nil=>⟨_,rfl,r⟩
theorem aT.zero : ∀{us:List Value},aT [] us→us=[]
 | _,.nil=>rfl
theorem aT.dropLast {xs:List V} {us:List Value} (h:aT xs us):aT xs.dropLast us.dropLast:=by
 induction h with
 | nil=>exact .nil
 | cons r t ih =>
  cases t with
  | nil=>exact .nil
  | cons q t'=>exact .cons r ih
theorem aT.eraseIdx : ∀{xs:List V} {us:List Value} (i:Nat),aT xs us→aT (xs.eraseIdx i) (us.eraseIdx i)
 | _,_,_,.nil=>.nil
 | _,_,0,.cons _ t=>t
 | _,_,i+1,.cons r t=>.cons r (aT.eraseIdx i t)
theorem aT.reverse {xs:List V} {us:List Value} (h:aT xs us):aT xs.reverse us.reverse:=by
 induction h with
 | nil=>exact .nil
 | cons r t ih=>rw[List.reverse_cons,List.reverse_cons];exact aT.append ih (.cons r .nil)
theorem uX (l:List α):l.eraseIdx (l.length - 1)=l.dropLast:=by
 induction l with
 | nil=>rfl
 | cons a r ih =>
  cases r with
  | nil=>rfl
  | cons b r =>
   have e:(a :: b :: r).length - 1=((b :: r).length - 1)+1:=by
    have h1:(a :: b :: r).length=r.length+2:=rfl
    have h2:(b :: r).length=r.length+1:=rfl
    omega
   rw[e,List.eraseIdx_cons_succ,ih]
   all_goals rfl
theorem kA {α:Type} : ∀(l:List α) (i:Nat),(l.eraseIdx i).length≤l.length
 | [],_=>le_refl _
 | _ :: _,0=>le_succ _
 | _ :: r,i+1=>Nat.succ_le_succ (kA r i)
section
variable {ys zs:List V}
theorem Inv.lset {its':List Value} {f:Array Value→Array Value} (I:Inv X pins σ H s) (hH:H l=some (.lst xs))
  (e:s.heap.get? l=some { cls:=.type "list",data:=.seq its.toArray n }) (hf:f its.toArray=its'.toArray) (hv:aT ys its') (hz:ys.length≤sizeLine) :
  Inv X pins σ (upd H l (.lst ys)) { s with heap:=s.heap.update l (Obj.mapSeq f),toks:=t' }:=by
 have q:=PySem.IsL.update e f;rw[hf] at q;refine I.write (x:=l) (e:=l) (by rw[hH];exact trivial) (.inl rfl) (fun b' u hb hu=>(Heap.get?_update_other s.heap (Obj.mapSeq f) (Ne.symm hb)).trans hu) ⟨_,q⟩ ?_
 exact⟨hz,its',_,hv,q⟩
theorem Inv.lnew (I:Inv X pins σ H s) (hv:aT ys its) (hz:ys.length≤sizeLine) :
  Inv X pins σ (upd H s.heap.objs.size (.lst ys)) { s with heap:=s.heap.push { cls:=.type "list",data:=.seq its.toArray },toks:=t' } :=
 I.laid (fun _ _ q=>Heap.get?_push_of_some _ q) (le_refl _) ⟨hz,its,0,hv,Heap.get?_push_size _ rfl⟩
theorem Inv.fresh (I:Inv X pins σ H s):H s.heap.objs.size=none:=I.hok.fresh (le_refl _)
theorem Inv.lstM (I:Inv X pins σ H s) (hH:H l=some (.lst xs)):xs.length≤sizeLine∧∃(its:List Value) (n:Nat),aT xs its∧xs.length=its.length∧s.heap.get? l=some { cls:=.type "list",data:=.seq its.toArray n }:=by
 obtain⟨z,its,n,r,e⟩:=I.hok l _ hH;exact⟨z,its,n,r,r.length,e⟩
end
noncomputable def zW:V→List V→Hp→VK→Prop:=fun x vs H Q=>∃l xs y,x = .ref l∧vs=[y]∧H l=some (.lst xs)∧xs.length < sizeLine∧Q .non (upd H l (.lst (xs++[y])))
theorem pN:MtM X "list.append" zW:=by
 intro pins s σ H x vs v us Q I rx rv h;obtain⟨l,xs,y,rfl,rfl,hH,hz,q⟩:=h;cases rx;obtain⟨u,rfl,ru⟩:=rv.one;obtain⟨z,its,n,r,hl,e⟩:=I.lstM hH;refine call_meets F.slot_list_append ⟨_,e,rfl⟩ F.entry_list_append (F.args_list_append_2 _ _) (PySem.list_append l its.toArray n u (by rw[size_toArray];omega)) ⟨e,?_⟩
 refine⟨.non,_,I.lset (its':=its++[u]) hH e (by simp) (r.append (.cons ru .nil)) ?_,rfl,q⟩
 rw[length_append,List.length_singleton];omega
noncomputable def EG:V→List V→Hp→VK→Prop:=fun x vs H Q=>∃l xs y,x = .ref l∧vs=[]∧H l=some (.lst xs)∧xs[xs.length - 1]? = some y∧Q y (upd H l (.lst xs.dropLast))
theorem Cn:MtM X "list.pop" EG:=by
 intro pins s σ H x vs v us Q I rx rv h;obtain⟨l,xs,y,rfl,rfl,hH,hy,q⟩:=h;cases rx;have hus:=rv.zero;subst hus;obtain⟨z,its,n,r,hl,e⟩:=I.lstM hH;obtain⟨u,hu,ru⟩:=r.get hy;have hy':its.toArray[its.toArray.size - 1]? = some u:=by
  show its.toArray[its.length - 1]? = some u
  rw[← Array.getElem?_toList,← hl];exact hu
 refine call_meets F.slot_list_pop ⟨_,e,rfl⟩ F.entry_list_pop (F.args_list_pop_1 _) (MeetsSeq.list_pop_last l its.toArray n u hy' (by rw[size_toArray];omega)) ⟨e,?_⟩
 refine⟨y,_,I.lset (its':=its.dropLast) hH e ?_ r.dropLast ?_,ru,q⟩
 ·show its.toArray.eraseIdxIfInBounds (its.toArray.size - 1)=its.dropLast.toArray
  rw[size_toArray,List.eraseIdxIfInBounds_toArray,uX]
 ·rw[List.length_dropLast]
  omega
noncomputable def Ci:V→List V→Hp→VK→Prop:=fun x vs H Q=>∃l xs i k y,x = .ref l∧vs=[.int i]∧H l=some (.lst xs)∧-(2 ^ 63)≤i∧i < 2 ^ 63∧seqIndex? i xs.length=some k∧xs[k]? = some y∧Q y (upd H l (.lst (xs.eraseIdx k)))
theorem yV:MtM X "list.pop" Ci:=by
 intro pins s σ H x vs v us Q I rx rv h;obtain⟨l,xs,i,k,y,rfl,rfl,hH,h1,h2,hk,hy,q⟩:=h;cases rx;obtain⟨u,rfl,ru⟩:=rv.one;obtain⟨t,rfl⟩:=ru;obtain⟨z,its,n,r,hl,e⟩:=I.lstM hH;obtain⟨w,hw,rw'⟩:=r.get hy;refine call_meets F.slot_list_pop ⟨_,e,rfl⟩ F.entry_list_pop (F.args_list_pop_2 _ _)
  (MeetsSeq.list_pop_at l its.toArray n i t k w (fitsIndex_both h1 h2) (by rw[size_toArray,← hl];exact hk) (by rw[← Array.getElem?_toList];exact hw) (by rw[size_toArray];omega)) ⟨e,?_⟩
 refine⟨y,_,I.lset (its':=its.eraseIdx k) hH e ?_ (r.eraseIdx k) ?_,rw',q⟩
 ·show its.toArray.eraseIdxIfInBounds k=(its.eraseIdx k).toArray
  rw[List.eraseIdxIfInBounds_toArray]
 ·have:=kA xs k
  omega
noncomputable def Ge:R2:=fun x y H Q=>∃l b xs zs,x = .ref l∧y = .ref b∧H l=some (.lst xs)∧H b=some (.lst zs)∧xs.length+zs.length≤sizeLine∧∀p,H p=none→Q (.ref p) (upd H p (.lst (xs++zs)))
theorem Ce:OpR X (binaryOp .Add) Ge:=by
 intro pins s σ H x y v u Q I rx ry h;obtain⟨l,b,xs,zs,rfl,rfl,hH,hB,hz,q⟩:=h;cases rx;cases ry;obtain⟨z,its,n,r,hl,e⟩:=I.lstM hH;obtain⟨z2,its2,n2,r2,hl2,e2⟩:=I.lstM hB;refine PySem.P.add_list e e2 ?_ (by rw[size_toArray,size_toArray];omega)
 have ea:its.toArray++its2.toArray=(its++its2).toArray:=by simp
 rw[ea];exact⟨.ref _,_,I.lnew (t':=s.toks) (r.append r2) (by rw[length_append];omega),rfl,q _ I.fresh⟩
section
variable [DecidableEq κ]
noncomputable def bu (kvs:List (κ × V)) (k:κ):Option V:=(kvs.find? fun kv=>decide (kv.1=k)).map (·.2)
noncomputable def br (kvs:List (κ × V)) (k:κ) (v:V):List (κ × V) :=
 if (kvs.any fun kv=>decide (kv.1=k))=true then kvs.map (fun kv=>if kv.1=k then(kv.1,v) else kv) else kvs++[(k,v)]
theorem jV {k:κ}:bu ([]:List (κ × V)) k=none:=rfl
theorem aZ {p:κ × V} {r:List (κ × V)} {k:κ} (e:p.1=k):bu (p :: r) k=some p.2:=by simp[bu,find?_cons,e]
theorem aP {p:κ × V} {r:List (κ × V)} {k:κ} (e : ¬ p.1=k):bu (p :: r) k=bu r k:=by simp[bu,find?_cons,e]
theorem dC (k:κ) : ∀kvs:List (κ × V),(kvs.any fun kv=>decide (kv.1=k))=(bu kvs k).isSome
 | []=>rfl
 | p :: r=>by
  rw[any_cons]
  by_cases e:p.1=k
  ·simp only[aZ e,decide_eq_true e,Bool.true_or,isSome_some]
  ·rw[aP e,decide_eq_false e,Bool.false_or];exact dC k r
theorem tH (k j:κ) (y:V) : ∀kvs:List (κ × V),bu (kvs.map fun kv=>if kv.1=k then(kv.1,y) else kv) j=(bu kvs j).map fun x=>if j=k then y else x
 | []=>rfl
 | p :: r=>by
  have ih:=tH k j y r;rw[map_cons]
  by_cases h:p.1=k
  ·rw[if_pos h]
   by_cases e:p.1=j
   ·rw[aZ (p:=(p.1,y)) e,aZ e,map_some,if_pos (e.symm.trans h)]
   ·rw[aP (p:=(p.1,y)) e,aP e,ih]
  ·rw[if_neg h]
   by_cases e:p.1=j
   ·rw[aZ (p:=p) e,aZ e,map_some,if_neg (fun z=>h (e.trans z))]
   ·rw[aP (p:=p) e,aP e,ih]
theorem pU (k j:κ) (y:V) : ∀kvs:List (κ × V),bu kvs k=none→bu (kvs++[(k,y)]) j=if j=k then some y else bu kvs j
 | [],_=>by
  by_cases e:k=j
  ·rw[if_pos e.symm];exact aZ (p:=(k,y)) e
  ·rw[if_neg (fun z=>e z.symm)];exact aP (p:=(k,y)) e
 | p :: r,hn=>by
  rw[cons_append];have hk : ¬ p.1=k:=fun z=>by rw[aZ z] at hn;cases hn
  rw[aP hk] at hn;have ih:=pU k j y r hn
  by_cases e:p.1=j
  ·rw[aZ e,aZ e,if_neg (fun z=>hk (e.trans z))]
  ·rw[aP e,aP e,ih]
theorem nQ (kvs:List (κ × V)) (k j:κ) (y:V):bu (br kvs k y) j=if j=k then some y else bu kvs j:=by
 unfold br
 by_cases a:(kvs.any fun kv=>decide (kv.1=k))=true
 ·rw[if_pos a,tH]
  rw[dC] at a
  by_cases e:j=k
  ·obtain⟨x,hx⟩:=isSome_iff_exists.mp a
   rw[if_pos e,e,hx,map_some,if_pos rfl]
  ·rw[if_neg e]
   cases bu kvs j with
   | none=>rfl
   | some x=>rw[map_some,if_neg e]
 ·rw[if_neg a]
  refine pU k j y kvs ?_
  rw[dC] at a;cases q:bu kvs k with
  | none=>rfl
  | some x=>rw[q] at a;exact(a rfl).elim
theorem cV (kvs:List (κ × V)) (k:κ) (v:V):(br kvs k v).length≤kvs.length+1:=by
 unfold br
 split
 ·rw[length_map];omega
 ·rw[length_append,length_cons,length_nil];omega
theorem dE {kvs:List (κ × V)} {k:κ} (v:V) (h:bu kvs k=none):br kvs k v=kvs++[(k,v)]:=by
 unfold br;rw[dC,h];exact if_neg (by decide)
theorem jc.isSome_eq {o:Option V} {u:Option Value} (r:jc o u):o.isSome=u.isSome:=by
 cases o with
 | none=>cases u with
  | none=>rfl
  | some _=>exact(show False from r).elim
 | some _=>cases u with
  | none=>exact(show False from r).elim
  | some _=>rfl
theorem jc.getD {o:Option V} {u:Option Value} {d:V} {d':Value} (r:jc o u) (rd:aX d d'):aX (o.getD d) (u.getD d'):=by
 cases o with
 | none=>cases u with
  | none=>exact rd
  | some _=>exact(show False from r).elim
 | some _=>cases u with
  | none=>exact(show False from r).elim
  | some _=>exact r
theorem KV.val {kvs:List (κ × V)} {vs:List (κ × Value)} (r:KV kvs vs) (k:κ):jc (bu kvs k) (valueAt vs k):=by
 unfold KV at r
 induction r with
 | nil=>exact True.intro
 | @cons p q ps qs h t ih =>
  obtain⟨h1,h2⟩:=h
  by_cases e:p.1=k
  ·have e':q.1=k:=h1.symm.trans e
   have b:valueAt (q :: qs) k=some q.2:=by simp[valueAt,find?_cons,e']
   rw[aZ e,b];exact h2
  ·have e' : ¬ q.1=k:=fun z=>e (h1.trans z)
   have b:valueAt (q :: qs) k=valueAt qs k:=by simp[valueAt,find?_cons,e']
   rw[aP e,b];exact ih
theorem KV.any {kvs:List (κ × V)} {vs:List (κ × Value)} (r:KV kvs vs) (k:κ):(kvs.any fun kv=>decide (kv.1=k))=vs.any fun kv=>decide (kv.1=k):=by
 unfold KV at r
 induction r with
 | nil=>rfl
 | cons h t ih=>rw[any_cons,any_cons,ih,h.1]
theorem KV.repl {kvs:List (κ × V)} {vs:List (κ × Value)} (r:KV kvs vs) (k:κ) {y:V} {u:Value} (ry:aX y u) :
  KV (kvs.map fun kv=>if kv.1=k then(kv.1,y) else kv) (vs.map fun kv=>if kv.1=k then(kv.1,u) else kv):=by
 unfold KV at r ⊢
 induction r with
 | nil=>exact .nil
 | @cons p q ps qs h t ih =>
  rw[map_cons,map_cons];refine .cons ?_ ih
  obtain⟨h1,h2⟩:=h
  by_cases e:p.1=k
  ·rw[if_pos e,if_pos (h1.symm.trans e)];exact⟨h1,ry⟩
  ·rw[if_neg e,if_neg (fun z=>e (h1.trans z))];exact⟨h1,h2⟩
theorem KV.put {kvs:List (κ × V)} {vs:List (κ × Value)} (r:KV kvs vs) (k:κ) {y:V} {u:Value} (ry:aX y u):KV (br kvs k y) (stored vs k u):=by
 unfold br stored;rw[r.any k]
 by_cases e:(vs.any fun kv=>decide (kv.1=k))=true
 ·rw[if_pos e,if_pos e];exact r.repl k ry
 ·rw[if_neg e,if_neg e];exact Paired.snoc r ⟨rfl,ry⟩
theorem KV.keys {kvs:List (κ × V)} {vs:List (κ × Value)} (r:KV kvs vs):kvs.map (·.1)=vs.map (·.1):=by
 unfold KV at r
 induction r with
 | nil=>rfl
 | cons h t ih=>rw[map_cons,map_cons,ih,h.1]
theorem KV.length {kvs:List (κ × V)} {vs:List (κ × Value)} (r:KV kvs vs):kvs.length=vs.length:=Paired.length r
end
theorem kG {k:Key} (r:aX (kV k) u):(aU P w).is k u=true:=by
 cases k with
 | inl i=>obtain⟨t,e⟩:=(show ∃t,u=Value.int i t from r);subst e;exact tU P w i t
 | inr x=>obtain⟨t,e⟩:=(show ∃t,u=Value.str x t from r);subst e;exact sT P w x t
theorem pF {P:Program} {w:World} : ∀{ks:List Key} {us:List Value},aT (ks.map kV) us→ItemsAre (aU P w) ks us
 | [],_,r=>by rw[map_nil] at r;cases r;exact .nil
 | k :: ks,_,r=>by
  rw[map_cons] at r;cases r with
  | cons h t=>exact .cons (kG h) (pF t)
noncomputable abbrev KT (H:Hp):List (List Key × V)→List (List Key × Addr × Value)→Prop:=Paired fun p q=>p.1=q.1∧H q.2.1=some (.tup (p.1.map kV))∧aX p.2 q.2.2
theorem KT.val {kvs:List (List Key × V)} {xs:List (List Key × Addr × Value)} (r:KT H kvs xs) (k:List Key):jc (bu kvs k) ((atKey xs k).map (·.2)):=by
 induction r with
 | nil=>exact True.intro
 | @cons p q ps qs h t ih =>
  obtain⟨h1,_,h2⟩:=h
  by_cases e:p.1=k
  ·have e':q.1=k:=h1.symm.trans e
   have b:atKey (q :: qs) k=some q.2:=by simp[atKey,find?_cons,e']
   rw[aZ e,b];exact h2
  ·have e' : ¬ q.1=k:=fun z=>e (h1.trans z)
   have b:atKey (q :: qs) k=atKey qs k:=by simp[atKey,find?_cons,e']
   rw[aP e,b];exact ih
theorem KT.repl {kvs:List (List Key × V)} {xs:List (List Key × Addr × Value)} (r:KT H kvs xs) (k:List Key) {y:V} {u:Value} (ry:aX y u) :
  KT H (kvs.map fun kv=>if kv.1=k then(kv.1,y) else kv) (xs.map (putAt k u)):=by
 induction r with
 | nil=>exact .nil
 | @cons p q ps qs h t ih =>
  rw[map_cons,map_cons];refine .cons ?_ ih
  obtain⟨h1,h2,h3⟩:=h;unfold putAt
  by_cases e:p.1=k
  ·rw[if_pos e,if_pos (h1.symm.trans e)];exact⟨h1,h2,ry⟩
  ·rw[if_neg e,if_neg (fun z=>e (h1.trans z))];exact⟨h1,h2,h3⟩
theorem KT.put {kvs:List (List Key × V)} {xs:List (List Key × Addr × Value)} (r:KT H kvs xs) (k:List Key) {b:Addr} {y:V} {u:Value} (hb:H b=some (.tup (k.map kV))) (ry:aX y u) :
  KT H (br kvs k y) (storedH xs k b u):=by
 have e:(kvs.any fun kv=>decide (kv.1=k))=(atKey xs k).isSome:=by
  rw[dC,(r.val k).isSome_eq,isSome_map]
 unfold br storedH;rw[e]
 by_cases q:(atKey xs k).isSome=true
 ·rw[if_pos q,if_pos q];exact r.repl k ry
 ·rw[if_neg q,if_neg q];exact Paired.snoc r ⟨rfl,hb,ry⟩
theorem KT.keeps {kvs:List (List Key × V)} {xs:List (List Key × Addr × Value)} (r:KT H kvs xs) (ht : ∀b ys,H b=some (.tup ys)→H' b=some (.tup ys)):KT H' kvs xs :=
 Paired.mapP r fun _ _ z=>⟨z.1,ht _ _ z.2.1,z.2.2⟩
theorem Bn {u:HO} (ok:HOk P w H h) (e:Rd H a u):be P w H h a u:=e.ok ok
theorem og (ok:HOk P w H h) (e:Rd H a (.dK kvs)):kvs.length≤sizeLine∧(a == sysModules)=false∧∃vs,KV kvs vs∧h.DictOf (aU P w) a vs :=
 show be P w H h a (.dK kvs) from Bn ok e
theorem jG (ok:HOk P w H h) (e:H a=some (.dK kvs)):kvs.length≤sizeLine∧(a == sysModules)=false∧∃vs,KV kvs vs∧h.DictOf (aU P w) a vs:=og ok (.inl e)
theorem ka {ks:List Key} (ok:HOk P w H h) (e:H a=some (.tup (ks.map kV))):(tupleKind (aU P w)).is h ks a:=by
 obtain⟨_,its,r,o,h1,h2,n,h3⟩:=(show be P w H h a (.tup (ks.map kV)) from ok a _ e)
 exact⟨o,its.toArray,n,h1,h2,h3,by simpa using pF r⟩
theorem nT {kvs:List (List Key × V)} (ok:HOk P w H h) (e:Rd H a (.dT kvs)):kvs.length≤sizeLine∧(a == sysModules)=false ∧
  ∃xs,KT H kvs xs∧h.DictOfH (tupleKind (aU P w)) a xs:=by
 obtain⟨z,y,xs,r,o,es,ep,h1,h2,h3,h4,h5⟩:=(show be P w H h a (.dT kvs) from Bn ok e)
 refine⟨z,y,xs,r,o,es,ep,h1,h2,h3,h4,fun x hx=>?_,h5⟩
 have all : ∀{l:List (List Key × V)} {m:List (List Key × Addr × Value)},KT H l m→∀x∈m,(tupleKind (aU P w)).is h x.1 x.2.1:=by
  intro l m q
  induction q with
  | nil=>intro x hx;exact nomatch hx
  | @cons p q ps qs hq t ih =>
   intro x hx;rcases mem_cons.mp hx with e | hx
   ·subst e
    exact ka ok (by rw[← hq.1];exact hq.2.1)
   ·exact ih x hx
 exact all r x hx
theorem DE {kvs:List (List Key × V)} (ok:HOk P w H h) (e:H a=some (.dT kvs)):kvs.length≤sizeLine∧(a == sysModules)=false ∧
  ∃xs,KT H kvs xs∧h.DictOfH (tupleKind (aU P w)) a xs:=nT ok (.inl e)
noncomputable def pk (H:Hp) (a:Addr) (y:V) (r:Option V):Prop :=
 (∃kvs k,Rd H a (.dK kvs)∧y=kV k∧r=bu kvs k)∨∃kvs k b,Rd H a (.dT kvs)∧y = .ref b∧H b=some (.tup (k.map kV))∧r=bu kvs k
noncomputable def Ds (H:Hp) (a:Addr) (y v:V) (H':Hp):Prop :=
 (∃kvs k,H a=some (.dK kvs)∧y=kV k∧kvs.length < sizeLine∧H'=upd H a (.dK (br kvs k v))) ∨
 ∃kvs k b,H a=some (.dT kvs)∧y = .ref b∧H b=some (.tup (k.map kV))∧kvs.length < sizeLine∧H'=upd H a (.dT (br kvs k v))
section
variable {v:V} {r:Value} {o:Option V}
theorem Inv.big (I:Inv X pins σ H s):sysModules < s.heap.objs.size:=by
 have h:mainGlobals < s.heap.objs.size:=(I.mod.glob.keeps I.bk).lt
 exact lt_trans (by decide) h
theorem pL (hu:A.units+1 < cLine) (I:Inv X pins σ H s) (g:pk H a y (some v)) (ry:aX y u) (h : ∀w' s',Inv X pins σ H s'→aX v w'→Q w' s') :
  wpAny (model X.prog X.w) A (getItem (.ref a) u) Q E s:=by
 rcases g with⟨kvs,k,e,ey,l⟩ | ⟨kvs,k,b,e,ey,eb,l⟩
 ·subst ey
  obtain⟨z,hd,vs,rel,dd⟩:=og I.hok e;obtain⟨w',hw,rw'⟩:=jc.some_of (v:=v) (o:=valueAt vs k) (by rw[l];exact rel.val k)
  exact wpAny_getItem_of (kG ry) dd.mapOf hw (h w' _ (I.tok _) rw')
 ·subst ey
  cases (show u=Value.ref b from ry)
  obtain⟨z,hd,xs,rel,dd⟩:=nT I.hok e;obtain⟨w',hw,rw'⟩:=jc.some_of (v:=v) (o:=(atKey xs k).map (·.2)) (by rw[l];exact rel.val k)
  obtain⟨p,hp,hp2⟩:=map_eq_some_iff.mp hw;refine wpAny_getItem_heap (tupleKind_room_in1 hu) (ka I.hok eb) dd hp ?_
  rw[hp2];exact h w' _ (I.tok _) rw'
theorem EZ (hu:A.units+1 < cLine) (I:Inv X pins σ H s) (g:pk H a y o) (ry:aX y u) (h : ∀s',Inv X pins σ H s'→Q (.bool o.isSome) s') :
  wpAny (model X.prog X.w) A (compareOp .In u (.ref a)) Q E s:=by
 rcases g with⟨kvs,k,e,ey,l⟩ | ⟨kvs,k,b,e,ey,eb,l⟩
 ·subst ey
  obtain⟨z,hd,vs,rel,dd⟩:=og I.hok e;refine wpAny_in_of (kG ry) hd dd.mapOf ?_
  rw[← (rel.val k).isSome_eq,← l];exact h _ (I.tok _)
 ·subst ey
  cases (show u=Value.ref b from ry)
  obtain⟨z,hd,xs,rel,dd⟩:=nT I.hok e;refine wpAny_in_heap (tupleKind_room_in1 hu) (ka I.hok eb) hd dd ?_
  have q:=(rel.val k).isSome_eq;rw[isSome_map] at q;rw[← q,← l];exact h _ (I.tok _)
theorem AB (hu:A.units+1 < cLine) (I:Inv X pins σ H s) (g:pk H a y o) (ry:aX y u) (h : ∀s',Inv X pins σ H s'→Q (.bool (!o.isSome)) s') :
  wpAny (model X.prog X.w) A (compareOp .NotIn u (.ref a)) Q E s:=by
 rcases g with⟨kvs,k,e,ey,l⟩ | ⟨kvs,k,b,e,ey,eb,l⟩
 ·subst ey
  obtain⟨z,hd,vs,rel,dd⟩:=og I.hok e;refine wpAny_notIn_of (kG ry) hd dd.mapOf ?_
  rw[← (rel.val k).isSome_eq,← l];exact h _ (I.tok _)
 ·subst ey
  cases (show u=Value.ref b from ry)
  obtain⟨z,hd,xs,rel,dd⟩:=nT I.hok e;refine wpAny_notIn_heap (tupleKind_room_in1 hu) (ka I.hok eb) hd dd ?_
  have q:=(rel.val k).isSome_eq;rw[isSome_map] at q;rw[← q,← l];exact h _ (I.tok _)
theorem lH {ob:HO} (I:Inv X pins σ H s) (mu:Mut (H a)) (hs:Heap.SameBut a s.heap h') (he : ∃q,h'.get? a=some q) (new:be X.prog X.w (upd H a ob) h' a ob) :
  Inv X pins σ (upd H a ob) { s with heap:=h',toks:=t' } :=
 I.write (x:=a) (e:=a) mu (.inl rfl) (fun b q hb z=>(hs.2 b hb).trans z) he new
theorem zd {vs:List (Key × Value)} (z:kvs.length≤sizeLine) (hd:(a == sysModules)=false) (rel:KV kvs vs) (dd:h'.DictOf (aU P w) a vs) :
  be P w H' h' a (.dK kvs):=⟨z,hd,vs,rel,dd⟩
theorem xb {Q:Unit→Shared→Prop} (hu:A.units+1 < cLine) (I:Inv X pins σ H s) (g:Ds H a y v H') (ry:aX y u) (rv:aX v r) (h : ∀s',Inv X pins σ H' s'→Q () s') :
  wpAny (model X.prog X.w) A (setItem (.ref a) u r) Q E s:=by
 rcases g with⟨kvs,k,e,ey,l,eH⟩ | ⟨kvs,k,b,e,ey,eb,l,eH⟩
 ·subst ey eH
  obtain⟨z,hd,vs,rel,dd⟩:=jG I.hok e;have hz:vs.length≤sizeLine:=by rw[← rel.length];exact z
  have hl:(br kvs k v).length≤sizeLine:=by have:=cV kvs k v;omega
  refine wpAny_setItem_pairs (hsz:=hz) (kG ry) dd fun h' dd' hs=>h _ ?_
  have he : ∃q,h'.get? a=some q:=let ⟨q,_,_,hq,_⟩:=dd';⟨q,hq⟩
  exact lH I (by rw[e];exact True.intro) hs he (zd hl hd (rel.put k rv) dd')
 ·subst ey eH
  cases (show u=Value.ref b from ry)
  obtain⟨z,hd,xs,rel,dd⟩:=DE I.hok e;have hz:xs.length≤sizeLine:=by rw[← Paired.length rel];exact z
  have hl:(br kvs k v).length≤sizeLine:=by have:=cV kvs k v;omega
  refine wpAny_setItem_heap (hsz:=hz) (tupleKind_room_in1 hu) (ka I.hok eb) dd fun h' dd' hs=>h _ ?_
  obtain⟨q,es,ep,hq,h2,h3,h4,_,h5⟩:=dd';refine lH I (by rw[e];exact True.intro) hs ⟨q,hq⟩ ⟨hl,hd,_,(rel.put k eb rv).keeps fun c ys ec=>?_,q,es,ep,hq,h2,h3,h4,h5⟩
  rw[ag (bq ec e (fun z=>nomatch z))]
  exact ec
end
noncomputable def CS (i:Expr):Prop:=∀ov iv,subscripted i false ov iv=operate [ov,iv] (getItem ov iv)
theorem wj {id:String}
  (hl:typeLookup (.type T) "__getitem__" = pure (some (.builtin id))) (hs:CS slice)
  (h:wpAny (model prog w) A (eval value env) (fun o s₁=>wpAny (model prog w) A (eval slice env) (fun i s₂=>s₂.TypeIs o T∧wpAny (model prog w) A (getItem o i) Q E s₂) E s₁) E s) :
  wpAny (model prog w) A (eval (.Subscript value slice pos) env) Q E s:=by
 refine Subscript_ (wpAny_mono h (fun o s₁ h₁=>wpAny_mono h₁ (fun i s₂ h₂=>?_) fun _ _ x=>x) fun _ _ x=>x)
 obtain⟨hT,h₂⟩:=h₂;unfold subscriptTail;refine wpAny_bind ?_
 rw[getitemInPython_of_ne hT.not_modules];refine wpAny_bind (wpAny_specialOf hT hl ?_)
 have fin:wpAny (model prog w) A (subscripted slice false o i) (fun r s₃=>wpAny (model prog w) A (letTemporaryGo value o r >>= fun _=>pure r) Q E s₃) E s₂:=by
  rw[hs o i];exact wpAny_operating (wpAny_mono h₂ (fun r s₃ h₃=>wpAny_bind (wpAny_letTemporaryGo (wpAny_pure h₃))) fun _ _ x=>x)
 first
  | exact wpAny_pure (wpAny_bind fin)
  | exact wpAny_bind (wpAny_pure (wpAny_bind fin))
  | exact wpAny_bind fin
theorem kI {o:Option V} (I:Inv X pins σ H s) (g:pk H a y o):s.TypeIs (.ref a) "dict" := by
 rcases g with⟨kvs,k,e,_,_⟩ | ⟨kvs,k,b,e,_,_,_⟩
 ·obtain⟨_,_,vs,_,dd⟩:=og I.hok e
  exact dd.typeIs
 ·obtain⟨_,_,xs,_,dd⟩:=nT I.hok e
  exact dd.typeIs
theorem ud (h:Heap) (hb:sysModules < h.objs.size):be P w H (h.push { cls:=.type "dict",data:=.dict #[] }) h.objs.size (.dK []) :=
 ⟨zero_le _,beq_eq_false_iff_ne.mpr (Ne.symm (ne_of_lt hb)),[],.nil,Heap.DictOf.new h⟩
noncomputable def vt:TE:=fun _ H Q=>∀p,H p=none→Q (.ref p) (upd H p (.dK []))
theorem cj:PE X (.Dict [] [] pos) vt:=fun pins s σ H Q I h =>
 wpAny_Dict_empty ⟨.ref s.heap.objs.size,_,I.laid (a:=s.heap.objs.size) (o:=.dK []) (t':=s.toks) (fun _ _ q=>Heap.get?_push_of_some _ q) (le_refl _) (ud s.heap I.big),rfl,h _ (I.hok.fresh (le_refl _))⟩
noncomputable def nA:List (TE × TE)→St→Hp→(List (V × V)→Hp→Prop)→Prop
 | [],_,H,Q=>Q [] H
 | (tk,tv) :: r,σ,H,Q=>tk σ H fun x H1=>tv σ H1 fun y H2=>nA r σ H2 fun ps H3=>Q ((x,y) :: ps) H3
noncomputable abbrev VV:List (V × V)→List (Value × Value)→Prop:=Paired fun p q=>aX p.1 q.1∧aX p.2 q.2
noncomputable def PPs (X:Cx) (pos:Pos) (keys:List (Option Expr)) (values:List Expr) (trs:List (TE × TE)):Prop :=
 ∀ (pins:List (Addr × Obj)) (s:Shared) (σ:St) (H:Hp) (Q:List (V × V)→Hp→Prop),Inv X pins σ H s→nA trs σ H Q →
  wpAny (model X.prog X.w) X.A (evalPairs (pairTrees keys values X.env pos)) (fun vs s'=>∃ps H',Inv X pins σ H' s'∧VV ps vs∧Q ps H') X.xe s
theorem wB:PPs X pos [] [] []:=fun pins s σ H Q I h=>pairTrees_nil_walk ⟨[],H,I,.nil,h⟩
theorem gM {k v:Expr} {ks:List (Option Expr)} {vs:List Expr} {tk:TE} (hk:PE X k tk) (hv:PE X v tv) (hr:PPs X pos ks vs trs) :
  PPs X pos (some k :: ks) (v :: vs) ((tk,tv) :: trs):=fun pins s σ H Q I h =>
 pairTrees_cons_walk (thn (hk pins s σ H _ I h) fun u s1 ⟨x,H1,I1,rx,q1⟩=>thn (hv pins s1 σ H1 _ I1 q1) fun w2 s2 ⟨y,H2,I2,ry,q2⟩ =>
  thn (hr pins s2 σ H2 _ I2 q2) fun ws s3 zq6=>by obtain⟨ps,H3,I3,rel,q3⟩:=zq6;exact(⟨(x,y) :: ps,H3,I3,.cons ⟨rx,ry⟩ rel,q3⟩))
noncomputable def dh (kvs more:List (Key × V)):List (Key × V):=more.foldl (fun acc kv=>br acc kv.1 kv.2) kvs
theorem KV.merge : ∀{more:List (Key × V)} {rs:List (Key × Value)} {kvs:List (Key × V)} {vs:List (Key × Value)},KV more rs→KV kvs vs→KV (dh kvs more) (merged vs rs):=by
 intro more rs kvs vs r;unfold KV at r
 induction r generalizing kvs vs with
 | nil=>intro q;exact q
 | @cons p q ps qs h t ih =>
  intro r0;have e:KV (br kvs p.1 p.2) (stored vs q.1 q.2):=by
   have:=r0.put p.1 h.2
   rw[← h.1];exact this
  exact ih e
theorem fi : ∀(more kvs:List (Key × V)),(dh kvs more).length≤kvs.length+more.length
 | [],kvs=>by show kvs.length≤kvs.length+0;omega
 | p :: r,kvs=>by
  have h1:=fi r (br kvs p.1 p.2);have h2:=cV kvs p.1 p.2
  show(dh (br kvs p.1 p.2) r).length≤_
  rw[length_cons];omega
theorem oq {P:Program} {w:World} : ∀{kvs:List (Key × V)} {ws:List (Value × Value)},VV (kvs.map fun kv=>(kV kv.1,kv.2)) ws→∃rs,Carries (aU P w) ws rs∧KV kvs rs
 | [],_,r=>by rw[map_nil] at r;cases r;exact⟨[],True.intro,.nil⟩
 | p :: kvs,_,r=>by
  rw[map_cons] at r;cases r with
  | @cons a b as bs h t =>
   obtain⟨rs,c,q⟩:=oq (P:=P) (w:=w) t;obtain⟨b1,b2⟩:=b;exact⟨(p.1,b2) :: rs,⟨kG h.1,rfl,c⟩,.cons ⟨rfl,h.2⟩ q⟩
noncomputable def yL (trs:List (TE × TE)):TE:=fun σ H Q=>∀p,H p=none→nA trs σ (upd H p (.dK [])) fun ps H2=>H2 p=some (.dK [])∧∃kvs:List (Key × V),ps=kvs.map (fun kv=>(kV kv.1,kv.2))∧kvs.length≤15∧Q (.ref p) (upd H2 p (.dK (dh [] kvs)))
theorem vU {keys:List (Option Expr)} (h:PPs X pos keys values trs) (hall:keys.all (·.isSome)=true) (hl:keys.length=values.length) (h0:keys≠[])
  (h15:keys.length≤15):PE X (.Dict keys values pos) (yL trs):=by
 intro pins s σ H Q I q;have hn:=I.hok.fresh (le_refl s.heap.objs.size);have I1:=I.laid (a:=s.heap.objs.size) (o:=.dK []) (h':=s.heap.push { cls:=.type "dict",data:=.dict #[] }) (t':=s.toks) (fun _ _ q=>Heap.get?_push_of_some _ q) (le_refl _) (ud s.heap I.big)
 refine wpAny_Dict_walk (knd:=aU X.prog X.w) hall hl h0 h15 (thn (h pins _ σ _ _ I1 (q _ hn)) fun ws s2 zr2918=>?_)
 obtain⟨ps,H2,I2,rel,e,kvs,ep,lk,q2⟩:=zr2918;subst ep;obtain⟨rs,c,rk⟩:=oq (P:=X.prog) (w:=X.w) rel;obtain⟨z,hd,vs0,r0,dd⟩:=jG I2.hok e;cases r0;refine⟨rs,c,dd,fun h' dd' hs=>⟨.ref s.heap.objs.size,_,?_,rfl,q2⟩⟩
 have hz:(dh [] kvs).length≤sizeLine:=by
  have h1:=fi kvs [];rw[length_nil] at h1;rw[sizeLine_eq];omega
 have he : ∃q,h'.get? s.heap.objs.size=some q:=let ⟨q,_,_,hq,_⟩:=dd';⟨q,hq⟩
 exact lH I2 (by rw[e];exact True.intro) hs he (zd hz hd (rk.merge .nil) dd')
structure M2 (X:Cx) (o:Expr) (m:Str) (apos:Pos) (e f:Expr) (cpos:Pos):Prop where
 base:attributeBase o m X.env (eval o X.env)=eval o X.env
 few:((backTo cpos (starEach [e,f] X.env)).all (fun x=>!x.1) && (backToKw cpos (keywordEach [] X.env)).all (fun x=>x.1.isSome)
  && decide (([e,f]:List Expr).length+([]:List Keyword).length+(if ([]:List Keyword).isEmpty then 0 else 1) < 30))=true
 line:(apos.endLine == cpos.line)=true
 trees:backTo cpos (starEach [e,f] X.env)=[(false,eval e X.env),(false,eval f X.env)]
noncomputable def IsD (H:Hp) (a:Addr):Prop:=(∃kvs,Rd H a (.dK kvs))∨∃kvs,Rd H a (.dT kvs)
theorem yj (I:Inv X pins σ H s) (d:IsD H a) :
  s.TypeIs (.ref a) "dict" ∧(∀b,Value.ref a = .ref b→∃ob,s.heap.get? b=some ob∧ob.dict=none)∧(a == sysModules)=false:=by
 rcases d with⟨kvs,e⟩ | ⟨kvs,e⟩
 ·obtain⟨_,hd,vs,_,dd⟩:=og I.hok e
  refine⟨dd.typeIs,fun b q=>?_,hd⟩
  cases q;obtain⟨ob,_,_,h1,h2,_⟩:=dd;exact⟨ob,h1,h2.2.1⟩
 ·obtain⟨_,hd,xs,_,dd⟩:=nT I.hok e
  refine⟨dd.typeIs,fun b q=>?_,hd⟩
  cases q;obtain⟨ob,_,_,h1,h2,_⟩:=dd;exact⟨ob,h1,h2.2.1⟩
section
variable {d:V} {r:Value} {o:Option V}
theorem Co (hu:A.units+1 < cLine) (I:Inv X pins σ H s) (g:pk H a y o) (ry:aX y u) (rd:aX d r) (h : ∀w' s',Inv X pins σ H s'→aX (o.getD d) w'→Q w' s') :
  wpAny (model X.prog X.w) A (call (.builtin "dict.get") [.ref a,u,r]) Q E s:=by
 rcases g with⟨kvs,k,e,ey,l⟩ | ⟨kvs,k,b,e,ey,eb,l⟩
 ·subst ey
  obtain⟨z,hd,vs,rel,dd⟩:=og I.hok e;refine call_meetsIn PySem.F.slot_dict_get dd.typeIs PySem.F.entry_dict_get (PySem.F.args_dict_get_3 _ _ _) (meets_dict_get_default (aU X.prog X.w) a (kG ry) hd r) ⟨_,dd.mapOf,h _ _ (I.tok _) ?_⟩
  rw[l];exact(rel.val k).getD rd
 ·subst ey
  cases (show u=Value.ref b from ry)
  obtain⟨z,hd,xs,rel,dd⟩:=nT I.hok e;refine call_meetsIn PySem.F.slot_dict_get dd.typeIs PySem.F.entry_dict_get (PySem.F.args_dict_get_3 _ _ _) (meetsH_dict_get_default (tupleKind (aU X.prog X.w)) a b hd r) ⟨tupleKind_room_in1 hu,k,xs,ka I.hok eb,dd,h _ _ (I.tok _) ?_⟩
  rw[l];exact(rel.val k).getD rd
end
noncomputable def ft (td ty tx:TE):TE:=fun σ H Q=>td σ H fun x H1=>∃a,x = .ref a∧IsD H1 a∧ty σ H1 fun y H2=>tx σ H2 fun z H3=>∃o,pk H3 a y o∧Q (o.getD z) H3
section
variable {o f:Expr} {tx:TE}
theorem dF (hu:X.A.units+1 < cLine) (ho:PE X o td) (he:PE X e ty) (hf:PE X f tx) (m:M2 X o "get" apos e f cpos):PE X (.Call (.Attribute o "get" apos) [e,f] [] cpos) (ft td ty tx):=by
 intro pins s σ H Q I h;refine wpAny_Call_method m.base m.few m.line PySem.F.plainAttrs_dict PySem.F.slot_dict_get PySem.F.type_dict_get (thn (ho pins s σ H _ I h) fun u s1 zr2972=>?_)
 obtain⟨x,H1,I1,rx,a,ex,d,q1⟩:=zr2972;subst ex;obtain rfl:u=Value.ref a:=rx
 obtain⟨t1,t2,_⟩:=yj I1 d;refine⟨t1,t2,?_⟩
 rw[m.trees];refine Calls.callWith_builtin rfl (Calls.evalArgs_plain (Calls.spliced_cons (thn (he pins s1 σ H1 _ I1 q1) fun iv s2 ⟨y,H2,I2,ry,q2⟩ =>
  Calls.spliced_cons (thn (hf pins s2 σ H2 _ I2 q2) fun fv s3 ⟨z,H3,I3,rz,ov,g,q3⟩=>Calls.spliced_nil ?_))))
 exact Co hu I3 g ry rz fun w' s4 I4 rw'=>⟨_,H3,I4,rw',q3⟩
end
end L2
namespace Att
open PySem PySem.W PySem.Calls PyProof.Rows
theorem lg {P:Params} : ∀(ns:List Int) (vs:List Value),WellAll P h vs (ns.map WData.int)→IntsAre vs ns:=by
 intro ns
 induction ns with
 | nil =>
  intro vs w;rw[map_nil] at w;cases w;exact .nil
 | cons n ns ih =>
  intro vs w;rw[map_cons] at w;cases w with
  | cons a b =>
   cases a;exact .cons _ _ (ih _ b)
theorem xv {l:OpenLaw} (hn:l.most=some n) {P:Params} {h:Heap} {args:List WData} {vals:List Value}
  (hpre:l.row.toRowW.claim.pre args=true) (hwl:WellAll P h vals args) :
  ∃a vs ns,vals=[Value.ref a]∧args=[WData.list (ns.map WData.int)]∧h.get? a=some { cls:=.type "list",data:=.seq vs.toArray }∧IntsAre vs ns∧ns.length≤n:=by
 have hsh:WShape.hasAll [] args [.list .int]=true:=(pre_splitW hpre).1
 have hc:l.pre.holds [] { args:=args }=true:=(pre_splitW hpre).2
 obtain⟨d,r,rfl,h1,h2⟩:=hasAllW_cons hsh;obtain rfl:=hasAllW_nil h2
 obtain⟨xs,rfl,h3⟩:=hasW_list h1;obtain⟨ns,rfl⟩:=items_int h3;have hlen:ns.length≤n:=by
  unfold OpenLaw.pre at hc;have h4:(WTm.not (.lt (.lit (.int (n:Int))) (.len (.arg 0)))).holds [] { args:=[.list (ns.map .int)] }=true:=by
   have h4:=(holds_andW hc).1;rw[hn] at h4;exact h4
  have h5:=condW_of h4 (w_not (w_lt w_lit (w_len_list (w_arg rfl))));rw[length_map] at h5;refine Nat.le_of_not_lt fun q=>?_
  have q':(n:Int) < ((ns.length:Nat):Int):=by omega
  first
   | (rw[decide_eq_true q'] at h5;exact absurd h5 (by decide))
   | (simp at h5;omega)
 cases hwl with
 | cons w1 w2 =>
  cases w2;cases w1 with
  | list ho hall=>exact⟨_,_,ns,rfl,rfl,ho,lg ns _ hall,hlen⟩
theorem xH (l:OpenLaw) (args:List WData):l.row.toRowW.claim.post args (.bool true) args=true :=
 postW_of (r:=l.row.toRowW) (X:=(true == true))
  (show WShape.has [] (.bool true) .bool=true by first | rfl | decide | simp[WShape.has,WShape.arms,WShape.armsAll])
  (show(WTm.eq .res (.lit (.bool true))).value [] { args:=args,res:=some (.bool true),after:=args }=some (.bool (true == true)) from w_eq_bool (w_res rfl) w_lit) rfl
theorem attach_call {l:OpenLaw} {d:DefRec}
  (hn:l.most=some n) (hdf:d.params.defaults=[])
  (call : ∀(w:World) (s₀ s₁:Shared) (mg mb:Str→Option Value) (fa:Addr) (o:Obj) (pm cd doc:Value) (a:Addr) (vs:List Value) (ns:List Int),
   Ground q loose [] XP w s₀ mg mb s₁.heap→YP w s₁.heap →
   s₁.heap.get? fa=some o→o.data = .func (docDef d.name d.params d.body d.scope pm cd doc)→s₁.heap.CodeRec cd d.name→mg d.name=some (.ref fa) →
   s₁.heap.get? a=some { cls:=.type "list",data:=.seq vs.toArray }→IntsAre vs ns→ns.length≤n→s₁.gens = #[] →
   codeAny (model l.prog w) callerA (.call (.ref fa) ⟨[.ref a],[]⟩) (fun r s'=>r = .ok (.ret (.bool true))∧OldK s₁.heap s'.heap∧s'.os=s₁.os∧AllBare s'.gens) s₁) :
  WalkO q loose XP YP l.row.toRowW d [] (fun f vs=>PySem.call f vs):=by
 intro w s₀ s₁ mg mb G Y fa o pm cd doc dV kV ho hd hcd hD hmg hg args vals as hpre hlay hrd hwl hlo;obtain rfl:dV = .none:=Dflts.none hD hdf
 obtain rfl:kV = .none:=Dflts.noKw hD
 obtain⟨a,vs,ns,rfl,rfl,hobj,hints,hlen⟩:=xv hn hpre hwl;refine enter_call (codeAny_mono (call w s₀ s₁ mg mb fa o pm cd doc a vs ns G Y ho (fd_plain hd) hcd hmg hobj hints hlen hg) fun r s' hq=>?_)
 obtain⟨rfl,h2,h3,h4⟩:=hq;exact⟨.inl ⟨.bool true,.bool true,[],rfl,fun _=>rfl,.bool true,xH l _,fun _=>⟨List.Pairwise.nil,fun _ hm=>(nomatch hm)⟩⟩,h2,h3,h4⟩
end Att
namespace L2
open PySem PySem.Spec PyProof.Rows
theorem ix : ∀{vs:List Value} {ns:List Int},IntsAre vs ns→aT (ns.map V.int) vs
 | _,_,.nil=>.nil
 | _,_,.cons n t h=>.cons ⟨t,rfl⟩ (ix h)
noncomputable def cI (s:Stmt):Arguments:=match s with
 | .FunctionDef _ a _ _ _ _ _ _ _ _=>a
 | _=>{ posonlyargs:=[],args:=[],vararg:=none,kwonlyargs:=[],kw_defaults:=[],kwarg:=none,defaults:=[] }
noncomputable def bT (s:Stmt):List Stmt:=match s with
 | .FunctionDef _ _ b _ _ _ _ _ _ _=>b
 | _=>[]
noncomputable def am (s:Stmt):Scope:=match s with
 | .FunctionDef _ _ _ _ _ _ sc _ _ _=>sc
 | _=>{ kind:=.function,names:=[],isGenerator:=false,isCoroutine:=false }
noncomputable abbrev CX0:CXT:=fun _ _ _ _ _ _=>False
noncomputable abbrev E0:XK:=fun _ _ _=>False
theorem wF:uF CX0 X E0:=fun _ _ _ _ _ _ _ h=>h.elim
structure Fun (K:PySem.W.Frag) (x qual:Str) (st:Stmt) (f:Addr) (fd:FuncData):Prop where
 ex : ∃(oc:Value) (od:Option Addr) (kV doc pm:Value) (an:Option Addr) (cdv ct:Value) (osl:Array (Option Value)),
  fd=fnOf x qual (cI st) (bT st) (am st) .none kV doc pm an cdv ct∧K.lookup f=some ⟨oc,od,.func fd,osl⟩∧codeIn K cdv qual=true
 kp:keepIn K (.ref f)=true
section
variable {P:Program} {w:World} {K:PySem.W.Frag} {mg:Str→Option Value} {base:Heap}
theorem Fun.ok (F:Fun K x qual st f fd) (S:aH N ps (am st)) (len : ∀vs H Q E,sp vs H Q E→vs.length=ps.length)
  (hbody : ∀(cdv:Value) (A:Around) (outer:List Env) (s:Shared) (H:Hp) (vs:List V) (Q:VK) (E:XK),cu k (A.deeper (envOfC qual (am st) s.heap.objs.size f cdv))→sp vs H Q E →
   ∃t,PSs (rn CX0 P w K mg base N qual (am st) f cdv A outer s H E).nox (bT st) t∧t { nx:=fun _ H'=>Q .non H',rt:=Q } (fM N vs) H):gY P w K mg base CX0 (k+1) f fd ps sp:=by
 obtain⟨oc,od,kV,doc,pm,an,cdv,ct,osl,rfl,lk,hcd⟩:=F.ex;refine Be lk hcd S len fun A outer s H vs Q E hr hsp=>?_
 obtain⟨t,h,q⟩:=hbody cdv A outer s H vs Q E hr hsp;exact⟨t,h.nox,q⟩
theorem Fun.binds (F:Fun K x qual st f fd)
  (h : ∀(kV doc pm:Value) (an:Option Addr) (cdv ct:Value) (us:List Value),us.length=ps.length→bindArgs (fnOf x qual (cI st) (bT st) (am st) .none kV doc pm an cdv ct) ⟨us,[]⟩=pure (ps.zip us)):jA K fd ps []:=by
 obtain⟨oc,od,kV,doc,pm,an,cdv,ct,osl,rfl,lk,hcd⟩:=F.ex;exact .all (h kV doc pm an cdv ct)
theorem nX {an:Option Addr} {kV:Value} (l:K.lookup f=some ⟨oc,od,.func (fnOf x qual (cI st) (bT st) (am st) .none kV doc pm an cdv ct),osl⟩)
  (c:codeIn K cdv qual=true) (k:keepIn K (.ref f)=true):Fun K x qual st f (fnOf x qual (cI st) (bT st) (am st) .none kV doc pm an cdv ct):=⟨⟨oc,od,kV,doc,pm,an,cdv,ct,osl,rfl,l,c⟩,k⟩
end
theorem sV (hr:cu k A):A.units+1 < cLine:=Nat.lt_of_le_of_lt (Nat.add_le_add_left (by decide:1≤64) _) hr.units
theorem ax (h:n≤1000):n < sizeLine:=Nat.lt_of_le_of_lt h (by decide)
theorem cW {c A B:Prop} [Decidable c] (h1:c→A) (h2 : ¬ c→B):if c then A else B:=by
 by_cases h:c
 ·rw[if_pos h]
  exact h1 h
 ·rw[if_neg h]
  exact h2 h
noncomputable def ao (H H':Hp):Prop:=∀b o,H b=some o→H' b=some o
theorem ao.refl (H:Hp):ao H H:=fun _ _ h=>h
theorem ao.trans (a:ao H H1) (b:ao H1 H2):ao H H2:=fun c o h=>b c o (a c o h)
theorem ao.free (e:ao H H') {l:Addr} (h:H' l=Option.none):H l=Option.none:=by
 cases q:H l with
 | none=>rfl
 | some o =>
  rw[e l o q] at h;cases h
theorem ao.seq (e:ao H H') (h:SqL K H a xs):SqL K H' a xs:=by
 rcases h with(h | ⟨o,h⟩) | h
 ·exact .inl (.inl (e _ _ h))
 ·exact .inl (.inr ⟨o,e _ _ h⟩)
 ·exact .inr h
section
variable [DecidableEq κ]
theorem za {kvs:List (κ × V)} {k:κ} (h:bu kvs k=none) : ¬ k∈kvs.map (·.1):=by
 intro m;obtain⟨p,hp,e⟩:=mem_map.mp m;have q:(kvs.any fun kv=>decide (kv.1=k))=true:=any_eq_true.mpr ⟨p,hp,decide_eq_true e⟩
 rw[dC,h] at q;exact absurd q (by simp)
theorem vA : ∀{l:List κ} {k:κ},l.Nodup→¬ k∈l→(l++[k]).Nodup
 | [],k,_,_=>by simp
 | a :: r,k,h,hk=>by
  obtain⟨h1,h2⟩:=nodup_cons.mp h
  show(a ::(r++[k])).Nodup
  refine nodup_cons.mpr ⟨fun m=>?_,vA h2 fun m=>hk (mem_cons.mpr (Or.inr m))⟩
  rcases mem_append.mp m with q | q
  ·exact h1 q
  ·exact hk (mem_cons.mpr (Or.inl (mem_singleton.mp q).symm))
theorem Aw {kvs:List (κ × V)} {k:κ} (v:V) (hn:(kvs.map (·.1)).Nodup) (h:bu kvs k=none):((br kvs k v).map (·.1)).Nodup:=by
 rw[dE v h,map_append];exact vA hn (za h)
end
theorem qh {target:Expr} {it acc:Value} (I:Nat→Shared→Prop)
  (turn : ∀ n s,I n s→wpAny (model prog w) A (pyNext it) (fun r s₁=>match r with
   | none=>R (.ok .next) s₁
   | some v=>wpAny (model prog w) A (letOwnedTupleGo target it v) (fun _ s₁=>wpAny (model prog w) A (assign target env v) (fun _ s₂ =>
     wpAny (model prog w) A (forIn ifs true fun c r=>if r=true then do let ok ← isTrue c env (eval c env);pure (ForInStep.yield ok) else pure (ForInStep.yield r)) (fun ok s₃ =>
      if ok=true then wpAny (model prog w) A (eval elt env) (fun x s₄ =>
       wpAny (model prog w) A (call (.builtin "list.append") [acc,x]) (fun _ s₅=>∃m,m < n∧I m s₅) (notedBy (model prog w) A env fun e s'=>R (.error e) s') s₄) (notedBy (model prog w) A env fun e s'=>R (.error e) s') s₃
      else ∃m,m < n∧I m s₃) (notedBy (model prog w) A env fun e s'=>R (.error e) s') s₂) (notedBy (model prog w) A env fun e s'=>R (.error e) s') s₁) (notedBy (model prog w) A env fun e s'=>R (.error e) s') s₁) (notedBy (model prog w) A env fun e s'=>R (.error e) s') s)
  (n:Nat) (h:I n s) :
  codeAny (model prog w) A (.compLoop (.ListComp elt [⟨target,iter,ifs,0⟩] scope pos) 0 it acc env) R s:=by
 refine codeAny_loop rfl I (fun n s hI=>?_) n h
 show wpAny _ A ((compTurn (.ListComp elt [⟨target,iter,ifs,0⟩] scope pos) 0 it acc env).onRaise (fun x=>do noteFrame x env;theTreesLotGoes x)) _ _ s
 refine wpAny_noted ?_
 rw[compTurn_list];refine wpAny_bind (wpAny_standAt (wpAny_bind (wpAny_mono (turn n s hI) (fun r s₁ h₁=>?_) fun _ _ h'=>h')))
 cases r with
 | none=>exact wpAny_pure h₁
 | some v =>
  refine wpAny_bind (wpAny_mono h₁ (fun _ s₁ h₁=>?_) fun _ _ h'=>h')
  refine wpAny_bind (wpAny_mono h₁ (fun _ s₂ h₂=>wpAny_bind (wpAny_mono h₂ (fun ok s₃ h₃=>?_) fun _ _ h'=>h')) fun _ _ h'=>h')
  cases ok with
  | false=>exact wpAny_pure ⟨rfl,h₃⟩
  | true =>
   exact wpAny_bind (wpAny_bind (wpAny_mono h₃ (fun x s₄ h₄=>wpAny_bind (wpAny_mono h₄ (fun _ s₅ h₅=>wpAny_pure (wpAny_pure ⟨rfl,h₅⟩)) fun _ _ h'=>h')) fun _ _ h'=>h'))
noncomputable def PTs (X:Cx) (ifs:List Expr) (t:TT):Prop :=
 ∀ (pins:List (Addr × Obj)) (s:Shared) (σ:St) (H:Hp) (Q:Bool→Hp→Prop),Inv X pins σ H s→t σ H Q →
  wpAny (model X.prog X.w) X.A (forIn ifs true fun c r=>if r=true then do let ok ← isTrue c X.env (eval c X.env);pure (ForInStep.yield ok) else pure (ForInStep.yield r)) (TP X pins σ Q) X.xe s
noncomputable def tP:TT:=fun _ H Q=>Q true H
theorem aV:PTs X [] tP:=fun _ _ _ H _ I h=>wpAny_tests_nil ⟨H,I,h⟩
theorem qX {c:Expr} {t:TT} (hc:PT X c t):PTs X [c] t:=fun pins s σ H Q I h=>wpAny_tests_one (hc pins s σ H Q I h)
theorem jd {env:Env} : ∀(names:List (Str × NameKind)) (acc:List (Str × Addr)),(∀x∈names,x.2 = .free→∃c,env.cells.lookup x.1=some c) →
  ∃ cl,(forIn (m:=Sem) names acc fun x r=>match x with
   | (name,kind)=>if (kind == NameKind.free)=true then do let c ← cellOf env name;pure (ForInStep.yield ((name,c) :: r)) else pure (ForInStep.yield r))=pure cl ∧
   (∀x c,cl.lookup x=some c→acc.lookup x=some c∨env.cells.lookup x=some c)∧(∀x,(acc.lookup x).isSome=true→(cl.lookup x).isSome=true)∧(∀x,(x,NameKind.free)∈names→(cl.lookup x).isSome=true)
 | [],acc,_=>⟨acc,rfl,fun x c h=>.inl h,fun x h=>h,fun x h=>nomatch h⟩
 | (n, k) :: r,acc,h=>by
  by_cases hk:k = .free
  ·subst hk
   obtain⟨c,hc⟩:=h (n,.free) mem_cons_self rfl;obtain⟨cl,e,h1,h2,h3⟩:=jd r ((n,c) :: acc) (fun x hx=>h x (mem_cons_of_mem _ hx))
   refine⟨cl,?_,fun x d hd=>?_,fun x hx=>h2 x ?_,fun x hx=>?_⟩
   ·simp only[forIn_cons,beq_self_eq_true,if_true,cellOf,hc]
    exact e
   ·rcases h1 x d hd with q | q
    ·simp only[lookup_cons] at q
     split at q
     ·rename_i hb
      have:x=n:=by simpa using hb
      subst this;cases q;exact .inr hc
     ·exact .inl q
    ·exact .inr q
   ·simp only[lookup_cons]
    split
    ·rfl
    ·exact hx
   ·rcases mem_cons.mp hx with q | q
    ·cases q
     exact h2 n (by simp)
    ·exact h3 x q
  ·obtain⟨cl,e,h1,h2,h3⟩:=jd r acc (fun x hx=>h x (mem_cons_of_mem _ hx))
   refine⟨cl,?_,h1,h2,fun x hx=>?_⟩
   ·have:(k == NameKind.free)=false:=by simpa using hk
    simp only[forIn_cons,this,Bool.false_eq_true,if_false];exact e
   ·rcases mem_cons.mp hx with q | q
    ·cases q
     exact absurd rfl hk
    ·exact h3 x q
noncomputable def dB (nt:Nat) (js:List Nat) (σ:St):St:=replicate nt none++js.map fun j=>(σ[j]?).join
noncomputable def Wk (σ0 σ2:St):Prop:=σ0.length=σ2.length∧∀(i:Nat) v,σ0[i]? = some (some v)→σ2[i]? = some (some v)
noncomputable def zC (g:TG) (nt:Nat):Prop:=∀(x:V) (σ0:St) (H:Hp) (Q:St→Hp→Prop),(∀i,i < nt→σ0[i]? = some none)→g x σ0 H Q→g x σ0 H fun σ2 H2=>Wk σ0 σ2∧Q σ2 H2
theorem Wk.set {σ0:St} {i:Nat} {v:V} (h:σ0[i]? = some none):Wk σ0 (σ0.set i (some v)):=by
 refine⟨by simp,fun j w e=>?_⟩
 by_cases hj:j=i
 ·subst hj;rw[h] at e;cases e
 ·rw[List.getElem?_set_ne (Ne.symm hj)];exact e
theorem Wk.trans {a b c:St} (h:Wk a b) (h':Wk b c):Wk a c:=⟨h.1.trans h'.1,fun i v e=>h'.2 i v (h.2 i v e)⟩
theorem aQ {i:Nat} (hi:i < nt:=by decide):zC (eV i) nt:=fun x σ0 H Q h q=>⟨Wk.set (h i hi),q⟩
theorem mh : ∀i,i < nt→(dB nt js σ)[i]? = some none:=fun i hi=>by
 unfold dB;rw[List.getElem?_append_left (by simpa using hi)]
 simp[hi]
noncomputable def vM (nt:Nat) (js:List Nat) (wi:TI) (g:TG) (tc:TT) (te:TE):TE:=fun σ H Q=>wi σ H fun J H1=>∀D,H1 D=none→∃W:Nat→Nat→List V→Hp→Prop,(∃m,W 0 m [] (upd H1 D (.lst []))) ∧
 ∀ i m ys H2,W i m ys H2→(J.stop i H2∧Q (.ref D) H2)∨(J.go i H2∧∃N:List V→Hp→Prop,(∀ys' H',N ys' H'→∃m',m' < m∧W (i+1) m' ys' H') ∧
  ∀x H',J.yld i H2 x H'→g x (dB nt js σ) H' fun σ2 H3=>tc σ2 H3 fun b H4=>if b=true then te σ2 H4 fun y H5=>H5 D=some (.lst ys)∧ys.length < sizeLine∧N (ys++[y]) (upd H5 D (.lst (ys++[y]))) else N ys H4)
theorem dR {env:Env} : ∀{names:List (Str × NameKind)} {x:Str},names.lookup x=some .free →
  ((names.map fun(n,k)=>if (k == NameKind.free && env.scope.kind == .function && env.kindOf n == some .cell) then(n,NameKind.cell) else(n,k)).lookup x=some .cell∨(names.map fun(n,k)=>if (k == NameKind.free && env.scope.kind == .function && env.kindOf n == some .cell) then(n,NameKind.cell) else(n,k)).lookup x=some .free)
 | [],_,h=>by simp at h
 | (n,k) :: r,x,h=>by
  have ih:=@dR env r x;simp only[map_cons];cases hx:x == n with
  | true =>
   simp only[lookup_cons,hx] at h;cases h
   by_cases q:(NameKind.free == NameKind.free && env.scope.kind == .function && env.kindOf n == some .cell)=true
   ·rw[if_pos q];simp only[lookup_cons,hx];simp
   ·rw[if_neg q];simp only[lookup_cons,hx];simp
  | false =>
   simp only[lookup_cons,hx] at h
   by_cases q:(k == NameKind.free && env.scope.kind == .function && env.kindOf n == some .cell)=true
   ·rw[if_pos q];simp only[lookup_cons,hx];exact ih h
   ·rw[if_neg q];simp only[lookup_cons,hx];exact ih h
theorem Inv.wk {Y:Cx} {σ2:St} (I:Inv Y pins σ2 H s) (h:Wk σ0 σ2):Inv Y pins σ0 H s:=I.weak h.1 h.2
end L2
namespace PySem
open Sem (wp)
theorem wZ:typeLookup (.type "list_reverseiterator") "__len__" = pure none:=by rw[typeLookup_type,builtinLookup_eq_fast];kernel_rfl
theorem yM:typeLookup (.type "list_reverseiterator") "__length_hint__" = pure (some (.builtin "list_reverseiterator.__length_hint__")):=by rw[typeLookup_type,builtinLookup_eq_fast];kernel_rfl
theorem vg (hh:A.handled=none) (S:Addr) (res:Value) (c₀:Nat) (hS:s.heap.get? S=some { cls:=.type "list",data:=.seq #[] c₀ })
  {I l:Addr} {items:Array Value} (hi:s.heap.IsRevIter I l ((items.size:Int) - 1)) (hl:s.heap.IsList l items) (hIl:l≠I) (hSI:S≠I) (hSl:S≠l)
  (hR : ∀h' tk acc' c',(∀b o,b≠S→b≠I→s.heap.get? b=some o→h'.get? b=some o)→h'.get? S=some { cls:=.type "list",dict:=none,data:=.seq acc' c',slots := #[] } →
   ItemsOf (fun i v=>items[items.size - 1 - i]? = some v) acc' items.size→R (.ok (.ret res)) { s with heap:=h',toks:=tk }) (hn:items.size≤sizeLine) :
  wpAny (model prog w) A.in1 (Builtin.List.listExtendWith (.ref S) (.ref I) res)
   (fun fin s'=>match fin with | .done f=>R (.ok f) s' | .again c'=>c'.quiet=true∧codeAny (model prog w) A c' R s') (fun e s'=>R (.error e) s') s:=by
 have W:=(Walks.listRev (prog:=prog) (w:=w) (A:=A.in1) hh I l hIl items);have hSf:S∉[I,l]:=fun hm=>by
  rcases mem_cons.mp hm with e | e
  ·exact hSI e
  ·exact hSl (mem_singleton.mp e)
 have hst:0≤items.size∧s.heap.IsRevIter I l ((items.size:Int) - 1 - ((0:Nat):Int))∧s.heap.IsList l items:=⟨zero_le _,by simpa using hi,hl⟩
 unfold Builtin.List.listExtendWith;refine wpAny_bind (wpAny_typeOf hi.typeIs ?_)
 have h1:Builtin.List.listSameRef (.ref S) (.ref I)=false:=by simp[Builtin.List.listSameRef,hSI]
 have h2:(Value.type "list_reverseiterator" == Value.type "list")=false:=by decide
 have h3:(Value.type "list_reverseiterator" == Value.type "tuple")=false:=by decide
 simp only[h1,h2,h3,Bool.or_false,Bool.false_eq_true,if_false];refine wpAny_bind (W.self 0 _ _ _ hst ?_)
 refine wpAny_bind (wpAny_holding ?_)
 unfold Builtin.List.listLengthHint;refine wpAny_bind (wpAny_specialOf hi.typeIs wZ ?_)
 show wpAny _ A.in1 (specialOf (Value.ref I) (Str.ofString "__length_hint__") >>= _) _ _ _
 refine wpAny_bind (wpAny_specialOf hi.typeIs yM ?_)
 (generalize hid:("list_reverseiterator.__length_hint__" : String)=id0;(fail_if_success (clear hid id0));wp_delta;rw[show splitId id0=some ("list_reverseiterator","__length_hint__") from by subst hid;decide+kernel];subst hid)
 refine wpAny_bind (wpAny_isInstance (b:=true) hi.typeIs (by rw[isSubtype_type];kernel_rfl) ?_)
 refine wpAny_pure ?_
 rw[if_neg (by decide)]
 refine wpAny_pure ⟨plainId_quiet F.plain_extend_loop _,codeAny_extend_loopS W.toS hn _ hSf _ items.size 0 _ _ _ rfl (zero_le _) hst hS (ItemsOf.nil _) fun s' acc' c' hm hS' hacc=>?_⟩
 rw[Moved.eq_with hm];refine hR s'.heap s'.toks acc' c' (fun b ob hb hbI e=>hm.heap b ob (fun hmem=>?_) e) hS' hacc
 rcases mem_cons.mp hmem with e' | hmem
 ·exact hb e'
 ·exact hbI (mem_singleton.mp hmem)
theorem oz (hh:A.handled=none) (S:Addr) (hS:s.heap.get? S=some { cls:=.type "list",data:=.seq #[] })
  {I l:Addr} {items:Array Value} (hi:s.heap.IsRevIter I l ((items.size:Int) - 1)) (hl:s.heap.IsList l items) (hIl:l≠I) (hSI:S≠I) (hSl:S≠l)
  (hR : ∀h' tk acc' c',(∀b o,b≠S→b≠I→s.heap.get? b=some o→h'.get? b=some o)→h'.get? S=some { cls:=.type "list",dict:=none,data:=.seq acc' c',slots := #[] } →
   ItemsOf (fun i v=>items[items.size - 1 - i]? = some v) acc' items.size→R (.ok (.ret .none)) { s with heap:=h',toks:=tk }) (hn:items.size≤sizeLine) :
  wpAny (model prog w) A.in1 (Builtin.«list.__init__» ⟨[.ref S,.ref I],[]⟩)
   (fun fin s'=>match fin with | .done f=>R (.ok f) s' | .again c'=>c'.quiet=true∧codeAny (model prog w) A c' R s') (fun e s'=>R (.error e) s') s:=by
 show wpAny _ _ (do let old ← Builtin.List.listItems (.ref S);Builtin.List.listUpdate (.ref S) (fun _ => #[]);letGo old.toList.reverse;Builtin.List.listExtendWith (.ref S) (.ref I) .none) _ _ s
 refine wpAny_bind ?_
 unfold Builtin.List.listItems;refine wpAny_bind (wpAny_seqItems hS rfl (wpAny_pure ?_))
 show wpAny _ _ (updateSeq S (fun _ => #[]) >>= fun _=>letGo (#[]:Array Value).toList.reverse >>= fun _=>Builtin.List.listExtendWith (.ref S) (.ref I) .none) _ _ s
 refine wpAny_bind (wpAny_updateSeq hS rfl ?_)
 have hS₂:=Heap.get?_update_self (Obj.mapSeq (fun _=>(#[]:Array Value))) hS rfl
 have oth : ∀b o,b≠S→s.heap.get? b=some o→(s.heap.update S (Obj.mapSeq (fun _=>(#[]:Array Value)))).get? b=some o :=
  fun b o hb e=>(Heap.get?_update_other _ _ (Ne.symm hb)).trans e
 refine wpAny_bind (wpAny_letGo ?_)
 refine vg (s:={ s with heap:=s.heap.update S (Obj.mapSeq (fun _=>(#[]:Array Value))) }) hh S .none _ hS₂ (hi.at fun o e=>oth _ o (Ne.symm hSI) e) (hl.at fun o e=>oth _ o (Ne.symm hSl) e) hIl hSI hSl (fun h' tk acc' c' hk hS' hacc=>?_) hn
 exact hR h' tk acc' c' (fun b o hb hbI e=>hk b o hb hbI (oth b o hb e)) hS' hacc
theorem oU (hh:A.handled=none) {I l:Addr} {items:Array Value} (hi:s.heap.IsRevIter I l ((items.size:Int) - 1)) (hl:s.heap.IsList l items) (hIl:l≠I)
  (hQ : ∀h' tk acc' c',(∀b o,b≠I→s.heap.get? b=some o→h'.get? b=some o) →
   h'.get? s.heap.objs.size=some { cls:=.type "list",dict:=none,data:=.seq acc' c',slots := #[] }→ItemsOf (fun i v=>items[items.size - 1 - i]? = some v) acc' items.size→Q (.ref s.heap.objs.size) { s with heap:=h',toks:=tk }) (hn:items.size≤sizeLine) :
  wpAny (model prog w) A (call (.type "list") [.ref I]) Q E s:=by
 refine callType_codes (Q₁:=fun obj s₁=>obj = .ref s.heap.objs.size∧s₁={ s with heap:=s.heap.push { cls:=.type "list",data:=.seq #[] } }) F.called_list (F.typeCall_list_1 _) F.entry_list_init
  (code_list_new _ ⟨rfl,rfl⟩) fun obj s₁ h₁=>?_
 obtain⟨rfl,rfl⟩:=h₁;have hS:(s.heap.push { cls:=.type "list",data:=.seq #[] }).get? s.heap.objs.size=some { cls:=.type "list",data:=.seq #[] }:=Heap.get?_push_size _ rfl
 have up : ∀b o,s.heap.get? b=some o→(s.heap.push { cls:=.type "list",data:=.seq #[] }).get? b=some o:=fun b o e=>Heap.get?_push_of_some _ e
 obtain⟨oi,hoi,_⟩:=id hi;obtain⟨ol,hol,_⟩:=id hl;refine⟨⟨_,hS,rfl⟩,F.args_list_init_2 _ _,oz (s:={ s with heap:=s.heap.push { cls:=.type "list",data:=.seq #[] } }) (A:=A.in1) hh _ hS (hi.at fun o e=>up _ o e) (hl.at fun o e=>up _ o e) hIl (ne_of_gt (Heap.lt_size hoi)) (ne_of_gt (Heap.lt_size hol)) (fun h' tk acc' c' hk hS' hacc=>?_) hn⟩
 exact⟨rfl,hQ h' tk acc' c' (fun b o hb e=>hk b o (ne_of_lt (Heap.lt_size e)) hb (up b o e)) hS' hacc⟩
end PySem
namespace L2
open PySem PySem.Spec PyProof.Rows
mutual
inductive Rep (K:PySem.W.Frag) (H:Hp):V→PyData→Prop
 | non:Rep K H .non .none
 | bl (b:Bool):Rep K H (.bl b) (.bool b)
 | int (i:Int):Rep K H (.int i) (.int i)
 | str (x:Str):Rep K H (.str x) (.str x)
 | tup {a:Addr} {vs:List V} {ds:List PyData}:SqT K H a vs→cp K H vs ds→Rep K H (.ref a) (.tuple ds)
 | lst {a:Addr} {vs:List V} {ds:List PyData}:SqL K H a vs→cp K H vs ds→Rep K H (.ref a) (.list ds)
inductive cp (K:PySem.W.Frag) (H:Hp):List V→List PyData→Prop
 | nil:cp K H [] []
 | cons {v:V} {vs:List V} {d:PyData} {ds:List PyData}:Rep K H v d→cp K H vs ds→cp K H (v :: vs) (d :: ds)
end
theorem ao.seqT (e:ao H H') (h:SqT K H a xs):SqT K H' a xs:=by
 rcases h with(h | ⟨o,h⟩) | h
 ·exact .inl (.inl (e _ _ h))
 ·exact .inl (.inr ⟨o,e _ _ h⟩)
 ·exact .inr h
theorem cp.ints {K:PySem.W.Frag} {H:Hp} : ∀(ns:List Int),cp K H (ns.map V.int) (ns.map PyData.int)
 | []=>.nil
 | _ :: ns=>.cons (.int _) (cp.ints ns)
theorem cp.strs {K:PySem.W.Frag} {H:Hp} : ∀(ns:List Str),cp K H (ns.map V.str) (ns.map PyData.str)
 | []=>.nil
 | _ :: ns=>.cons (.str _) (cp.strs ns)
mutual
theorem Inv.reads (I:Inv X pins σ H s) : ∀{v:V} {d:PyData} {u:Value},Rep X.K H v d→aX v u→∃as,Reads s.heap u d as
 | _,_,_,.non,r=>by cases r;exact⟨_,.none⟩
 | _,_,_,.bl b,r=>by cases r;exact⟨_,.bool b⟩
 | _,_,_,.int b,r=>by obtain⟨t,rfl⟩:=r;exact⟨_,.int b t⟩
 | _,_,_,.str b,r=>by obtain⟨t,rfl⟩:=r;exact⟨_,.str b t⟩
 | _,_,_,.tup h q,r=>by
  cases r;obtain⟨its,rv,⟨o,ho,hc,n,hd⟩,_⟩:=I.tuple h;obtain⟨as,ra⟩:=Inv.readsAll I q rv;exact⟨_,.tuple ho hc hd (by simpa using ra)⟩
 | _,_,_,.lst h q,r=>by
  cases r;obtain⟨its,rv,⟨o,n,ho,hc,_,hd⟩,_⟩:=I.list h;obtain⟨as,ra⟩:=Inv.readsAll I q rv;exact⟨_,.list ho hc hd (by simpa using ra)⟩
theorem Inv.readsAll (I:Inv X pins σ H s) : ∀{v:List V} {d:List PyData} {u:List Value},cp X.K H v d→aT v u→∃as,ReadsAll s.heap u d as
 | _,_,_,.nil,r=>by cases r;exact⟨_,.nil⟩
 | _,_,_,.cons h q,r=>by
  cases r with
  | cons r1 r2 =>
   obtain⟨as,ra⟩:=Inv.reads I h r1;obtain⟨bs,rb⟩:=Inv.readsAll I q r2;exact⟨_,.cons ra rb⟩
end
section
variable {a b c:Expr} {tc:TE}
noncomputable def Es (K:PySem.W.Frag):R2:=fun x y H Q=>∃dx dy,Rep K H x dx∧Rep K H y dy∧dx.canLay0=true∧dy.canLay0=true∧dx.depth≤100∧Q (.bl (PyData.eqv dx dy)) H
noncomputable def DM (K:PySem.W.Frag):R2:=fun x y H Q=>∃dx dy,Rep K H x dx∧Rep K H y dy∧dx.canLay0=true∧dy.canLay0=true∧dx.depth≤100∧Q (.bl (!PyData.eqv dx dy)) H
theorem zk (hu:X.A.units+100 < cLine):OpR X (compareOp .Eq) (Es X.K):=by
 intro pins s σ H x y v u Q I rx ry h;obtain⟨dx,dy,h1,h2,h3,h4,h5,q⟩:=h;obtain⟨as,r1⟩:=I.reads h1 rx;obtain⟨bs,r2⟩:=I.reads h2 ry;exact PySem.SeqAt.compareEq_reads r1 r2 h3 h4 (by omega) ⟨.bl _,H,I,rfl,q⟩
theorem qW (hu:X.A.units+100 < cLine):OpR X (compareOp .NotEq) (DM X.K):=by
 intro pins s σ H x y v u Q I rx ry h;obtain⟨dx,dy,h1,h2,h3,h4,h5,q⟩:=h;obtain⟨as,r1⟩:=I.reads h1 rx;obtain⟨bs,r2⟩:=I.reads h2 ry;exact PySem.SeqAt.compareNe_reads r1 r2 h3 h4 (by omega) ⟨.bl _,H,I,rfl,q⟩
theorem xp:OpR X (compareOp .LtE) (fun x y H Q=>∃i j,x = .str i∧y = .str j∧Q (.bl (!decide (j.cps.toList < i.cps.toList))) H):=by
 intro pins s σ H x y v u Q I rx ry h;obtain⟨i,j,rfl,rfl,q⟩:=h;obtain⟨t,rfl⟩:=rx;obtain⟨t',rfl⟩:=ry;exact PySem.P.le_str (ba I q rfl)
noncomputable def Go (K:PySem.W.Frag):List V→Hp→VK→Prop:=fun xs H Q=>∃x t T k,xs=[x,.ty T]∧jW K H x t∧kitOne K t (.type T)=some k∧Q (.bl k) H
theorem zM:bC X (.builtin "isinstance") (Go X.K):=by
 intro pins s σ H xs us Q I r h;obtain⟨x,t,T,k,rfl,ty,e,q⟩:=h;obtain⟨u,w',rfl,r1,r2⟩:=mM r;cases r2;exact wW I r1 ty e fun tk=>⟨.bl k,H,I.tok tk,rfl,q⟩
theorem Dv (hg:Gl X x) (hm:X.mg x=none) (hv:bootBuiltins x=some (.type T)) (hn:x ≠ "__name__" := by decide) (hd:(x ==("__debug__" : Str))=false:=by decide):PE X (.Name x pos) (tC (.ty T)) :=
 At hg hm hv rfl hn hd
theorem gL {its:Array Value} {bs:List Bool} (h:aT (bs.map V.bl) its.toList):TruthOf prog w A (fun i v=>its[i]? = some v) (fun i=>bs.getD i true):=by
 intro i v s Q E hP hq;have h1:its.toList[i]? = some v:=by simpa using hP
 have hlt:i < its.toList.length:=(List.getElem?_eq_some_iff.mp h1).1
 have hl:=h.length;have hb:i < bs.length:=by rw[← hl] at hlt;simpa using hlt
 obtain⟨u,hu,ru⟩:=h.get (i:=i) (x:=V.bl bs[i]) (by simp[hb])
 rw[h1] at hu;cases hu;cases ru;refine wpAny_truthy_bool ?_
 have e:bs.getD i true=bs[i]:=by simp[List.getD,hb]
 show Q bs[i] s
 have hq:Q (bs.getD i true) s:=hq
 rw[e] at hq;exact hq
theorem xM (bs:List Bool):(range bs.length).all (fun i=>bs.getD i true)=bs.all id:=by
 rw[Bool.eq_iff_iff];simp only[all_eq_true,mem_range]
 constructor
 ·intro h b hb
  obtain⟨i,hi,e⟩:=List.getElem_of_mem hb;have:=h i hi
  simp[List.getD,hi,e] at this
  simpa using this
 ·intro h i hi
  have:=h bs[i] (List.getElem_mem hi)
  simpa [List.getD,hi] using this
theorem xD (bs:List Bool):(range bs.length).any (fun i=>bs.getD i true)=bs.any id:=by
 rw[Bool.eq_iff_iff];simp only[any_eq_true,mem_range]
 constructor
 ·rintro⟨i,hi,e⟩
  refine⟨bs[i],List.getElem_mem hi,?_⟩
  simpa [List.getD,hi] using e
 ·rintro⟨b,hb,e⟩
  obtain⟨i,hi,e'⟩:=List.getElem_of_mem hb;refine⟨i,hi,?_⟩
  simp only[List.getD,List.getElem?_eq_getElem hi,getD_some,e'];exact e
noncomputable def CD (K:PySem.W.Frag):List V→Hp→VK→Prop:=fun xs H Q=>∃(p:Addr) (bs:List Bool),xs=[.ref p]∧SqL K H p (bs.map V.bl)∧Q (.bl (bs.all id)) H
noncomputable def CM (K:PySem.W.Frag):List V→Hp→VK→Prop:=fun xs H Q=>∃(p:Addr) (bs:List Bool),xs=[.ref p]∧SqL K H p (bs.map V.bl)∧Q (.bl (bs.any id)) H
theorem vi (hc:X.calm=true):bC X (.builtin "all") (CD X.K):=by
 intro pins s σ H xs us Q I r h;obtain⟨p,bs,rfl,hq,q⟩:=h;obtain⟨u,rfl,rx⟩:=cS r;cases rx;obtain⟨its,rv,pl,hz⟩:=I.list hq;refine call_all_walk (wpAny_pyIter_list pl.isList ?_)
 have hne:p≠s.heap.objs.size:=by
  obtain⟨o,n,ho,_⟩:=pl;exact ne_of_lt (Heap.lt_size ho)
 refine⟨_,_,_,_,_,_,fun i=>bs.getD i true,rfl,Walks.list (A:=X.A.in1) (I.ok.hd hc) _ p hne its.toArray,⟨⟨_,Heap.get?_push_size _ rfl,rfl,rfl⟩,pl.isList.at fun o e=>Heap.get?_push_of_some _ e⟩,gL (by simpa using rv),fun h' tk hk=>?_⟩
 have hl:its.toArray.size=bs.length:=by have:=rv.length;simp at this ⊢;omega
 rw[hl,xM];exact⟨.bl (bs.all id),H,I.kept fun b o e=>hk b o (by simp;exact ne_of_lt (Heap.lt_size e)) (Heap.get?_push_of_some _ e),rfl,q⟩
theorem uC (hc:X.calm=true):bC X (.builtin "any") (CM X.K):=by
 intro pins s σ H xs us Q I r h;obtain⟨p,bs,rfl,hq,q⟩:=h;obtain⟨u,rfl,rx⟩:=cS r;cases rx;obtain⟨its,rv,pl,hz⟩:=I.list hq;refine call_any_walk (wpAny_pyIter_list pl.isList ?_)
 have hne:p≠s.heap.objs.size:=by
  obtain⟨o,n,ho,_⟩:=pl;exact ne_of_lt (Heap.lt_size ho)
 refine⟨_,_,_,_,_,_,fun i=>bs.getD i true,rfl,Walks.list (A:=X.A.in1) (I.ok.hd hc) _ p hne its.toArray,⟨⟨_,Heap.get?_push_size _ rfl,rfl,rfl⟩,pl.isList.at fun o e=>Heap.get?_push_of_some _ e⟩,gL (by simpa using rv),fun h' tk hk=>?_⟩
 have hl:its.toArray.size=bs.length:=by have:=rv.length;simp at this ⊢;omega
 rw[hl,xD];exact⟨.bl (bs.any id),H,I.kept fun b o e=>hk b o (by simp;exact ne_of_lt (Heap.lt_size e)) (Heap.get?_push_of_some _ e),rfl,q⟩
theorem kJ (ns:List Int) : ∀n,n≤ns.length→preSum (fun i=>ns.getD i 0) n=(ns.take n).sum
 | 0,_=>by simp[preSum]
 | n+1,h=>by
  have ih:=kJ ns n (by omega)
  have e:ns[n]? = some (ns[n]'(by omega)):=by simp
  show preSum (fun i=>ns.getD i 0) n+ns.getD n 0=_
  rw[ih,take_add_one,e,List.sum_append,List.getD,e];simp
theorem sK (ns:List Int):preSum (fun i=>ns.getD i 0) ns.length=ns.sum:=by
 rw[kJ ns _ (le_refl _),take_length]
noncomputable def AL (K:PySem.W.Frag):List V→Hp→VK→Prop:=fun xs H Q=>∃(p:Addr) (ns:List Int),xs=[.ref p]∧SqL K H p (ns.map V.int)∧Q (.int ns.sum) H
theorem uN (hc:X.calm=true):bC X (.builtin "sum") (AL X.K):=by
 intro pins s σ H xs us Q I r h;obtain⟨p,ns,rfl,hq,q⟩:=h;obtain⟨u,rfl,rx⟩:=cS r;cases rx;obtain⟨its,rv,pl,hz⟩:=I.list hq;refine call_sum_walkG (wpAny_pyIter_list pl.isList ?_)
 have hne:p≠s.heap.objs.size:=by
  obtain⟨o,n,ho,_⟩:=pl;exact ne_of_lt (Heap.lt_size ho)
 refine⟨_,_,_,_,_,_,fun i=>ns.getD i 0,rfl,Walks.list (A:=X.A.in1) (I.ok.hd hc) _ p hne its.toArray,⟨⟨_,Heap.get?_push_size _ rfl,rfl,rfl⟩,pl.isList.at fun o e=>Heap.get?_push_of_some _ e⟩,fun b hb=>?_,fun i v hv=>?_,fun h' tk t' hk=>?_⟩
 ·obtain⟨o,n,ho,_⟩:=pl
  rcases mem_cons.mp hb with e | e
  ·rw[e];exact lt_of_lt_of_le (Nat.lt_succ_self _) (by simp)
  ·rw[mem_singleton.mp e];exact lt_of_lt_of_le (Heap.lt_size ho) (by simp)
 ·have h1:its[i]? = some v:=by simpa using hv
  have hlt:i < its.length:=(List.getElem?_eq_some_iff.mp h1).1
  have hl:=rv.length;have hb:i < ns.length:=by rw[← hl] at hlt;simpa using hlt
  obtain⟨u,hu,t,ru⟩:=rv.get (i:=i) (x:=V.int ns[i]) (by simp[hb])
  rw[h1] at hu;cases hu;exact⟨t,by rw[ru];simp[List.getD,hb]⟩
 ·have hl:its.toArray.size=ns.length:=by have:=rv.length;simp at this ⊢;omega
  rw[hl,sK];exact⟨.int ns.sum,H,I.kept fun b o e=>hk b o (by simp;exact ne_of_lt (Heap.lt_size e)) (Heap.get?_push_of_some _ e),⟨t',rfl⟩,q⟩
noncomputable def mY (t:TE):TE:=fun σ H Q=>t σ H fun x H1=>∃p,x = .ref p∧∃ys,H1 p=some (.lst ys)∧∀l,H1 l=none→Q (.ref l) (upd H1 l (.lst ys.reverse))
end
section
variable {a b c:Expr} {tc:TE} {p:Pos}
theorem uZ (hc:X.calm=true) (hg:Gl X "list") (hm:X.mg "list" = none) (hg2:Gl X "reversed") (hm2:X.mg "reversed" = none) (he:PE X e te) (hse:starEach [e] X.env=[(false,eval e X.env)]:=by rfl) :
  PE X (.Call (.Name "list" p) [.Call (.Name "reversed" p2) [e] [] pos2] [] pos) (mY te):=by
 intro pins s σ H Q I h;refine wpAny_Call_Name_kw (eE I hg hm (by decide+kernel:bootBuiltins "list" = some (.type "list")) ?_)
 refine PyProof.Rows.callWith_type1 (Calls.spliced_cons ?_) rfl rfl
 refine wpAny_Call_Name_kw (eE I hg2 hm2 boot_reversed ?_)
 refine PyProof.Rows.callWith_type1 (Q:=_) ?_ hse rfl
 rw[hse];refine Calls.spliced_cons (thn (he pins s σ H _ I h) fun u s1 ⟨x,H1,I1,r1,pp,e1,ys,hq',q⟩=>Calls.spliced_nil ?_)
 subst e1;cases r1;have hq:SqL X.K H1 pp ys:=.of hq'
 obtain⟨its,rv,pl,hz⟩:=I1.list hq;have hlen:=rv.length;refine call_reversed_list pl.isList ?_
 have hlt:pp < s1.heap.objs.size:=by
  obtain⟨o,n,ho,_⟩:=pl;exact Heap.lt_size ho
 refine Calls.spliced_nil (oU (I.ok.hd hc) (I:=s1.heap.objs.size) (l:=pp) (items:=its.toArray) ⟨_,Heap.get?_push_size _ rfl,rfl,rfl⟩ (pl.isList.at fun o e=>Heap.get?_push_of_some _ e) (ne_of_lt hlt) (fun h' tk acc' c' hk hS hacc=>?_) (by simp only[size_toArray];omega))
 have kp : ∀b o,s1.heap.get? b=some o→h'.get? b=some o:=fun b o e=>hk b o (ne_of_lt (Heap.lt_size e)) (Heap.get?_push_of_some _ e)
 have hrev:acc'=its.reverse.toArray:=by
  apply Array.ext_getElem?
  intro i;have hs1:=hacc.1;simp only[size_toArray] at hs1
  by_cases hi:i < its.length
  ·have h1:acc'[i]? = some (acc'[i]'(by omega)):=by simp[hs1,hi]
   have h2:=hacc.2 i _ h1;rw[h1,← h2];simp only[size_toArray,List.getElem?_toArray];rw[List.getElem?_reverse hi]
  ·simp only[List.getElem?_toArray]
   rw[Array.getElem?_eq_none (by omega),List.getElem?_eq_none (by simp;omega)]
 subst hrev;have hsz:s1.heap.objs.size≤(s1.heap.push (revObj pp ((its.toArray.size:Int) - 1))).objs.size:=by rw[Heap.size_push];exact le_succ _
 exact⟨.ref (s1.heap.push (revObj pp ((its.toArray.size:Int) - 1))).objs.size,upd H1 _ (.lst ys.reverse),I1.laid (t':=tk) kp hsz ⟨by simp;omega,its.reverse,c',rv.reverse,hS⟩,rfl,q _ (I1.hok.fresh hsz)⟩
noncomputable def An:V→Option Int→Option Int→Hp→VK→Prop:=fun x lo hi H Q=>∃z,x = .str z∧z.length≤sizeLine∧Q (.str (Txt.slice z lo hi)) H
theorem uE:SlR X An:=by
 intro pins s σ H x v vl vu lo hi sl Q I rx hs pl pu h;obtain⟨z,rfl,hz,q⟩:=h;obtain⟨t,rfl⟩:=rx;refine⟨"str",_,F.slot_str_getitem.lookup,typeIs_str _ _ _,?_⟩
 have fin : ∀(t':Tok) (k:Nat),EP X pins σ Q (.str (Txt.slice z lo hi) t') { s with toks:=k }:=fun t' k=>⟨.str _,H,I.tok k,⟨t',rfl⟩,q⟩
 obtain⟨o,h1,h2,h3⟩:=hs;cases pl with
 | none=>cases pu with
  | none=>exact wpAny_getItem_str_slice (l:=none) (u:=none) (st:=none) ⟨o,h1,h2,h3⟩ rfl (post_val_or_str ⟨le_trans (Txt.slice_le z _ _) hz,fun t' k=>fin t' k⟩)
  | int j uj=>exact wpAny_getItem_str_slice (l:=none) (u:=some (j,uj)) (st:=none) ⟨o,h1,h2,h3⟩ rfl (post_val_or_str ⟨le_trans (Txt.slice_le z _ _) hz,fun t' k=>fin t' k⟩)
 | int i ui=>cases pu with
  | none=>exact wpAny_getItem_str_slice (l:=some (i,ui)) (u:=none) (st:=none) ⟨o,h1,h2,h3⟩ rfl (post_val_or_str ⟨le_trans (Txt.slice_le z _ _) hz,fun t' k=>fin t' k⟩)
  | int j uj=>exact wpAny_getItem_str_slice (l:=some (i,ui)) (u:=some (j,uj)) (st:=none) ⟨o,h1,h2,h3⟩ rfl (post_val_or_str ⟨le_trans (Txt.slice_le z _ _) hz,fun t' k=>fin t' k⟩)
end
noncomputable def FnL (K:PySem.W.Frag) (mg:Str→Option Value) (x:Str) (st:Stmt) (ps:List Str):Prop :=
 ∃f fd,Fun K x x st f fd∧mg x=some (.ref f)∧jA K fd ps []
noncomputable def Fn (P:Program) (w:World) (K:PySem.W.Frag) (mg:Str→Option Value) (base:Heap) (x:Str) (k:Nat) (ps:List Str) (sp:Sp):Prop :=
 ∃f fd,gY P w K mg base CX0 k f fd ps sp∧mg x=some (.ref f)∧keepIn K (.ref f)=true∧jA K fd ps []
section
variable {P:Program} {w:World} {K:PySem.W.Frag} {mg:Str→Option Value} {base:Heap}
theorem FnL.ok {x:Str} {st:Stmt} {N ps:List Str} {k:Nat} {sp:Sp} (F:FnL K mg x st ps) (S:aH N ps (am st)) (len : ∀vs H Q E,sp vs H Q E→vs.length=ps.length)
  (hbody : ∀(f:Addr) (cdv:Value) (A:Around) (outer:List Env) (s:Shared) (H:Hp) (vs:List V) (Q:VK) (E:XK),cu k (A.deeper (envOfC x (am st) s.heap.objs.size f cdv))→sp vs H Q E →
   ∃t,PSs (rn CX0 P w K mg base N x (am st) f cdv A outer s H E).nox (bT st) t∧t { nx:=fun _ H'=>Q .non H',rt:=Q } (fM N vs) H):Fn P w K mg base x (k+1) ps sp:=by
 obtain⟨f,fd,F,m,b⟩:=F;exact⟨f,fd,F.ok S len (hbody f),m,F.kp,b⟩
theorem Fn.mono {x:Str} {j k:Nat} {ps:List Str} {sp:Sp} (F:Fn P w K mg base x j ps sp) (h:j≤k):Fn P w K mg base x k ps sp:=by
 obtain⟨f,fd,F,m,kp,b⟩:=F;exact⟨f,fd,F.mono h,m,kp,b⟩
theorem Bz {an:Option Addr} {kV:Value} (X:K.In h) (G:h.Ns mainGlobals mg)
  (a:nsIn K mainGlobals x=some (some (.ref f)))
  (l:K.lookup f=some ⟨oc,od,.func (fnOf x x (cI st) (bT st) (am st) .none kV doc pm an cdv ct),osl⟩)
  (c:codeIn K cdv x=true) (k:keepIn K (.ref f)=true)
  (hb : ∀(kV doc pm:Value) (an:Option Addr) (cdv ct:Value) (us:List Value),us.length=ps.length→bindArgs (fnOf x x (cI st) (bT st) (am st) .none kV doc pm an cdv ct) ⟨us,[]⟩=pure (ps.zip us)):FnL K mg x st ps :=
 ⟨f,_,nX l c k,mg_of X G a,(nX l c k).binds hb⟩
end
section
variable {p:Pos} {t:TA}
theorem ah (F:Fn X.prog X.w X.K X.mg X.base x k ps sp) (ha:PA X (e :: es) t) (hr:cu k X.A:=by exact cu.mono (by assumption) (by first | decide | omega)) (hg:Gl X x:=by exact rfl) (hdb:(x ==("__debug__" : Str))=false:=by decide)
  (he:starEach (e :: es) X.env=(false,eval e X.env) :: starEach es X.env:=by rfl) (hpl:(backTo pos (starEach es X.env)).any (·.1)=false:=by rfl) :
  PE X (.Call (.Name x p) (e :: es) [] pos) (rW sp [] E0 t):=by
 obtain⟨f,fd,F,m,kp,b⟩:=F;exact A3 F hr hg m kp b .nil wF ha hdb he hpl
end
structure Wlk (J:It) (xs:List V) (C:Hp→Prop):Prop where
 go : ∀i H,C H→i < xs.length→J.go i H
 yld : ∀i H x H',C H→i < xs.length→J.yld i H x H'→xs[i]? = some x∧H'=H
 stop : ∀i H,C H→xs.length≤i→J.stop i H
theorem cq:Wlk (Itl K a) xs (fun H=>SqL K H a xs) :=
 ⟨fun i H h hi=>⟨xs,xs[i],h,by simp[hi]⟩,fun i H x H' h _ y=>⟨y.2 xs h,y.1⟩,fun i H h hi=>⟨xs,h,hi⟩⟩
theorem aW:Wlk (Itt K a) xs (fun H=>SqT K H a xs) :=
 ⟨fun i H h hi=>⟨xs,xs[i],h,by simp[hi]⟩,fun i H x H' h _ y=>⟨y.2 xs h,y.1⟩,fun i H h hi=>⟨xs,h,hi⟩⟩
noncomputable def jP (lo:Int) (n:Nat):List V:=(range n).map fun(i:Nat)=>V.int (lo+(i:Int))
theorem aJ (lo:Int) (n:Nat):(jP lo n).length=n:=by simp[jP]
theorem fS {lo:Int} {i:Nat} (h:i < n):(jP lo n)[i]? = some (.int (lo+i)):=by simp[jP,h]
theorem bL {lo:Int}:Wlk (Itr lo n) (jP lo n) (fun _=>True) :=
 ⟨fun i H _ hi=>by rw[aJ] at hi;exact hi,fun i H x H' _ hi y=>by
  obtain⟨e,y⟩:=y;rw[aJ] at hi;rw[fS hi,y];exact⟨rfl,e⟩,fun i H _ hi=>by rw[aJ] at hi;exact hi⟩
theorem Ar (w:Wlk J xs C) {g:TG} {tb:TS} {D:ll} {σ:St} {H:Hp} (Pv:Nat→St→Hp→Prop) (h0:Pv 0 σ H) (hl : ∀i σ H,Pv i σ H→C H)
  (hs : ∀i x σ H,i < xs.length→xs[i]? = some x→Pv i σ H→g x σ H fun σ2 H2=>tb { D with nx:=Pv (i+1),ct:=Pv (i+1),bk:=D.nx } σ2 H2) (hd : ∀ σ H,Pv xs.length σ H→D.nx σ H) :
  ∃ W:Nat→Nat→St→Hp→Prop,(∃m,W 0 m σ H)∧∀i m σ H,W i m σ H →
   (J.stop i H∧D.nx σ H)∨(J.go i H∧∃N:St→Hp→Prop,(∀ σ' H',N σ' H'→∃m',m' < m∧W (i+1) m' σ' H')∧∀x H',J.yld i H x H'→g x σ H' fun σ2 H2=>tb { D with nx:=N,ct:=N,bk:=D.nx } σ2 H2):=by
 refine⟨fun i m σ H=>m=xs.length - i∧i≤xs.length∧Pv i σ H,⟨xs.length,by simp,zero_le _,h0⟩,?_⟩
 rintro i m σ H ⟨rfl,hi,p⟩
 have q:=hl i σ H p
 by_cases hlt:i < xs.length
 ·refine .inr ⟨w.go i H q hlt,Pv (i+1),fun σ' H' p'=>⟨xs.length - (i+1),by omega,rfl,hlt,p'⟩,fun x H' y=>?_⟩
  obtain⟨e1,e2⟩:=w.yld i H x H' q hlt y;subst e2;exact hs i x σ _ hlt e1 p
 ·have e:i=xs.length:=by omega
  subst e;exact .inl ⟨w.stop _ H q (le_refl _),hd σ H p⟩
theorem zb (w:Wlk J xs C) {g:TG} {tc:TT} {te:TE} {σ0:St} {Q:VK} {H1:Hp} {D:Addr} (Pv:Nat→List V→Hp→Prop) (h0:Pv 0 [] (upd H1 D (.lst []))) (hl : ∀i ys H,Pv i ys H→C H)
  (hs : ∀i x ys H,i < xs.length→xs[i]? = some x→Pv i ys H→g x σ0 H fun σ2 H3=>tc σ2 H3 fun b H4=>if b=true then te σ2 H4 fun y H5=>H5 D=some (.lst ys)∧ys.length < sizeLine∧Pv (i+1) (ys++[y]) (upd H5 D (.lst (ys++[y]))) else Pv (i+1) ys H4)
  (hd : ∀ys H,Pv xs.length ys H→Q (.ref D) H) :
  ∃ W : Nat→Nat→List V→Hp→Prop,(∃m,W 0 m [] (upd H1 D (.lst []))) ∧
   ∀ i m ys H2,W i m ys H2→(J.stop i H2∧Q (.ref D) H2)∨(J.go i H2∧∃N:List V→Hp→Prop,(∀ys' H',N ys' H'→∃m',m' < m∧W (i+1) m' ys' H') ∧
    ∀x H',J.yld i H2 x H'→g x σ0 H' fun σ2 H3=>tc σ2 H3 fun b H4=>if b=true then te σ2 H4 fun y H5=>H5 D=some (.lst ys)∧ys.length < sizeLine∧N (ys++[y]) (upd H5 D (.lst (ys++[y]))) else N ys H4):=by
 refine⟨fun i m ys H=>m=xs.length - i∧i≤xs.length∧Pv i ys H,⟨xs.length,by simp,zero_le _,h0⟩,?_⟩
 rintro i m ys H ⟨rfl,hi,p⟩
 have q:=hl i ys H p
 by_cases hlt:i < xs.length
 ·refine .inr ⟨w.go i H q hlt,Pv (i+1),fun σ' H' p'=>⟨xs.length - (i+1),by omega,rfl,hlt,p'⟩,fun x H' y=>?_⟩
  obtain⟨e1,e2⟩:=w.yld i H x H' q hlt y;subst e2;exact hs i x ys _ hlt e1 p
 ·have e:i=xs.length:=by omega
  subst e;exact .inl ⟨w.stop _ H q (le_refl _),hd ys H p⟩
end L2
namespace HT
open PySem PyProof.Rows
open PySem.SeqAt
open PySem.AutoSeq1 (wpAny_loadPart')
open PySem.MeetsSeq PySem.MeetsSeq2 PySem.MeetsSeq3
theorem getItem_tuple_whole {sl:Addr} (ht:IsTup s.heap t items) (hs:s.heap.IsSliceOf sl vl vu .none) (pl:IsPart vl lo) (pu:IsPart vu hi)
  (h1:sIx items.size 0 lo=0) (h2:sIx items.size items.size hi=items.size)
  (h:Q (.ref t) s):wpAny (model prog w) A (getItem (.ref t) (.ref sl)) Q E s:=by
 obtain⟨os,hos,hcs,hds⟩:=id hs;have hTs:s.TypeIs (.ref sl) "slice" :=⟨os,hos,hcs⟩
 unfold getItem
 try with_reducible refine wpAny_holding ?_
 first | refine wpAny_bind (wpAny_pure ?_) | skip
 refine wpAny_bind (wpAny_sequenceKey ht.typeIs (by decide) ?_)
 refine wpAny_bind (wpAny_callSpecial?_slot (name:=Str.ofString "__getitem__") ht.typeIs PyProof.Rows.slot_tuple_getitem
  (wpAny_call_entry PyProof.Rows.slot_tuple_getitem ht.typeIs entry_tuple_getitem ?_ (args_tuple_getitem _ _)))
 show wpAny _ _ (Builtin.Tuple.tupleItemsOf (.ref t) >>= _) _ _ s
 refine wpAny_bind (tupleItemsOf_ ht ?_)
 refine wpAny_bind (wpAny_typeOf hTs ?_)
 rw[if_pos (by decide)]
 refine wpAny_bind (fK hs pl pu ?_)
 rw[h1,h2]
 show wpAny _ _ (if (((0:Nat):Int) == 0 && (1:Int) == 1 && (items.size - 0) == items.size)=true then _ else _) _ _ s
 rw[if_pos (by simp)]
 unfold Builtin.Tuple.tupleIsExact;refine wpAny_bind (wpAny_bind (wpAny_typeOf ht.typeIs (wpAny_pure ?_)))
 rw[if_pos (by decide)]
 exact wpAny_bind (wpAny_rule (wpAny_pure ⟨_,rfl,wpAny_pure h⟩))
end HT
namespace L2
open PySem PySem.Spec PyProof.Rows
noncomputable def fY (xs:List (Str × NameKind)) (x:Str):Bool:=xs.lookup x == some .cell || xs.lookup x == some .free
theorem gU {xs:List (Str × NameKind)} (h:fY xs x=true):xs.lookup x=some .cell∨xs.lookup x=some .free:=by
 unfold fY at h;rw[Bool.or_eq_true] at h;simpa using h
noncomputable def DQ (K:PySem.W.Frag):V→Option Int→Option Int→Hp→VK→Prop:=fun x lo hi H Q=>∃a xs,x = .ref a∧SqT K H a xs∧(dN xs lo hi=xs→Q (.ref a) H)∧(∀p,H p=none→Q (.ref p) (upd H p (.tup (dN xs lo hi))))
theorem AI:SlR X (DQ X.K):=by
 intro pins s σ H x v vl vu lo hi sl Q I rx hs pl pu h;obtain⟨a,xs,e,hx,q1,q2⟩:=h
 by_cases hw:HT.sIx xs.length 0 lo=0∧HT.sIx xs.length xs.length hi=xs.length
 ·subst e
  cases rx;obtain⟨its,r,ht,hz⟩:=I.tuple hx;have hlen:its.toArray.size=xs.length:=by rw[size_toArray];exact r.length.symm
  refine⟨"tuple",_,PyProof.Rows.slot_tuple_getitem.lookup,ht.typeIs,?_⟩
  refine HT.getItem_tuple_whole ht hs pl pu (by rw[hlen];exact hw.1) (by rw[hlen];exact hw.2) ⟨.ref a,H,I,rfl,q1 ?_⟩
  unfold dN;rw[hw.1,hw.2];simp
 ·exact BK pins s σ H x v vl vu lo hi sl Q I rx hs pl pu ⟨a,xs,e,hx,hw,q2⟩
theorem Ed {s:Str} {P:Key→Prop}:(∃k,V.str s=kV k∧P k)↔P (Sum.inr s):=by
 constructor
 ·rintro⟨k,e,p⟩
  cases k with
  | inl i=>cases e
  | inr x=>cases e;exact p
 ·exact fun p=>⟨_,rfl,p⟩
theorem C9 {P:Key→Prop}:(∃k,V.int i=kV k∧P k)↔P (Sum.inl i):=by
 constructor
 ·rintro⟨k,e,p⟩
  cases k with
  | inl i=>cases e;exact p
  | inr x=>cases e
 ·exact fun p=>⟨_,rfl,p⟩
section
variable {o i:Expr}
noncomputable def tDG (td ty:TE):TE:=fun σ H Q=>td σ H fun x H1=>ty σ H1 fun y H2=>∃a,x = .ref a∧∃k,y=kV k∧∃kvs v,H2 a=some (.dK kvs)∧bu kvs k=some v∧Q v H2
theorem gw (hu:X.A.units+1 < cLine) (ho:PE X o td) (hi:PE X i ty) (hs:CS i:=by exact fun _ _=>rfl):PE X (.Subscript o i pos) (tDG td ty):=by
 intro pins s σ H Q I h;refine wj PySem.F.slot_dict_getitem.lookup hs (thn (ho pins s σ H _ I h) fun u s1 ⟨x,H1,I1,rx,q1⟩=>thn (hi pins s1 σ H1 _ I1 q1) fun iv s2 zr3971=>?_)
 obtain⟨y,H2,I2,ry,a,ex,k,ey,kvs,v,hd,hv,q2⟩:=zr3971;subst ex;obtain rfl:u=Value.ref a:=rx
 have g:pk H2 a y (some v):=.inl ⟨kvs,k,.inl hd,ey,hv.symm⟩
 exact⟨kI I2 g,pL hu I2 g ry fun w' s3 I3 rw'=>⟨v,H2,I3,rw',q2⟩⟩
noncomputable def sDP (td ty tv:TE):TS:=fun D σ H=>tv σ H fun v H1=>td σ H1 fun x H2=>ty σ H2 fun y H3=>∃a,x = .ref a∧∃k,y=kV k∧∃kvs,H3 a=some (.dK kvs)∧kvs.length < sizeLine∧D.nx σ (upd H3 a (.dK (br kvs k v)))
theorem gG (hu:X.A.units+1 < cLine) (ho:PE X o td) (hi:PE X i ty) (hv:PE X value tv) (hs:swapsWith value (some (.Subscript o i pos')) pos.line X.env=pure false) :
  PS X (.Assign [.Subscript o i pos'] value pos) (sDP td ty tv):=by
 intro pins s σ H D I h;refine wpAny_Assign_Subscript (thn (hv pins s σ H _ I h) fun r s1 ⟨v,H1,I1,rv,q1⟩=>thn (ho pins s1 σ H1 _ I1 q1) fun u s2 ⟨x,H2,I2,rx,q2⟩=>thn (hi pins s2 σ H2 _ I2 q2) fun iv s3 zr3980=>?_) hs
 obtain⟨y,H3,I3,ry,a,ex,k,ey,kvs,hd,hl,q3⟩:=zr3980;subst ex;obtain rfl:u=Value.ref a:=rx
 have g:Ds H3 a y v (upd H3 a (.dK (br kvs k v))):=.inl ⟨kvs,k,hd,ey,hl,rfl⟩
 exact xb hu I3 g ry rv fun s4 I4=>⟨σ,_,I4,q3⟩
noncomputable def tDI (ty td:TE):TE:=fun σ H Q=>ty σ H fun y H1=>td σ H1 fun x H2=>∃a,x = .ref a∧∃k,y=kV k∧∃kvs,H2 a=some (.dK kvs)∧Q (.bl (bu kvs k).isSome) H2
end
theorem fQ {c:TT} {tb:TS} (W:Nat→St→Hp→Prop) (hend:St→Hp→Prop) (h0 : ∃m,W m σ H)
  (hs : ∀R:St→Hp→Prop,(∀ σ H,hend σ H→R σ H)→∀m σ H,W m σ H→c σ H fun b H1=>if b=true then ∃N:St→Hp→Prop,(∀ σ' H',N σ' H'→∃m',m' < m∧W m' σ' H')∧tb { D with nx:=N,ct:=N,bk:=R } σ H1 else R σ H1)
  (hnx : ∀ σ H,hend σ H→D.nx σ H):uU c tb D σ H:=⟨W,h0,fun m σ H w=>hs D.nx hnx m σ H w⟩
theorem cxK {q:Str} {o:List Env} {E:XK} :
  (rn CX P w K mg base N q sc f cd A o s H E).K=K:=rfl
theorem Ai (i j:Int):rB (.int i) (.int j)=true:=rfl
theorem AA (i j:Str):rB (.str i) (.str j)=true:=rfl
theorem AF (i j:Bool):rB (.bl i) (.bl j)=true:=rfl
theorem A1:rB .non .non=true:=rfl
theorem Ak (i:Int):rB (.int i) .non=true:=rfl
theorem AM (s:Str) (i:Int):rB (.str s) (.int i)=true:=rfl
section
variable {a b o l:Expr} {t:TA}
theorem OpR.imp {f:Value→Value→Sem Value} {r r':R2} (h:OpR X f r) (i : ∀x y H Q,r' x y H Q→r x y H Q):OpR X f r':=fun pins s σ H x y v u Q I rx ry q=>h pins s σ H x y v u Q I rx ry (i _ _ _ _ q)
theorem bC.imp {f:Value} {r r':List V→Hp→VK→Prop} (h:bC X f r) (i : ∀x H Q,r' x H Q→r x H Q):bC X f r':=fun pins s σ H xs us Q I rx q=>h pins s σ H xs us Q I rx (i _ _ _ q)
theorem IxR.imp {r r':R2} (h:IxR X r) (i : ∀x y H Q,r' x y H Q→r x y H Q):IxR X r':=fun value slice pins s σ H x y v u Q I rx ry q hs=>h value slice pins s σ H x y v u Q I rx ry (i _ _ _ _ q) hs
theorem SlR.imp (h:SlR X r) (i : ∀x lo hi H Q,r' x lo hi H Q→r x lo hi H Q):SlR X r':=fun pins s σ H x v vl vu lo hi sl Q I rx hs pl pu q=>h pins s σ H x v vl vu lo hi sl Q I rx hs pl pu (i _ _ _ _ _ q)
noncomputable def zD:List V→Hp→VK→Prop:=fun xs H Q=>∃p,xs=[.ref p]∧∃ys,H p=some (.lst ys)∧Q (.int ys.length) H
noncomputable def xS:List V→Hp→VK→Prop:=fun xs H Q=>∃p,xs=[.ref p]∧∃ys,H p=some (.tup ys)∧Q (.int ys.length) H
theorem pT:bC X (.builtin "len") zD:=ju.imp fun _ _ _ zq7=>by obtain⟨p,e,ys,h,q⟩:=zq7;exact(⟨p,ys,e,.inl (.of h),q⟩)
theorem bZ:bC X (.builtin "len") xS:=ju.imp fun _ _ _ zq8=>by obtain⟨p,e,ys,h,q⟩:=zq8;exact(⟨p,ys,e,.inr (.of h),q⟩)
noncomputable def rIL:R2:=fun x y H Q=>∃p,x = .ref p∧∃i,y = .int i∧∃xs,H p=some (.lst xs)∧∃v,atI xs i=some v∧Q v H
noncomputable def rIT:R2:=fun x y H Q=>∃p,x = .ref p∧∃i,y = .int i∧∃xs,H p=some (.tup xs)∧∃v,atI xs i=some v∧Q v H
theorem fI:IxR X rIL:=Ap.imp fun _ _ _ _ zq9=>by obtain⟨p,e,i,e2,xs,h,v,ha,q⟩:=zq9;exact(⟨p,xs,i,v,e,e2,.of h,ha,q⟩)
theorem uK:IxR X rIT:=Cp.imp fun _ _ _ _ zq10=>by obtain⟨p,e,i,e2,xs,h,v,ha,q⟩:=zq10;exact(⟨p,xs,i,v,e,e2,.of h,ha,q⟩)
noncomputable def rIS:R2:=fun x y H Q=>∃z,x = .str z∧∃i,y = .int i∧z.length≤sizeLine∧∃c,atI z.cps.toList i=some c∧Q (.str ⟨#[c]⟩) H
theorem Aa:IxR X rIS:=BQ.imp fun _ _ _ _ zq11=>by obtain⟨z,e,i,e2,h,c,ha,q⟩:=zq11;exact(⟨z,i,c,e,e2,h,ha,q⟩)
noncomputable def rSL:V→Option Int→Option Int→Hp→VK→Prop:=fun x lo hi H Q=>∃a,x = .ref a∧∃xs,H a=some (.lst xs)∧∀p,H p=none→Q (.ref p) (upd H p (.lst (dN xs lo hi)))
theorem Dp:SlR X rSL:=vT.imp fun _ _ _ _ _ zq12=>by obtain⟨a,e,xs,h,q⟩:=zq12;exact(⟨a,xs,e,.of h,q⟩)
noncomputable def rSQ (K:PySem.W.Frag):V→Option Int→Option Int→Hp→VK→Prop:=fun x lo hi H Q=>∃a,x = .ref a∧∃xs,SqL K H a xs∧∀p,H p=none→Q (.ref p) (upd H p (.lst (dN xs lo hi)))
theorem Du:SlR X (rSQ X.K):=vT.imp fun _ _ _ _ _ zq13=>by obtain⟨a,e,xs,h,q⟩:=zq13;exact(⟨a,xs,e,h,q⟩)
noncomputable def rST:V→Option Int→Option Int→Hp→VK→Prop:=fun x lo hi H Q=>∃a,x = .ref a∧∃xs,H a=some (.tup xs)∧(dN xs lo hi=xs→Q (.ref a) H)∧(∀p,H p=none→Q (.ref p) (upd H p (.tup (dN xs lo hi))))
theorem Ga:SlR X rST:=AI.imp fun _ _ _ _ _ zq14=>by obtain⟨a,e,xs,h,q⟩:=zq14;exact(⟨a,xs,e,.of h,q⟩)
noncomputable def iL (K:PySem.W.Frag) (tl:TE):TI:=fun σ H R=>tl σ H fun x H1=>∃a,x = .ref a∧∃xs,H1 a=some (.lst xs)∧R (Itl K a) H1
noncomputable def iT (K:PySem.W.Frag) (tl:TE):TI:=fun σ H R=>tl σ H fun x H1=>∃a,x = .ref a∧∃xs,H1 a=some (.tup xs)∧R (Itt K a) H1
theorem Gb (hl:PE X l tl):PI X tg l (iL X.K tl):=by
 intro pins s σ H R I h;refine thn (hl pins s σ H _ I h) fun v s1 zr4031=>?_
 obtain⟨x,H1,I1,r1,a,e,xs,hq,q⟩:=zr4031;subst e;cases r1;obtain⟨its,rv,p,hz⟩:=I1.list (SqL.of hq);refine wpAny_pyIter_list p.isList ?_
 refine⟨s1.heap.objs.size,[s1.heap.objs.size],_,_,H1,rfl,I1.kept (t':=s1.toks) fun b o e=>Heap.get?_push_of_some _ e,px a _,⟨_,Heap.get?_push_size _ rfl,rfl,rfl⟩,fun b hb=>?_,q⟩
 have e:b=s1.heap.objs.size:=by simpa using hb
 subst e;exact I1.fpOk (le_refl _) (I1.hok.fresh (le_refl _))
theorem EI (hl:PE X l tl):PI X tg l (iT X.K tl):=by
 intro pins s σ H R I h;refine thn (hl pins s σ H _ I h) fun v s1 zr4042=>?_
 obtain⟨x,H1,I1,r1,a,e,xs,hq,q⟩:=zr4042;subst e;cases r1;obtain⟨its,rv,p,hz⟩:=I1.tuple (SqT.of hq);refine wpAny_pyIter_tuple (show s1.heap.IsTuple a its.toArray from p) ?_
 refine⟨s1.heap.objs.size,[s1.heap.objs.size],_,_,H1,rfl,I1.kept (t':=s1.toks) fun b o e=>Heap.get?_push_of_some _ e,nW a _,⟨_,Heap.get?_push_size _ rfl,rfl,rfl⟩,fun b hb=>?_,q⟩
 have e:b=s1.heap.objs.size:=by simpa using hb
 subst e;exact I1.fpOk (le_refl _) (I1.hok.fresh (le_refl _))
noncomputable abbrev RM:=Addr→List V→Hp→VK→Prop
noncomputable def MtL (X:Cx) (id:String) (r:RM):Prop:=MtR X id fun x vs H Q=>∃p,x = .ref p∧r p vs H Q
noncomputable def tML (r:RM) (to:TE) (t:TA):TE:=fun σ H Q=>to σ H fun x H1=>∃p,x = .ref p∧(∃xs,H1 p=some (.lst xs))∧t σ H1 fun vs H2=>r p vs H2 Q
variable {id:String} {r:RM}
theorem eG (slot:Slot "list" name id) (hty:typeOf (.builtin id)=pure (.type "method_descriptor")) (hm:MtL X id r) (ho:PE X o to) (ha:PA X (e :: es) t)
  (hbase:attributeBase o name X.env (eval o X.env)=eval o X.env:=by rfl)
  (hfew:((backTo cpos (starEach (e :: es) X.env)).all (fun x=>!x.1) && (backToKw cpos (keywordEach [] X.env)).all (fun x=>x.1.isSome)
   && decide ((e :: es).length+([]:List Keyword).length+(if ([]:List Keyword).isEmpty then 0 else 1) < 30))=true:=by rfl)
  (hline:(apos.endLine == cpos.line)=true:=by rfl) (hs:starEach (e :: es) X.env=(false,eval e X.env) :: starEach es X.env:=by rfl) (hplain:(backTo cpos (starEach es X.env)).any (·.1)=false:=by rfl) :
  PE X (.Call (.Attribute o name apos) (e :: es) [] cpos) (tML r to t):=by
 intro pins s σ H Q I h;refine wpAny_Call_method_late hbase hfew hline rfl (thn (ho pins s σ H _ I h) fun v s1 ⟨x,H1,I1,r1,p,ex,⟨xs,hp⟩,q1⟩=>?_)
 subst ex;have ty:tyV X.K "list" (.ref p) H1:=.inl ⟨rfl,xs,.of hp⟩
 obtain⟨h1,h2⟩:=uy I1 r1 ty;refine⟨"list",id,PySem.F.plainAttrs_list,slot,hty,h1,h2,?_⟩
 have hA:=ha cpos pins s1 σ H1 _ I1 q1;rw[hs] at hA ⊢;refine Calls.callWith_builtin (by show(false || (backTo cpos (starEach es X.env)).any (·.1))=false;rw[hplain] <;> rfl) (Calls.evalArgs_plain ?_)
 refine thn hA fun us s2 zr4070=>?_
 obtain⟨vs,H2,I2,rr,q2⟩:=zr4070;exact hm pins s2 σ H2 (.ref p) vs v us Q I2 r1 rr ⟨p,rfl,q2⟩
theorem Cd (slot:Slot "list" name id) (hty:typeOf (.builtin id)=pure (.type "method_descriptor")) (hm:MtL X id r) (ho:PE X o to)
  (hbase:attributeBase o name X.env (eval o X.env)=eval o X.env:=by rfl) (hline:(apos.endLine == cpos.line)=true:=by rfl):PE X (.Call (.Attribute o name apos) [] [] cpos) (tML r to uq):=by
 intro pins s σ H Q I h;refine wpAny_Call_method0_late hbase hline (thn (ho pins s σ H _ I h) fun v s1 ⟨x,H1,I1,r1,p,ex,⟨xs,hp⟩,q1⟩=>?_)
 subst ex;have ty:tyV X.K "list" (.ref p) H1:=.inl ⟨rfl,xs,.of hp⟩
 obtain⟨h1,h2⟩:=uy I1 r1 ty;exact⟨"list",id,PySem.F.plainAttrs_list,slot,hty,h1,h2,Calls.callWith_builtin rfl (PySem.evalArgs_none (hm pins s1 σ H1 _ [] v [] Q I1 r1 .nil ⟨p,rfl,q1⟩))⟩
noncomputable def lO:RM:=fun p vs H Q=>∃y,vs=[y]∧∃xs,H p=some (.lst xs)∧xs.length < sizeLine∧Q .non (upd H p (.lst (xs++[y])))
theorem bN:MtL X "list.append" lO:=fun pins s σ H x vs v us Q I rx rv zq15=>by obtain⟨p,e,y,e2,xs,h,hl,q⟩:=zq15;exact(pN pins s σ H x vs v us Q I rx rv ⟨p,xs,y,e,e2,h,hl,q⟩)
noncomputable def zm:RM:=fun p vs H Q=>vs=[]∧∃xs,H p=some (.lst xs)∧∃y,xs[xs.length - 1]? = some y∧Q y (upd H p (.lst xs.dropLast))
theorem BL:MtL X "list.pop" zm:=fun pins s σ H x vs v us Q I rx rv zq16=>by obtain⟨p,e,e2,xs,h,y,hl,q⟩:=zq16;exact(Cn pins s σ H x vs v us Q I rx rv ⟨p,xs,y,e,e2,h,hl,q⟩)
noncomputable def nJ:RM:=fun p vs H Q=>∃i y,vs=[.int i,y]∧∃xs,H p=some (.lst xs)∧0≤i∧i≤xs.length∧xs.length < sizeLine∧Q .non (upd H p (.lst (xs.take i.toNat++y :: xs.drop i.toNat)))
theorem xF:MtL X "list.insert" nJ:=by
 intro pins s σ H x vs v us Q I rx rv h;obtain⟨p,rfl,i,y,rfl,xs,hH,i0,i1,hz,q⟩:=h;cases rx;obtain⟨u,w',rfl,ru,rw'⟩:=mM rv;obtain⟨t,rfl⟩:=ru;obtain⟨z,its,n,rr,hl,e⟩:=I.lstM hH;have hfit:Builtin.List.listFitsIndex i=true:=by
  have h63:=iO;simp only[Builtin.List.listFitsIndex,Bool.and_eq_true,decide_eq_true_eq];omega
 refine call_meets F.slot_list_insert ⟨_,e,rfl⟩ F.entry_list_insert (F.args_list_insert_3 _ _ _) (PySem.AutoSeq1.list_insert_list_int_val_1 p its.toArray n i t w' (by rw[hfit];decide) (by rw[size_toArray];omega)) ⟨e,?_⟩
 refine⟨.non,_,I.lset (its':=its.take i.toNat++w' :: its.drop i.toNat) hH e ?_ ((rr.take i.toNat).append (.cons rw' (rr.drop i.toNat))) ?_,rfl,q⟩
 ·have hk:(if i < 0 then(i+(its.toArray.size:Int)).toNat else min i.toNat its.toArray.size)=i.toNat:=by
   rw[if_neg (by omega),size_toArray];omega
  simp only[hk]
  apply ext'
  simp
  rw[take_of_length_le (by simp)]
 ·simp
  omega
noncomputable def rCL:R2:=fun x y H Q=>∃l,x = .ref l∧∃b,y = .ref b∧∃xs,H l=some (.lst xs)∧∃zs,H b=some (.lst zs)∧xs.length+zs.length≤sizeLine∧∀p,H p=none→Q (.ref p) (upd H p (.lst (xs++zs)))
theorem vN:OpR X (binaryOp .Add) rCL:=Ce.imp fun _ _ _ _ zq17=>by obtain⟨l,e,b,e2,xs,h,zs,h2,hl,q⟩:=zq17;exact(⟨l,b,xs,zs,e,e2,h,h2,hl,q⟩)
noncomputable def zp (neg:Bool):R2:=fun x y H Q=>∃p,y = .ref p∧∃xs,H p=some (.lst xs)∧fF x=true∧xs.all fF=true∧Q (.bl (if neg then !inV x xs else inV x xs)) H
noncomputable def BT (neg:Bool):R2:=fun x y H Q=>∃p,y = .ref p∧∃xs,H p=some (.tup xs)∧fF x=true∧xs.all fF=true∧Q (.bl (if neg then !inV x xs else inV x xs)) H
theorem vn:OpR X (compareOp .In) (zp false):=pY.imp fun _ _ _ _ zq18=>by obtain⟨p,e,xs,h,f1,f2,q⟩:=zq18;exact(⟨p,xs,e,.inl (.of h),f1,f2,q⟩)
theorem uP:OpR X (compareOp .In) (BT false):=pY.imp fun _ _ _ _ zq19=>by obtain⟨p,e,xs,h,f1,f2,q⟩:=zq19;exact(⟨p,xs,e,.inr (.of h),f1,f2,q⟩)
noncomputable def uH:List V→Hp→VK→Prop:=fun xs H Q=>∃p,xs=[.ref p]∧∃ys,H p=some (.tup ys)∧∀l,H l=none→Q (.ref l) (upd H l (.lst ys))
noncomputable def yt:List V→Hp→VK→Prop:=fun xs H Q=>∃p,xs=[.ref p]∧∃ys,H p=some (.lst ys)∧∀l,H l=none→Q (.ref l) (upd H l (.tup ys))
theorem iN:bC X (.type "list") uH:=jo.imp fun _ _ _ zq20=>by obtain⟨p,e,ys,h,q⟩:=zq20;exact(⟨p,ys,e,.inr (.of h),q⟩)
theorem aM:bC X (.type "tuple") yt:=oC.imp fun _ _ _ zq21=>by obtain⟨p,e,ys,h,q⟩:=zq21;exact(⟨p,ys,e,.inl ⟨.of h,q⟩⟩)
noncomputable def rCS:R2:=fun x y H Q=>∃i,x = .str i∧∃j,y = .str j∧i.length+j.length≤sizeLine∧Q (.str (i++j)) H
theorem lu:OpR X (binaryOp .Add) rCS:=uV.imp fun _ _ _ _ zq22=>by obtain⟨i,e,j,e2,h,q⟩:=zq22;exact(⟨i,j,e,e2,h,q⟩)
noncomputable def yP:List V→Hp→VK→Prop:=fun xs H Q=>∃z,xs=[.str z]∧z.length≤sizeLine∧Q (.int z.length) H
theorem xy:bC X (.builtin "len") yP:=qE
noncomputable def BX:R2:=fun x y H Q=>∃i,x = .str i∧∃j,y = .str j∧Q (.bl (!decide (j.cps.toList < i.cps.toList))) H
theorem BB:OpR X (compareOp .LtE) BX:=xp.imp fun _ _ _ _ zq23=>by obtain⟨i,e,j,e2,q⟩:=zq23;exact(⟨i,j,e,e2,q⟩)
end
noncomputable def my (J:It) (σ0:St) (g:TG) (tc:TT) (te:TE) (Q:VK) (H1:Hp) (D:Addr):Prop:=∃W:Nat→Nat→List V→Hp→Prop,(∃m,W 0 m [] (upd H1 D (.lst []))) ∧
 ∀ i m ys H2,W i m ys H2→(J.stop i H2∧Q (.ref D) H2)∨(J.go i H2∧∃N:List V→Hp→Prop,(∀ys' H',N ys' H'→∃m',m' < m∧W (i+1) m' ys' H') ∧
  ∀x H',J.yld i H2 x H'→g x σ0 H' fun σ2 H3=>tc σ2 H3 fun b H4=>if b=true then te σ2 H4 fun y H5=>H5 D=some (.lst ys)∧ys.length < sizeLine∧N (ys++[y]) (upd H5 D (.lst (ys++[y]))) else N ys H4)
theorem yX (nt:Nat) (js:List Nat) (wi:TI) (g:TG) (tc:TT) (te:TE):vM nt js wi g tc te=fun σ H Q=>wi σ H fun J H1=>∀D,H1 D=none→my J (dB nt js σ) g tc te Q H1 D:=rfl
noncomputable def DP (J:It) (g:TG) (tb:TS) (D:ll) (σ:St) (H1:Hp):Prop:=∃W:Nat→Nat→St→Hp→Prop,(∃m,W 0 m σ H1)∧∀i m σ H,W i m σ H →
 (J.stop i H∧D.nx σ H)∨(J.go i H∧∃N:St→Hp→Prop,(∀ σ' H',N σ' H'→∃m',m' < m∧W (i+1) m' σ' H')∧∀x H',J.yld i H x H'→g x σ H' fun σ2 H2=>tb { D with nx:=N,ct:=N,bk:=D.nx } σ2 H2)
theorem Ax (wi:TI) (g:TG) (tb:TS):Dx wi g tb=fun D σ H=>wi σ H fun J H1=>DP J g tb D σ H1:=rfl
theorem bW (w:Wlk J xs C) {g:TG} {tb:TS} {D:ll} {σ:St} {H:Hp} (Pv:Nat→St→Hp→Prop) (h0:Pv 0 σ H) (hl : ∀i σ H,Pv i σ H→C H)
  (hs : ∀i x σ H,i < xs.length→xs[i]? = some x→Pv i σ H→g x σ H fun σ2 H2=>tb { D with nx:=Pv (i+1),ct:=Pv (i+1),bk:=D.nx } σ2 H2) (hd : ∀ σ H,Pv xs.length σ H→D.nx σ H):DP J g tb D σ H :=
 Ar w Pv h0 hl hs hd
theorem cP (w:Wlk J xs C) {g:TG} {tc:TT} {te:TE} {σ0:St} {Q:VK} {H1:Hp} {D:Addr} (Pv:Nat→List V→Hp→Prop) (h0:Pv 0 [] (upd H1 D (.lst []))) (hl : ∀i ys H,Pv i ys H→C H)
  (hs : ∀i x ys H,i < xs.length→xs[i]? = some x→Pv i ys H→g x σ0 H fun σ2 H3=>tc σ2 H3 fun b H4=>if b=true then te σ2 H4 fun y H5=>H5 D=some (.lst ys)∧ys.length < sizeLine∧Pv (i+1) (ys++[y]) (upd H5 D (.lst (ys++[y]))) else Pv (i+1) ys H4)
  (hd : ∀ys H,Pv xs.length ys H→Q (.ref D) H):my J σ0 g tc te Q H1 D:=zb w Pv h0 hl hs hd
theorem BN (js:List Nat) (σ:St):dB 0 js σ=js.map fun j=>(σ[j]?).join:=rfl
theorem C3 (js:List Nat) (σ:St):dB 1 js σ=none :: js.map fun j=>(σ[j]?).join:=rfl
theorem CY (js:List Nat) (σ:St):dB 2 js σ=none :: none :: js.map fun j=>(σ[j]?).join:=rfl
theorem BV (js:List Nat) (σ:St):dB 3 js σ=none :: none :: none :: js.map fun j=>(σ[j]?).join:=rfl
theorem ao.upd_new {p:Addr} (s:ao H H1) (hp:H1 p=none):ao H (upd H1 p o):=fun b u e=>by
 have e1:=s b u e;rw[ag (aj e1 hp)];exact e1
theorem ao.upd0 {p:Addr} (hp:H p=none):ao H (upd H p o):=(ao.refl H).upd_new hp
noncomputable def IsB (H:Hp) (x:V) (T:String) (k:Bool):Prop:=match x with
 | .non=>k=false
 | .bl _=>k=(T == "bool" || T == "int")
 | .int _=>k=(T == "int")
 | .str _=>k=(T == "str")
 | .ref a=>(∃vs,H a=some (.tup vs)∧k=(T == "tuple"))∨(∃vs,H a=some (.lst vs)∧k=(T == "list"))
 | _=>False
noncomputable def C5:List V→Hp→VK→Prop:=fun xs H Q=>∃x T,xs=[x,.ty T]∧(T = "int" ∨ T = "str" ∨ T = "bool" ∨ T = "tuple" ∨ T = "list")∧∃k,IsB H x T k∧Q (.bl k) H
theorem Av (K:PySem.W.Frag) {T:String} (h:T = "int" ∨ T = "str" ∨ T = "bool" ∨ T = "tuple" ∨ T = "list") :
  kitOne K (.type "NoneType") (.type T)=some false∧kitOne K (.type "bool") (.type T)=some (T == "bool" || T == "int")∧kitOne K (.type "int") (.type T)=some (T == "int") ∧
  kitOne K (.type "str") (.type T)=some (T == "str")∧kitOne K (.type "tuple") (.type T)=some (T == "tuple")∧kitOne K (.type "list") (.type T)=some (T == "list"):=by
 rcases h with rfl | rfl | rfl | rfl | rfl
 all_goals exact⟨rfl,rfl,rfl,rfl,rfl,rfl⟩
theorem yF:bC X (.builtin "isinstance") C5:=zM.imp fun xs H Q ⟨x,T,e,hT,k,hk,q⟩=>by
 obtain⟨k1,k2,k3,k4,k5,k6⟩:=Av X.K hT;cases x with
 | non=>cases hk;exact⟨_,_,T,_,e,.non,k1,q⟩
 | bl b=>cases hk;exact⟨_,_,T,_,e,.bl b,k2,q⟩
 | int b=>cases hk;exact⟨_,_,T,_,e,.int b,k3,q⟩
 | str b=>cases hk;exact⟨_,_,T,_,e,.str b,k4,q⟩
 | ref a =>
  rcases hk with⟨vs,h,rfl⟩ | ⟨vs,h,rfl⟩
  ·exact⟨_,_,T,_,e,.tup h,k5,q⟩
  ·exact⟨_,_,T,_,e,.lst h,k6,q⟩
 | _=>exact hk.elim
noncomputable def cC (c:Nat):Bool:=decide (97≤c) && decide (c≤122)
theorem mW (a b:Str):(a++b).length=a.length+b.length:=by
 show(a++b).cps.size=a.cps.size+b.cps.size
 exact Array.size_append
theorem pQ (hr:cu k A):A.units+100 < cLine:=by have:=hr.un;omega
end L2
namespace HT
open PySem PyProof.Rows
theorem cat_tup0 {vs ws:List Value} (ht:IsTup s.heap t vs.toArray) (hb:IsTup s.heap b ws.toArray) (hv:vs=[])
  (h1:Q (.ref b) s):wpAny (model prog w) A (binaryOp .Add (.ref t) (.ref b)) Q E s:=by
 obtain⟨⟨cls,dd,data,sl⟩,ho,hc,n,hd⟩:=id ht;obtain⟨⟨cls2,dd2,data2,sl2⟩,ho2,hc2,n2,hd2⟩:=id hb;simp only at hc hd hc2 hd2;subst hc hd hc2 hd2;exact concat_meets ⟨_,ho,rfl⟩ ⟨_,ho2,rfl⟩ noFill_tuple_add seq_tuple_add PySem.F.slot_tuple_add PySem.F.entry_tuple_add (PySem.F.args_tuple_add_2 _ _)
   (tuple_addW0 t b vs.toArray ws.toArray n n2 dd dd2 sl sl2 (by simp[hv])) ⟨ho,ho2,h1⟩
end HT
namespace L2
open PySem PySem.Spec PyProof.Rows
section
variable {a b o l:Expr} {t:TA}
noncomputable def rCT:R2:=fun x y H Q=>∃l,x = .ref l∧∃b,y = .ref b∧∃xs,H l=some (.tup xs)∧∃ys,H b=some (.tup ys)∧xs.length+ys.length≤sizeLine ∧
 (xs=[]→Q (.ref b) H)∧(xs≠[]→ys=[]→Q (.ref l) H)∧(xs≠[]→ys≠[]→∀p,H p=none→Q (.ref p) (upd H p (.tup (xs++ys))))
theorem yR:OpR X (binaryOp .Add) rCT:=by
 intro pins s σ H x y v u Q I rx ry h;obtain⟨a,rfl,b,rfl,xs,ha,ys,hb,hz,q0,q1,q2⟩:=h
 by_cases hx:xs=[]
 ·cases rx
  cases ry;obtain⟨its,r1,p1,_⟩:=I.tuple (SqT.of ha);obtain⟨its2,r2,p2,_⟩:=I.tuple (SqT.of hb);exact HT.cat_tup0 p1 p2 (r1.nil_iff.mpr hx) ⟨.ref b,H,I,rfl,q0 hx⟩
 ·exact Ad pins s σ H _ _ v u Q I rx ry ⟨a,b,xs,ys,rfl,rfl,.of ha,.of hb,hx,hz,q1 hx,q2 hx⟩
noncomputable def Dm (i j:Int):Prop:=0 < j∧j < 18446744073709551616
theorem yk:OpR X (binaryOp .FloorDiv) (rI Dm fun i j=>.int (i / j)):=opI fun i j _ _ _ _ _ hc q=>by
 have h1:(0:Int) < j:=hc.1
 have h2:j < 18446744073709551616:=hc.2
 refine floordiv_int (by omega) (by rw[Int.fdiv_eq_ediv_of_nonneg i (by omega)];exact q) (.inl (PyProof.noPylong_of_log2 ?_))
 have h3:j.natAbs < 2 ^ 64:=by omega
 exact lt_trans ((Nat.log2_lt (by omega)).mpr h3) (by decide)
noncomputable abbrev RMS:=Str→List V→Hp→VK→Prop
noncomputable def MtS (X:Cx) (id:String) (r:RMS):Prop:=MtR X id fun x vs H Q=>∃p,x = .str p∧r p vs H Q
noncomputable def tMS (r:RMS) (to:TE) (t:TA):TE:=fun σ H Q=>to σ H fun x H1=>∃p,x = .str p∧t σ H1 fun vs H2=>r p vs H2 Q
variable {id:String} {r:RMS}
theorem Bt (slot:Slot "str" name id) (hty:typeOf (.builtin id)=pure (.type "method_descriptor")) (hm:MtS X id r) (ho:PE X o to) (ha:PA X (e :: es) t)
  (hbase:attributeBase o name X.env (eval o X.env)=eval o X.env:=by rfl)
  (hfew:((backTo cpos (starEach (e :: es) X.env)).all (fun x=>!x.1) && (backToKw cpos (keywordEach [] X.env)).all (fun x=>x.1.isSome)
   && decide ((e :: es).length+([]:List Keyword).length+(if ([]:List Keyword).isEmpty then 0 else 1) < 30))=true:=by rfl)
  (hline:(apos.endLine == cpos.line)=true:=by rfl) (hs:starEach (e :: es) X.env=(false,eval e X.env) :: starEach es X.env:=by rfl) (hplain:(backTo cpos (starEach es X.env)).any (·.1)=false:=by rfl) :
  PE X (.Call (.Attribute o name apos) (e :: es) [] cpos) (tMS r to t):=by
 intro pins s σ H Q I h;refine wpAny_Call_method_late hbase hfew hline rfl (thn (ho pins s σ H _ I h) fun v s1 zr4346=>?_)
 obtain⟨x,H1,I1,r1,p,ex,q1⟩:=zr4346;subst ex;obtain⟨h1,h2⟩:=uy I1 r1 (show tyV X.K "str" (.str p) H1 from rfl)
 refine⟨"str",id,PySem.F.plainAttrs_str,slot,hty,h1,h2,?_⟩
 have hA:=ha cpos pins s1 σ H1 _ I1 q1;rw[hs] at hA ⊢;refine Calls.callWith_builtin (by show(false || (backTo cpos (starEach es X.env)).any (·.1))=false;rw[hplain] <;> rfl) (Calls.evalArgs_plain ?_)
 refine thn hA fun us s2 zr4353=>?_
 obtain⟨vs,H2,I2,rr,q2⟩:=zr4353;exact hm pins s2 σ H2 (.str p) vs v us Q I2 r1 rr ⟨p,rfl,q2⟩
theorem vf {ns:List Str} : ∀{us:List Value},aT (ns.map V.str) us→StrsAre us ns:=by
 induction ns with
 | nil=>intro us h;cases h;exact .nil
 | cons n ns ih =>
  intro us h;cases h with
  | cons r1 r2 =>
   obtain⟨t,rfl⟩:=r1;exact .cons _ _ (ih r2)
noncomputable def vo:RMS:=fun z vs H Q=>∃p,vs=[.ref p]∧∃ys:List Str,H p=some (.lst (ys.map V.str))∧(ys.map (·.length)).sum+ys.length * z.length≤16777216∧Q (.str (Txt.join z ys)) H
theorem AN:MtS X "str.join" vo:=by
 intro pins s σ H x vs v us Q I rx rv h;obtain⟨z,rfl,p,rfl,ys,hp,hok,q⟩:=h;obtain⟨t,rfl⟩:=rx;obtain⟨u,rfl,ru⟩:=cS rv;cases ru;obtain⟨its,r,pl,hz⟩:=I.list (SqL.of hp);exact join_list pl.isList (ys:=ys) (by simpa using vf r) hok fun t' k=>⟨.str _,H,I.tok k,⟨t',rfl⟩,q⟩
noncomputable def lz:RMS:=fun z vs H Q=>∃y,vs=[.str y]∧∃i rest,Builtin.Str.occurrences z y 0 z.length 1=i :: rest∧Q (.int (i:Nat)) H
theorem yz:MtS X "str.index" lz:=by
 intro pins s σ H x vs v us Q I rx rv h;obtain⟨z,rfl,y,rfl,i,rest,ho,q⟩:=h;obtain⟨t,rfl⟩:=rx;obtain⟨u,rfl,ru⟩:=cS rv;obtain⟨t',rfl⟩:=ru;exact SC.index ho ⟨.int i,H,I.tok _,⟨_,rfl⟩,q⟩
end
theorem vE {a b:Str} (h:a.cps.toList=b.cps.toList):a=b:=by
 cases a;cases b;congr 1;exact ext' h
theorem fU (a b:Str):(a++b).cps.toList=a.cps.toList++b.cps.toList:=by
 show(a.cps++b.cps).toList=_
 simp
theorem fR (l:List Nat) (s:Nat) : ∀n,s+n≤l.length→((range n).map fun k=>s+k).filterMap (fun i=>l[i]?)=(l.drop s).take n
 | 0,_=>by simp
 | n+1,h=>by
  rw[List.range_succ,map_append,List.filterMap_append,fR l s n (by omega),take_add_one]
  have e:l[s+n]? = some (l[s+n]'(by omega)):=by simp
  simp[e,List.getElem?_drop]
theorem BU (lo hi:Option Int) (n:Nat):Builtin.Str.strSliceIndices lo hi 1 n=(range (HT.sIx n n hi - HT.sIx n 0 lo)).map fun k=>HT.sIx n 0 lo+k:=by
 have clip : ∀(v:Int) (d:Nat),(if (1:Int) > 0 then max 0 (min (if v < 0 then v+(n:Int) else v) (n:Int)) else max (-1) (min (if v < 0 then v+(n:Int) else v) ((n:Int) - 1)))=((HT.sIx n d (some v):Nat):Int):=fun v d=>by
  rw[if_pos (by decide)]
  show max 0 (min (if v < 0 then v+(n:Int) else v) (n:Int))=(((if v < 0 then(v+(n:Int)).toNat else min v.toNat n):Nat):Int)
  split <;> rw[Int.max_def,Int.min_def] <;> split <;> split <;> omega
 have base : ∀(a b:Nat),sliceRange (a:Int) (b:Int) 1=(range (b - a)).map fun k=>a+k:=fun a b=>by
  unfold sliceRange;simp only[show(1:Int) > 0 by decide,if_true,Int.one_mul]
  have e:(if (a:Int) < (b:Int) then((b:Int) - (a:Int)+1 - 1) / 1 else 0).toNat=b - a:=by
   split
   ·rw[Int.ediv_one];omega
   ·show(0:Int).toNat=b - a
    rw[Int.toNat_zero];omega
  rw[e];refine map_congr_left fun k _=>?_
  omega
 unfold Builtin.Str.strSliceIndices;cases lo with
 | none=>cases hi with
  | none=>exact base 0 n
  | some v=>simp only[];rw[clip v n];exact base 0 _
 | some u=>cases hi with
  | none=>simp only[];rw[clip u 0];exact base _ n
  | some v=>simp only[];rw[clip u 0,clip v n];exact base _ _
theorem ku (x:Str) (lo hi:Option Int):(Txt.slice x lo hi).cps.toList=(x.cps.toList.drop (HT.sIx x.length 0 lo)).take (HT.sIx x.length x.length hi - HT.sIx x.length 0 lo):=by
 have h1:=HT.sIx_le x.length x.length (le_refl _) hi;have h0:=HT.sIx_le x.length 0 (zero_le _) lo;have hl:x.cps.toList.length=x.length:=by show x.cps.toList.length=x.cps.size;simp
 unfold Txt.slice;rw[BU]
 split
 ·rename_i h
  simp only[beq_self_eq_true,Bool.true_and,length_map,length_range,beq_iff_eq] at h;have e0:HT.sIx x.length 0 lo=0:=by omega
  rw[h,e0,drop_zero,← hl,take_length]
 ·show((List.map _ _).filterMap (fun i=>x.cps[i]?)).toArray.toList=_
  rw[List.toList_toArray];rw[← fR _ _ _ (by omega)]
  refine congrArg (fun f=>List.filterMap f _) (funext fun i=>?_)
  simp
theorem xY (ys:List Str):(Txt.join (Str.ofString "") ys).cps.toList=ys.flatMap fun y=>y.cps.toList:=by
 have key : ∀(l:List Str) (acc:Array Nat),(l.foldl (fun acc p=>acc++(Str.ofString "").cps++p.cps) acc).toList=acc.toList++l.flatMap fun y=>y.cps.toList:=by
  intro l
  induction l with
  | nil=>intro acc;simp
  | cons a l ih =>
   intro acc;rw[List.foldl_cons,ih];have e:(Str.ofString "").cps = #[]:=by decide+kernel
   simp[e]
 show((ys.drop 1).foldl _ (ys.headD Str.empty).cps).toList=_
 rw[key];cases ys with
 | nil=>simp;decide+kernel
 | cons a l=>simp
structure cb (w:Str):Prop where
 pos:1≤w.length
 le:w.length≤8
 small : ∀c∈w.cps.toList,cC c=true
theorem ic (x:Str):x.cps.toList.length=x.length:=by show x.cps.toList.length=x.cps.size;simp
theorem cb.cons {w:Str} (h:cb w) : ∃c cs,w.cps.toList=c :: cs∧cC c=true∧(∀x∈cs,cC x=true)∧cs.length≤7:=by
 have hl:=ic w;cases e:w.cps.toList with
 | nil=>rw[e] at hl;have:=h.pos;simp at hl;omega
 | cons c cs =>
  rw[e] at hl;have:=h.le
  exact⟨c,cs,rfl,h.small c (by rw[e];simp),fun x hx=>h.small x (by rw[e];simp[hx]),by simp at hl;omega⟩
theorem cb.of {w:Str} {c:Nat} {cs:List Nat} (e:w.cps.toList=c :: cs) (hc:cC c=true) (hcs : ∀x∈cs,cC x=true) (hl:cs.length≤7):cb w:=by
 have h:=ic w;rw[e] at h;simp at h
 refine⟨by omega,by omega,fun x hx=>?_⟩
 rw[e] at hx;rcases mem_cons.mp hx with rfl | q
 ·exact hc
 ·exact hcs x q
theorem nY {r:Int} (h0:0≤r) (h1:r < 26):atI (Str.ofString "abcdefghijklmnopqrstuvwxyz").cps.toList r=some (97+r.toNat):=by
 obtain⟨n,rfl⟩:=Int.eq_ofNat_of_zero_le h0;rw[show(Str.ofString "abcdefghijklmnopqrstuvwxyz").cps.toList=range' 97 26 by decide+kernel]
 refine aO ?_
 rw[List.getElem?_range' (by omega)]
 simp
theorem kN:(Str.ofString "abcdefghijklmnopqrstuvwxyz").length≤sizeLine:=by decide+kernel
theorem pd {c:Nat} (h:cC c=true):Builtin.Str.occurrences (Str.ofString "abcdefghijklmnopqrstuvwxyz") ⟨#[c]⟩ 0 (Str.ofString "abcdefghijklmnopqrstuvwxyz").length 1=(c - 97) :: []:=by
 have key : ∀i:Fin 26,Builtin.Str.occurrences (Str.ofString "abcdefghijklmnopqrstuvwxyz") ⟨#[97+i.1]⟩ 0 (Str.ofString "abcdefghijklmnopqrstuvwxyz").length 1=[i.1]:=by decide+kernel
 simp only[cC,Bool.and_eq_true,decide_eq_true_eq] at h;have:=key ⟨c - 97,by omega⟩
 simp only[show 97+(c - 97)=c by omega] at this
 exact this
noncomputable def rZ (c:Nat):Nat:=97+(c - 97+1) % 26
noncomputable def AV:List Nat→List Nat
 | []=>[]
 | c :: cs=>rZ c :: cs
noncomputable def mV (w:Str):Str:=⟨(AV w.cps.toList).toArray⟩
noncomputable def mG:Nat→Str→Str
 | 0,w=>w
 | n+1,w=>mG n (mV w)
theorem mP (c:Nat):cC (rZ c)=true:=by
 have:=Nat.mod_lt (c - 97+1) (show 0 < 26 by decide)
 unfold cC rZ;rw[Bool.and_eq_true,decide_eq_true_eq,decide_eq_true_eq];exact⟨by omega,by omega⟩
theorem AY {w:Str} (h:cb w):cb (mV w):=by
 obtain⟨c,cs,e,hc,hcs,hl⟩:=h.cons;exact .of (c:=rZ c) (cs:=cs) (by simp[mV,e,AV]) (mP c) hcs hl
theorem zf {c:Nat} {cs:List Nat} : ∀(n:Nat) {w:Str},w.cps.toList=c :: cs→cC c=true→(mG n w).cps.toList=(97+(c - 97+n) % 26) :: cs:=by
 intro n
 induction n generalizing c with
 | zero =>
  intro w e hc;simp only[cC,Bool.and_eq_true,decide_eq_true_eq] at hc;rw[mG,e]
  congr 1
  omega
 | succ n ih =>
  intro w e hc;rw[mG,ih (c:=rZ c) (by simp[mV,e,AV]) (mP c)]
  congr 1
  simp only[rZ];omega
theorem sI {α:Type} [BEq α] [LawfulBEq α] : ∀{xs ys:List α},xs.Nodup→(∀x∈xs,x∈ys)→xs.length≤ys.length
 | [],_,_,_=>by simp
 | x :: xs,ys,hn,h=>by
  have hn':=nodup_cons.mp hn;have hx:=h x (by simp)
  have:=sI (xs:=xs) (ys:=ys.erase x) hn'.2 fun z hz=>by
   have hne:z≠x:=fun e=>hn'.1 (e ▸ hz)
   exact(List.mem_erase_of_ne hne).mpr (h z (by simp[hz]))
  rw[List.length_erase_of_mem hx] at this;have:=List.length_pos_of_mem hx
  simp
  omega
theorem xI {w:Str} (h:cb w) {F:List Str} (hF:F.length < 26) : ∃n,mG n w∉F:=by
 obtain⟨c,cs,e,hc,hcs,hl⟩:=h.cons;have hinj : ∀i j,i < 26→j < 26→mG i w=mG j w→i=j:=fun i j hi hj q=>by
  have q2:=congrArg (fun z:Str=>z.cps.toList) q
  simp only[zf _ e hc] at q2;have q3:=(List.cons.inj q2).1;omega
 refine Classical.byContradiction fun hno=>?_
 have hall : ∀n,mG n w∈F:=fun n=>Classical.byContradiction fun q=>hno ⟨n,q⟩
 have hnd:((range 26).map fun n=>mG n w).Nodup:=by
  refine pairwise_map.mpr (List.Pairwise.imp_of_mem (fun {i j} hi hj q e=>q (hinj i j (mem_range.mp hi) (mem_range.mp hj) e)) (List.nodup_range (n:=26)))
 have:=sI (ys:=F) hnd fun x hx=>by
  obtain⟨n,_,rfl⟩:=mem_map.mp hx;exact hall n
 simp at this
 omega
theorem Aq (a b:Str):eqV (.str a) (.str b)=decide (a=b):=by
 show(a == b)=decide (a=b)
 rw[Bool.eq_iff_iff];simp
theorem oh (x:Str) (ys:List Str):inV (.str x) (ys.map V.str)=decide (x∈ys):=by
 rw[Bool.eq_iff_iff];simp only[inV,List.any_map,any_eq_true,Function.comp,Aq,decide_eq_true_eq]
 constructor
 ·rintro⟨y,hy,rfl⟩;exact hy
 ·exact fun h=>⟨x,h,rfl⟩
theorem pJ (ys:List Str):(ys.map V.str).all fF=true:=by
 rw[all_eq_true];intro x hx;obtain⟨y,_,rfl⟩:=mem_map.mp hx;rfl
noncomputable def dM:List Str:=["in","from","to","end"]
structure el (ws:List Str):Prop where
 nm : ∀w∈ws,cb w
 nd:ws.Nodup
 nomark : ∀w∈ws,w∉dM
theorem el.nil:el []:=⟨by simp,by simp,by simp⟩
theorem el.snoc {w:Str} (h:el ws) (hw:cb w) (hn:w∉ws) (hm:w∉dM):el (ws++[w]):=by
 refine⟨fun x hx=>?_,?_,fun x hx=>?_⟩
 ·rcases mem_append.mp hx with q | q
  ·exact h.nm x q
  ·rw[mem_singleton.mp q];exact hw
 ·rw[nodup_append]
  refine⟨h.nd,by simp,fun a ha b hb=>?_⟩
  rw[mem_singleton.mp hb];rintro rfl
  exact hn ha
 ·rcases mem_append.mp hx with q | q
  ·exact h.nomark x q
  ·rw[mem_singleton.mp q];exact hm
theorem si (x:α) (xs:List α):atI (x :: xs) 0=some x:=aO (j:=0) rfl
theorem AD {z:Str} {r:Int} {c:Nat} (hz:cb z) (hc:cC c=true) (r0:0≤r) (r1:r < z.length):cb (Txt.slice z none (some r)++(Str.mk #[c])++Txt.slice z (some (r+1)) none):=by
 obtain⟨n,rfl⟩:=Int.eq_ofNat_of_zero_le r0;have hn:n < z.length:=by omega
 have hl:=ic z;have e:(Txt.slice z none (some (n:Int))++(Str.mk #[c])++Txt.slice z (some ((n:Int)+1)) none).cps.toList=z.cps.toList.take n++[c]++z.cps.toList.drop (n+1):=by
  rw[fU,fU,ku,ku,HT.sIx_none,HT.sIx_nat,HT.sIx_none,show((n:Int)+1)=((n+1:Nat):Int) by omega,HT.sIx_nat,min_eq_left (by omega),min_eq_left (by omega)]
  rw[drop_zero,Nat.sub_zero,take_of_length_le (i:=z.length - (n+1)) (by rw[length_drop,hl];omega)]
 have h8:=hz.le;have hlen:(Txt.slice z none (some (n:Int))++(Str.mk #[c])++Txt.slice z (some ((n:Int)+1)) none).length=z.length:=by
  rw[← ic,e];simp only[length_append,length_take,length_drop,length_cons,length_nil,hl];omega
 refine⟨by omega,by omega,fun x hx=>?_⟩
 rw[e] at hx;rcases mem_append.mp hx with q | q
 ·rcases mem_append.mp q with q | q
  ·exact hz.small x (mem_of_mem_take q)
  ·rw[mem_singleton.mp q];exact hc
 ·exact hz.small x (List.mem_of_mem_drop q)
theorem ve (cs:List Nat):(Txt.join (Str.ofString "") (cs.map fun c=>Str.mk #[c])).cps.toList=cs:=by
 rw[xY]
 induction cs with
 | nil=>rfl
 | cons c cs ih=>simp[ih]
theorem xX (cs:List Nat):((cs.map fun c=>Str.mk #[c]).map fun x=>x.length).sum=cs.length:=by
 induction cs with
 | nil=>rfl
 | cons c cs ih =>
  rw[map_cons,map_cons,List.sum_cons,ih]
  show 1+cs.length=cs.length+1
  omega
noncomputable def Cr:V→Option Int→Option Int→Hp→VK→Prop:=fun x lo hi H Q=>∃a,x = .ref a∧∃xs,H a=some (.tup xs)∧∀p H',H' p=some (.tup (dN xs lo hi))→ao H H'→Q (.ref p) H'
theorem nV:SlR X Cr:=Ga.imp fun _ _ _ _ _ zq24=>by obtain⟨a,e,xs,h,q⟩:=zq24;exact(⟨a,e,xs,h,fun hw=>q a _ (by rw[hw];exact h) (ao.refl _),fun p hp=>q p _ ab (ao.upd0 hp)⟩)
noncomputable def C4:R2:=fun x y H Q=>∃l,x = .ref l∧∃b,y = .ref b∧∃xs,H l=some (.tup xs)∧∃ys,H b=some (.tup ys)∧xs.length+ys.length≤sizeLine∧∀p H',H' p=some (.tup (xs++ys))→ao H H'→Q (.ref p) H'
theorem eL:OpR X (binaryOp .Add) C4:=yR.imp fun _ _ _ _ ⟨l,e,b,e2,xs,h,ys,h2,hl,q⟩=>⟨l,e,b,e2,xs,h,ys,h2,hl,
 fun hx=>q b _ (by rw[hx];exact h2) (ao.refl _),fun _ hy=>q l _ (by rw[hy,append_nil];exact h) (ao.refl _),fun _ _ p hp=>q p _ ab (ao.upd0 hp)⟩
theorem lJ (f:α→V) (xs:List α) (n:Nat):dN (xs.map f) none (some (n:Int))=(xs.take n).map f:=by
 unfold dN;rw[HT.sIx_none,HT.sIx_nat,drop_zero,Nat.sub_zero,length_map,map_take]
 by_cases h:n≤xs.length
 ·rw[min_eq_left h]
 ·rw[Nat.min_eq_right (by omega),take_of_length_le (by simp),take_of_length_le (by simp;omega)]
theorem jE (f:α→V) (xs:List α) (n:Nat):dN (xs.map f) (some (n:Int)) none=(xs.drop n).map f:=by
 unfold dN;rw[HT.sIx_none,HT.sIx_nat,length_map,map_drop]
 by_cases h:n≤xs.length
 ·rw[min_eq_left h,take_of_length_le (by simp)]
 ·rw[Nat.min_eq_right (by omega),List.drop_of_length_le (l:=List.map f xs) (i:=n) (by simp;omega)]
  simp
theorem F8 (x:α) (xs:List α):atI (x :: xs) 0=some x:=aO (j:=0) rfl
theorem EB (x y:α) (xs:List α):atI (x :: y :: xs) 1=some y:=aO (j:=1) rfl
theorem Gk (x y z:α) (xs:List α):atI (x :: y :: z :: xs) 2=some z:=aO (j:=2) rfl
theorem Gf (x y z a:α) (xs:List α):atI (x :: y :: z :: a :: xs) 3=some a:=aO (j:=3) rfl
theorem ET (x y z a b:α) (xs:List α):atI (x :: y :: z :: a :: b :: xs) 4=some b:=aO (j:=4) rfl
theorem Ay {a b:String}:(Str.ofString a=Str.ofString b)=(a=b):=by
 refine propext ⟨fun h=>?_,fun h=>by rw[h]⟩
 rw[Str.ofString_eq_toList,Str.ofString_eq_toList] at h;have h1:=congrArg (fun s:Str=>s.cps.toList) h
 simp only[List.toList_toArray] at h1;have key : ∀(l1 l2:List Char),l1.map Char.toNat=l2.map Char.toNat→l1=l2:=by
  intro l1
  induction l1 with
  | nil=>intro l2 h;cases l2 with
   | nil=>rfl
   | cons a b=>cases h
  | cons a b ih=>intro l2 h;cases l2 with
   | nil=>cases h
   | cons c d =>
    rw[map_cons,map_cons,List.cons.injEq] at h;rw[ih d h.2,Char.toNat_inj.mp h.1]
 exact String.toList_injective (key _ _ h1)
theorem PG.imp {g g':TG} (h:PG X tg g) (i : ∀v σ H Q,g' v σ H Q→g v σ H Q):PG X tg g':=fun pins s σ H v u Q I r q=>h pins s σ H v u Q I r (i _ _ _ _ q)
noncomputable def wR (n:Nat) (t:TGs):TG:=fun v σ H Q=>∃a,v = .ref a∧∃xs,H a=some (.tup xs)∧xs.length=n∧t xs σ H Q
theorem du {t:TGs} (hc:X.calm=true) (h:PGs X es t)
  (hn:(assignEach es X.env).length=n:=by rfl) (hst:(assignEach es X.env).findIdx? (·.1)=none:=by rfl):PG X (.Tuple es k pos) (wR n t) :=
 (Cq hc h hn hst).imp fun _ _ _ _ zq25=>by obtain⟨a,e,xs,h,hl,q⟩:=zq25;exact(⟨a,xs,e,.of h,hl,q⟩)
theorem cb.lay {w:Str} (h:cb w):PyData.canLay0 (.str w)=true:=by
 show(w.cps.all (· < 0x110000))=true
 rw[Array.all_eq_true_iff_forall_mem];intro c hc;have:=h.small c (by simpa using hc)
 simp only[cC,Bool.and_eq_true,decide_eq_true_eq] at this;exact decide_eq_true (by omega)
theorem mz : ∀{ws:List Str},(∀w∈ws,cb w)→PyData.canLayAll0 (ws.map PyData.str)=true
 | [],_=>rfl
 | w :: ws,h=>by
  rw[map_cons,PyData.canLayAll0,(h w (by simp)).lay,mz fun x hx=>h x (by simp[hx])]
  rfl
theorem cN : ∀(ws:List Str),PyData.depthAll (ws.map PyData.str)=0
 | []=>rfl
 | w :: ws=>by
  rw[map_cons,PyData.depthAll,PyData.depth,cN ws];rfl
noncomputable def uI:List V→Hp→VK→Prop:=fun xs H Q=>∃p,xs=[.ref p]∧∃kvs,H p=some (.dK kvs)∧∀q,H q=none→Q (.ref q) (upd H q (.dK kvs))
theorem mH:bC X (.type "dict") uI:=by
 intro pins s σ H xs us Q I r h;obtain⟨p,rfl,kvs,hp,q⟩:=h;obtain⟨u,rfl,ru⟩:=cS r;cases ru;obtain⟨z,hd,vs,rel,dd⟩:=jG I.hok hp;refine PySem.kt_call_dict hd dd (by rw[← rel.length];exact z) fun h' dd' sb=>?_
 have hold : ∀b o,s.heap.get? b=some o→h'.get? b=some o:=fun b o e=>sb.extBut b o (ne_of_lt (Heap.lt_size e)) (Heap.get?_push_of_some _ e)
 exact⟨.ref s.heap.objs.size,_,I.laid (a:=s.heap.objs.size) (o:=.dK kvs) (t':=s.toks) hold (le_refl _) ⟨z,beq_eq_false_iff_ne.mpr (Ne.symm (ne_of_lt I.big)),vs,rel,dd'⟩,rfl,q _ (I.hok.fresh (le_refl _))⟩
noncomputable def dQ:V→Bool
 | .non=>true
 | .bl _=>true
 | .int _=>true
 | .str _=>true
 | .ref _=>true
 | _=>false
theorem xG {v:V} {a b:Value} (hv:dQ v=true) (ra:aX v a) (rb:aX v b):SeqAt.EqAt A s a b true:=by
 cases v with
 | non=>cases ra;cases rb;exact SeqAt.EqAt.same _
 | bl b=>cases ra;cases rb;exact SeqAt.EqAt.same _
 | int i =>
  obtain⟨t,rfl⟩:=ra;obtain⟨t',rfl⟩:=rb;have h:=SeqAt.EqAt.int_int (A:=A) (s:=s) i t i t';simpa using h
 | str i =>
  obtain⟨t,rfl⟩:=ra;obtain⟨t',rfl⟩:=rb;have h:=SeqAt.EqAt.str_str (A:=A) (s:=s) i t i t';simpa using h
 | ref a=>cases ra;cases rb;exact SeqAt.EqAt.same _
 | _=>exact absurd (show false=true from hv) Bool.false_ne_true
theorem jp {κ:Type} [DecidableEq κ] : ∀{kvs:List (κ × V)} {k:κ} {v:V},(kvs.map (·.1)).Nodup→(k,v)∈kvs→bu kvs k=some v
 | (a,b) :: r,k,v,hn,hm=>by
  rw[map_cons,nodup_cons] at hn;rcases mem_cons.mp hm with e | e
  ·cases e
   exact aZ rfl
  ·have hne : ¬ a=k:=fun z=>hn.1 (by subst z;exact mem_map.mpr ⟨(a,v),e,rfl⟩)
   rw[aP hne];exact jp hn.2 e
theorem xx (rb:KV kvs vb) : ∀{l:List (Key × V)} {la:List (Key × Value)},KV l la→(∀p∈l,bu kvs p.1=some p.2∧dQ p.2=true)→PySem.W.KeqHits A s vb la true:=by
 intro l la r;unfold KV at r
 induction r with
 | nil=>intro _;exact .nil
 | @cons p q ps qs h _ ih =>
  intro hall;obtain⟨k,v⟩:=p;obtain⟨k',u⟩:=q;obtain⟨e,ru⟩:=h;dsimp only at e ru;subst e;obtain⟨h1,h2⟩:=hall (k,v) (by simp)
  dsimp only at h1 h2;obtain⟨y,hy,ry⟩:=jc.some_of (v:=v) (o:=valueAt vb k) (by rw[← h1];exact rb.val k)
  exact PySem.W.KeqHits.hit (e:=true) (b:=true) hy (xG h2 ru ry) (ih fun p hp=>hall p (by simp[hp]))
noncomputable def qG:List V→Hp→VK→Prop:=fun xs H Q=>∃p,xs=[.ref p]∧∃ns:List Int,H p=some (.lst (ns.map V.int))∧ns.length < 64∧∀(q:Addr) (ms:List Int),H q=none→ms.Perm ns→ms.Pairwise (·≤·)→Q (.ref q) (upd H q (.lst (ms.map V.int)))
theorem tf:bC X (.builtin "sorted") qG:=by
 intro pins s σ H xs us Q I r h;obtain⟨p,rfl,ns,hp,hl,q⟩:=h;obtain⟨u,rfl,ru⟩:=cS r;cases ru;obtain⟨its,rv,pl,hz⟩:=I.list (SqL.of hp);have hlen:=rv.length;rw[length_map] at hlen;refine sorted_ints pl.isList (cQ rv) (by omega) fun out ms hms hperm hpw=>?_
 obtain⟨e,he⟩:=sortedAll_at s.heap its out;have hout:out=out.toList.toArray:=by simp
 refine⟨.ref (s.heap.objs.size+1),_,I.laid (a:=s.heap.objs.size+1) (o:=.lst (ms.map V.int)) (t':=s.toks) (fun b o e=>sortedAll_old e) (le_succ _) ⟨?_,out.toList,e,ix hms,?_⟩,rfl,q _ ms (I.hok.fresh (le_succ _)) hperm hpw⟩
 ·rw[length_map,hperm.length_eq];exact le_of_lt (ax (by omega))
 ·rw[he]
noncomputable def qV:RM:=fun p vs H Q=>∃i,vs=[.int i]∧∃xs,H p=some (.lst xs)∧0≤i∧i < xs.length∧xs.length≤1000∧∀y,xs[i.toNat]? = some y→Q y (upd H p (.lst (xs.eraseIdx i.toNat)))
theorem rX:MtL X "list.pop" qV:=fun pins s σ H x vs v us Q I rx rv ⟨p,e,i,e2,xs,h,i0,i1,hl,q⟩=>by
 have hlt:i.toNat < xs.length:=by omega
 exact yV pins s σ H x vs v us Q I rx rv ⟨p,xs,i,i.toNat,xs[i.toNat],e,e2,h,by omega,by omega,seqIndex_of i0 i1,by simp[hlt],q _ (by simp[hlt])⟩
noncomputable def pz (mg:Str→Option Value) (x:Str):Addr:=match mg x with | some (.ref a)=>a | _=>0
theorem yg {C:Addr} (h:mg x=some (.ref C)):pz mg x=C:=by unfold pz;rw[h]
noncomputable def Dj (kd:ScopeKind) (A xs:List (Str × NameKind)):List (Str × NameKind):=xs.map fun(n,k)=>if (k == .free && kd == .function && A.lookup n == some .cell) then(n,.cell) else(n,k)
section
variable {l:Expr}
theorem DB (K:PySem.W.Frag) (hl:PE X l tl) (hK:X.K=K:=by exact rfl):PI X tg l (iL K tl):=by subst hK;exact Gb hl
theorem cU (K:PySem.W.Frag) (hl:PE X l tl) (hK:X.K=K:=by exact rfl):PI X tg l (iT K tl):=by subst hK;exact EI hl
noncomputable def yC:List V→Hp→VK→Prop:=fun xs H Q=>∃p,xs=[.ref p]∧∃bs:List Bool,H p=some (.lst (bs.map V.bl))∧Q (.bl (bs.all id)) H
noncomputable def yo:List V→Hp→VK→Prop:=fun xs H Q=>∃p,xs=[.ref p]∧∃bs:List Bool,H p=some (.lst (bs.map V.bl))∧Q (.bl (bs.any id)) H
theorem pR (hc:X.calm=true):bC X (.builtin "all") yC:=(vi hc).imp fun _ _ _ zq26=>by obtain⟨p,e,bs,h,q⟩:=zq26;exact(⟨p,bs,e,.of h,q⟩)
theorem xk (hc:X.calm=true):bC X (.builtin "any") yo:=(uC hc).imp fun _ _ _ zq27=>by obtain⟨p,e,bs,h,q⟩:=zq27;exact(⟨p,bs,e,.of h,q⟩)
end
theorem rJ (w:Wlk J xs C) {tc:TT} {te:TE} {σ0:St} {Q:VK} {H1:Hp} {D:Addr} (p:V→Bool) (f:V→V) (hD:H1 D=none) (hC : ∀H',ao H1 H'→C H') (hn:xs.length≤1000)
  (hc : ∀(x:V) (H2:Hp) (Q2:Bool→Hp→Prop),x∈xs→ao H1 H2→(∀H3,ao H2 H3→Q2 (p x) H3)→tc (σ0.set 0 (some x)) H2 Q2)
  (he : ∀(x:V) (H2:Hp) (Q2:VK),x∈xs→p x=true→ao H1 H2→(∀H3,ao H2 H3→Q2 (f x) H3)→te (σ0.set 0 (some x)) H2 Q2)
  (hd : ∀H2,ao H1 H2→H2 D=some (.lst ((xs.filter p).map f))→Q (.ref D) H2):my J σ0 (eV 0) tc te Q H1 D:=by
 refine cP w (fun i ys H=>ys=((xs.take i).filter p).map f∧i≤xs.length∧ao H1 H∧H D=some (.lst ys)) ⟨by simp,zero_le _,ao.upd0 hD,ab⟩ (fun i ys H h=>hC _ h.2.2.1) ?_ ?_
 ·rintro i x ys H hi hx ⟨rfl,hle,sm,hd⟩
  refine hc x H _ (mem_of_getElem? hx) sm fun H3 s3=>?_
  have hlen:((xs.take i).filter p).length≤xs.length:=le_trans (List.length_filter_le _ _) (by simp;omega)
  cases hp:p x with
  | true =>
   simp only[if_true];refine he x H3 _ (mem_of_getElem? hx) hp (sm.trans s3) fun H4 s4=>⟨s4 _ _ (s3 _ _ hd),by simp;exact ax (by omega),?_,hi,?_,ab⟩
   ·rw[take_add_one,hx];simp[hp]
   ·exact fun b o e=>by rw[ag (aj e hD)];exact s4 _ _ (s3 _ _ (sm b o e))
  | false =>
   simp only[Bool.false_eq_true,if_false];exact⟨by rw[take_add_one,hx];simp[hp],hi,sm.trans s3,s3 _ _ hd⟩
 ·rintro ys H ⟨rfl,_,sm,hd'⟩
  rw[take_length] at hd';exact hd H sm hd'
theorem cT (w:Wlk J xs C) {te:TE} {σ0:St} {Q:VK} {H1:Hp} {D:Addr} (f:V→V) (hD:H1 D=none) (hC : ∀H',ao H1 H'→C H') (hn:xs.length≤10000)
  (he : ∀(x:V) (H2:Hp) (Q2:VK),x∈xs→ao H1 H2→(∀H3,ao H2 H3→Q2 (f x) H3)→te (σ0.set 0 (some x)) H2 Q2)
  (hd : ∀H2,ao H1 H2→H2 D=some (.lst (xs.map f))→Q (.ref D) H2):my J σ0 (eV 0) tP te Q H1 D:=by
 refine cP w (fun i ys H=>ys=(xs.take i).map f∧i≤xs.length∧ao H1 H∧H D=some (.lst ys)) ⟨by simp,zero_le _,ao.upd0 hD,ab⟩ (fun i ys H h=>hC _ h.2.2.1) ?_ ?_
 ·rintro i x ys H hi hx ⟨rfl,hle,sm,hd⟩
  simp only[eV,tP,if_true];refine he x H _ (mem_of_getElem? hx) sm fun H4 s4=>⟨s4 _ _ hd,by simp;exact Nat.lt_of_le_of_lt (le_trans (Nat.min_le_right _ _) hn) (by decide),?_,hi,?_,ab⟩
  ·rw[take_add_one,hx];simp
  ·exact fun b o e=>by rw[ag (aj e hD)];exact s4 _ _ (sm b o e)
 ·rintro ys H ⟨rfl,_,sm,hd'⟩
  rw[take_length] at hd';exact hd H sm hd'
theorem lP {α:Type} : ∀{l:List α} {n:Nat} (h:n < l.length),(l[n] :: l.eraseIdx n).Perm l
 | a :: l,0,h=>by simp
 | a :: l,n+1,h=>by
  have h':n < l.length:=by simpa using h
  have:=lP h'
  simp only[List.getElem_cons_succ,List.eraseIdx_cons_succ];exact(List.Perm.swap _ _ _).trans (List.Perm.cons a this)
section
noncomputable def BD (ty td:TE):TE:=fun σ H Q=>ty σ H fun y H1=>td σ H1 fun x H2=>∃a,x = .ref a∧∃k,y=kV k∧∃kvs,H2 a=some (.dK kvs)∧Q (.bl (!(bu kvs k).isSome)) H2
variable {o i:Expr}
theorem AH (hu:X.A.units+1 < cLine) (hi:PE X i ty) (ho:PE X o td):PC X .In i o (tDI ty td):=by
 intro pins s σ H Q I h;refine thn (hi pins s σ H _ I h) fun iv s1 ⟨y,H1,I1,ry,q1⟩=>thn (ho pins s1 σ H1 _ I1 q1) fun u s2 zr4828=>?_
 obtain⟨x,H2,I2,rx,a,ex,k,ey,kvs,hd,q2⟩:=zr4828;subst ex;subst ey;obtain rfl:u=Value.ref a:=rx
 have g:pk H2 a (kV k) (bu kvs k):=.inl ⟨kvs,k,.inl hd,rfl,rfl⟩
 exact EZ hu I2 g ry fun s3 I3=>⟨.bl (bu kvs k).isSome,H2,I3,rfl,q2⟩
theorem mt (hu:X.A.units+1 < cLine) (hi:PE X i ty) (ho:PE X o td):PC X .NotIn i o (BD ty td):=by
 intro pins s σ H Q I h;refine thn (hi pins s σ H _ I h) fun iv s1 ⟨y,H1,I1,ry,q1⟩=>thn (ho pins s1 σ H1 _ I1 q1) fun u s2 zr4836=>?_
 obtain⟨x,H2,I2,rx,a,ex,k,ey,kvs,hd,q2⟩:=zr4836;subst ex;subst ey;obtain rfl:u=Value.ref a:=rx
 have g:pk H2 a (kV k) (bu kvs k):=.inl ⟨kvs,k,.inl hd,rfl,rfl⟩
 exact AB hu I2 g ry fun s3 I3=>⟨.bl (!(bu kvs k).isSome),H2,I3,rfl,q2⟩
end
theorem Inv.retag (I:Inv X pins σ H s) (ha:H a=some u0) (n1 : ∀y,u0≠.own y) (n2 : ∀xs,u0≠.tup xs) (n3 : ∀ob u,X.H₀ a≠some (.frz ob u)) (n4 : ∀ps,u0≠.tbl ps)
  (ok:be X.prog X.w H s.heap a o') (n5 : ∀ob y,u0≠.frz ob (.own y):=by intro _ _ z;cases z):Inv X pins σ (upd H a o') s:=by
 have hne : ∀b,H b=none→b≠a:=fun b n z=>by subst z;rw[ha] at n;cases n
 have ho : ∀b y,H b=some (.own y)→upd H a o' b=some (.own y):=fun b y e=>by
  rw[ag (fun z=>by subst z;rw[ha] at e;exact n1 y (Option.some.inj e))];exact e
 have ht : ∀b xs,H b=some (.tup xs)→upd H a o' b=some (.tup xs):=fun b xs e=>by
  rw[ag (fun z=>by subst z;rw[ha] at e;exact n2 xs (Option.some.inj e))];exact e
 have hz : ∀b ob y,H b=some (.frz ob (.own y))→upd H a o' b=some (.frz ob (.own y)):=fun b ob y e=>by
  rw[ag (fun z=>by subst z;rw[ha] at e;exact n5 ob y (Option.some.inj e))];exact e
 refine⟨I.ok,I.os,I.bare,⟨I.base.keep,I.base.slot,fun b o q n hx=>?_,I.base.there,fun b xs q=>ht b xs (I.base.tups b xs q),fun b ob u q=>?_,fun b ps q=>?_⟩,I.loc,I.cell,?_,fun x c e=>?_,fun p hp=>?_,fun b u e=>?_,I.len⟩
 ·have:=I.base.free b o q n hx
  rw[ag (hne b this)];exact this
 ·rw[ag (fun z=>by subst z;exact n3 ob u q)];exact I.base.frzs b ob u q
 ·obtain⟨more,e⟩:=I.base.tbls b ps q
  exact⟨more,by rw[ag (fun z=>by subst z;rw[ha] at e;exact n4 _ (Option.some.inj e))];exact e⟩
 ·rw[ag (hne _ I.free)];exact I.free
 ·have:=I.freeC x c e
  rw[ag (hne c this)];exact this
 ·obtain⟨p1,p2,p3⟩:=I.pin p hp
  exact⟨p1,by rw[ag (hne _ p2)];exact p2,p3⟩
 ·by_cases hb:b=a
  ·subst hb
   rw[ab] at e;cases e;exact ok.stay (fun _ _ _ q=>q) (fun c q=>ho c _ q) ht hz
  ·rw[ag hb] at e
   exact(I.hok b u e).stay (fun _ _ _ q=>q) (fun c q=>ho c _ q) ht hz
noncomputable def Itd (a:Addr) (o:Obj) (kvs:List (Key × V)):It :=
 ⟨fun i H=>H a=some (.frz o (.dK kvs))∧i < kvs.length,fun i H x H'=>H'=H∧∃k v,kvs[i]? = some (k,v)∧x=kV k,fun i H=>H a=some (.frz o (.dK kvs))∧kvs.length≤i⟩
theorem KV.get {vs:List (Key × Value)} (r:KV kvs vs) : ∀{i:Nat} {k:Key} {v:V},kvs[i]? = some (k,v)→∃u,vs[i]? = some (k,u)∧aX v u:=by
 unfold KV at r
 induction r with
 | nil=>intro i k v h;simp at h
 | @cons p q ps qs h _ ih =>
  intro i k v e;cases i with
  | zero =>
   simp at e
   subst e;obtain⟨k',u⟩:=q;obtain⟨h1,h2⟩:=h;dsimp only at h1 h2;subst h1;exact⟨u,by simp,h2⟩
  | succ i =>
   simp at e
   obtain⟨u,h1,h2⟩:=ih e;exact⟨u,by simpa using h1,h2⟩
theorem wO {k:Key} {key:Value} (h:(aU P w).is k key=true):aX (kV k) key:=by
 rcases bz (k:=k) (v:=key) h with⟨i,t,rfl,rfl⟩ | ⟨x,t,rfl,rfl⟩
 ·exact⟨t,rfl⟩
 ·exact⟨t,rfl⟩
theorem zV (a it:Addr) (o:Obj) (kvs:List (Key × V)) (ep:Nat) (hep : ∃es,o.data = .dict es ep):xi P w K tg (Itd a o kvs) [it] it (fun i h=>h.IsKeyIter it a i kvs.length ep) where
 mem:=by simp
 obj:=fun i h st b hb=>by
  have e:b=it:=by simpa using hb
  subst e;obtain⟨ob,e,c,d⟩:=st;exact⟨ob,e,fun v z=>by rw[d] at z;cases z⟩
 keep:=fun i h h' st k=>st.at fun ob e=>k it (by simp) ob e
 item:=by
  intro X hP hw hK hc i pins s σ H E I hf st hg;subst hP hw hK;obtain⟨ha,hi⟩:=hg;obtain⟨ho,hz,hd,vs,rel,od,es,ep',hod,hr⟩:=(show s.heap.get? a=some o∧be X.prog X.w H s.heap a (.dK kvs) from I.hok a _ ha)
  rw[ho] at hod;cases hod;obtain⟨es0,he0⟩:=hep;have eep:ep'=ep:=by
   have:=hr.2.1
   rw[he0] at this;cases this;rfl
  subst eep;have hlen:=rel.length;obtain⟨k,v,hkv⟩ : ∃k v,kvs[i]? = some (k,v):=⟨kvs[i].1,kvs[i].2,by simp[hi]⟩
  obtain⟨u,hu,ru⟩:=rel.get hkv;obtain⟨f0,f1,f2,f3,f4,f5⟩:=hf it (by simp)
  have st':s.heap.IsKeyIter it a i vs.length ep':=by rw[← hlen];exact st
  refine wpAny_pyNext_dict_item (knd:=aU X.prog X.w) (v:=u) st' ⟨o,es,ho,hr⟩ hu fun key h' hk st2 sb=>?_
  have I1:Inv X pins σ H { s with heap:=h' }:=I.turned (t':=s.toks) (fun b ob hb e=>(sb.2 b hb).trans e) f0 f1 f3 f4 f5
  rw[← hlen] at st2;obtain⟨ob,e,c,d⟩:=id st2;exact⟨key,rfl,wz (s:={ s with heap:=h' }) e c d (by decide) ⟨kV k,H,I1,wO hk,⟨rfl,k,v,hkv,rfl⟩,st2,fun b hb=>(hf b hb).1⟩⟩
 done:=by
  intro X hP hw hK hc i pins s σ H E I hf st hg;subst hP hw hK;obtain⟨ha,hi⟩:=hg;obtain⟨ho,hz,hd,vs,rel,od,es,ep',hod,hr⟩:=(show s.heap.get? a=some o∧be X.prog X.w H s.heap a (.dK kvs) from I.hok a _ ha)
  rw[ho] at hod;cases hod;obtain⟨es0,he0⟩:=hep;have eep:ep'=ep:=by
   have:=hr.2.1
   rw[he0] at this;cases this;rfl
  subst eep;have hlen:=rel.length;obtain⟨f0,f1,f2,f3,f4,f5⟩:=hf it (by simp)
  have st':s.heap.IsKeyIter it a i vs.length ep':=by rw[← hlen];exact st
  exact wpAny_pyNext_dict_end (knd:=aU X.prog X.w) (I.ok.hd hc) st' ⟨o,es,ho,hr⟩ (List.getElem?_eq_none_iff.mpr (by omega)) fun h' eb=>⟨rfl,I.turned (t':=s.toks) (fun b ob hb e=>eb b ob hb e) f0 f1 f3 f4 f5⟩
 self:=fun _ _ _ _ _ st h=>wpAny_pyIter_keyiter st h
theorem me {o:Obj}:Wlk (Itd a o kvs) (kvs.map fun x=>kV x.1) (fun H=>H a=some (.frz o (.dK kvs))) :=
 ⟨fun i H h hi=>⟨h,by simpa using hi⟩,fun i H x H' h _ y=>by
  obtain⟨e,k,v,hk,rfl⟩:=y;exact⟨by rw[List.getElem?_map,hk];rfl,e⟩,fun i H h hi=>⟨h,by simpa using hi⟩⟩
noncomputable def iD (tl:TE):TI:=fun σ H R=>tl σ H fun x H1=>∃a,x = .ref a∧∃kvs,H1 a=some (.dK kvs)∧∀o,R (Itd a o kvs) (upd H1 a (.frz o (.dK kvs)))
theorem yK {l:Expr} (hl:PE X l tl):PI X tg l (iD tl):=by
 intro pins s σ H R I h;refine thn (hl pins s σ H _ I h) fun v s1 zr4956=>?_
 obtain⟨x,H1,I1,r1,a,e,kvs,hq,q⟩:=zr4956;subst e;cases r1;obtain⟨hz,hd,vs,rel,od,es,ep,hod,hr⟩:=jG I1.hok hq;refine wpAny_pyIter_dict (knd:=aU X.prog X.w) hd ⟨od,es,hod,hr⟩ ?_
 have hn : ∀ob u,X.H₀ a≠some (.frz ob u):=fun ob u e=>by have:=I1.base.frzs a ob u e;rw[hq] at this;cases this
 have I2:Inv X pins σ H1 { s1 with heap:=s1.heap.push { cls:=.type "dict_keyiterator",data:=.fields #[.ref a,.int 0 0,.int vs.length 0,.int ep 0] } }:=I1.kept (t':=s1.toks) fun b o e=>Heap.get?_push_of_some _ e
 have ok2:=I2.hok a _ hq;have I3:=I2.retag (o':=.frz od (.dK kvs)) hq (by intro y z;cases z) (by intro y z;cases z) hn (by intro y z;cases z) ⟨Heap.get?_push_of_some _ hod,ok2⟩
 have hlen:=rel.length;refine⟨s1.heap.objs.size,[s1.heap.objs.size],_,_,_,rfl,I3,zV a _ od kvs ep ⟨es,hr.2.1⟩,⟨_,Heap.get?_push_size _ rfl,rfl,by rw[hlen];rfl⟩,fun b hb=>?_,q od⟩
 have e:b=s1.heap.objs.size:=by simpa using hb
 subst e;have hfr:H1 s1.heap.objs.size=none:=I1.hok.fresh (le_refl _)
 obtain⟨f0,f1,f2,f3,f4,f5⟩:=I1.fpOk (le_refl _) hfr;exact⟨by rw[ag (fun z=>by rw[z,hq] at hfr;cases hfr)];exact hfr,f1,f2,f3,f4,f5⟩
noncomputable def DZ (a:Addr) (kvs:List (Key × V)) (D:ll):ll where
 nx:=fun σ H=>(∃o,H a=some (.frz o (.dK kvs)))∧D.nx σ (upd H a (.dK kvs))
 rt:=fun v H=>(∃o,H a=some (.frz o (.dK kvs)))∧D.rt v (upd H a (.dK kvs))
 bk:=fun σ H=>(∃o,H a=some (.frz o (.dK kvs)))∧D.bk σ (upd H a (.dK kvs))
 ct:=fun σ H=>(∃o,H a=some (.frz o (.dK kvs)))∧D.ct σ (upd H a (.dK kvs))
noncomputable def vQ (t:TS):TS:=fun D σ H=>∃a kvs,H a=some (.dK kvs)∧t (DZ a kvs D) σ H
theorem rD {t:TS} (h:PS X st t):PS X st (vQ t):=by
 intro pins s σ H D I ⟨a,kvs,ha,ht⟩;have hn : ∀ob u,X.H₀ a≠some (.frz ob u):=fun ob u e=>by have:=I.base.frzs a ob u e;rw[ha] at this;cases this
 have thaw : ∀{σ' H' s'},Inv X pins σ' H' s'→(∃o,H' a=some (.frz o (.dK kvs)))→Inv X pins σ' (upd H' a (.dK kvs)) s':=fun {σ' H' s'} I' ⟨o,e⟩ =>
  I'.retag e (by intro y z;cases z) (by intro y z;cases z) hn (by intro y z;cases z) (show s'.heap.get? a=some o∧be X.prog X.w H' s'.heap a (.dK kvs) from I'.hok a _ e).2
 refine thn (h pins s σ H _ I ht) fun f s' hq=>?_
 cases f with
 | next=>obtain⟨σ',H',I',e,q⟩:=hq;exact⟨σ',_,thaw I' e,q⟩
 | brk=>obtain⟨σ',H',I',e,q⟩:=hq;exact⟨σ',_,thaw I' e,q⟩
 | cont=>obtain⟨σ',H',I',e,q⟩:=hq;exact⟨σ',_,thaw I' e,q⟩
 | ret u=>obtain⟨v,σ',H',I',r,e,q⟩:=hq;exact⟨v,σ',_,thaw I' e,r,q⟩
theorem Inv.turnedNew {g:Heap} (I:Inv X pins σ H s) (k : ∀b o,b∉fp→s.heap.get? b=some o→g.get? b=some o) (hf : ∀b∈fp,oP X pins H b) (ha:s.heap.objs.size≤a)
  (ok:be X.prog X.w (upd H a u0) g a u0):Inv X pins σ (upd H a u0) { s with heap:=g,toks:=t' }:=by
 have nit : ∀b u,H b=some u→b∉fp:=fun b u e z=>by rw[(hf b z).1] at e;cases e
 have na : ∀b o,s.heap.get? b=some o→b≠a:=fun b o e z=>by rw[z] at e;exact absurd (lt_of_lt_of_le (Heap.lt_size e) ha) (lt_irrefl _)
 have hn:H a=none:=I.hok.fresh ha
 have nH : ∀b u,H b=some u→b≠a:=fun b u e z=>by rw[z,hn] at e;cases e
 refine I.step (g':=s.gens) (d':=s.drawn) (ch:=fp) (fun b hb=>⟨(hf b hb).2.2.2.1,(hf b hb).2.1,(hf b hb).2.2.2.2.1,(hf b hb).2.2.2.2.2⟩) (fun b o _ _ hc e _=>k b o hc e) (fun b o _ _ hc e _=>⟨o.slots,k b o hc e⟩) (fun b o _ e n=>by rw[ag (na b o e)];exact n)
  (fun b o hc e=>⟨o,k b o hc e⟩) (fun b xs e=>by rw[ag (nH b _ e)];exact e) (fun b o u e=>by rw[ag (nH b _ e)];exact e) (fun b ps e=>⟨#[],by rw[ag (nH b _ e),e];simp⟩) (fun m hm=>?_) (fun b u e=>?_) I.bare
 ·obtain⟨o,es,ep,ho,r⟩:=hm
  exact⟨o,es,ep,k _ o (fun z=>(hf _ z).2.1 rfl) ho,r⟩
 ·by_cases hb:b=a
  ·subst hb
   rw[ab] at e;cases e;exact ok
  ·rw[ag hb] at e
   refine(I.hok b u e).stay (fun c v hc q=>k c v ?_ q) (fun c q=>by rw[ag (nH c _ q)];exact q) (fun c xs q=>by rw[ag (nH c _ q)];exact q) fun c _ _ q=>by rw[ag (nH c _ q)];exact q
   rcases hc with z | z
   ·rw[z];exact nit b u e
   ·exact nit c _ z
section
variable {e2:Expr} {ta:TA} {p:Pos} {x1:Nat}
theorem dq {i:Nat} (hi:i < nt:=by decide) (hj:j < nt:=by decide) (hij:i≠j:=by decide):zC (wR n (rV (eV i) (rV (eV j) AO))) nt:=by
 intro x σ0 H Q h q;obtain⟨a,e,xs,sq,l,v,r,e2,v',r',e3,e4,q⟩:=q;refine⟨a,e,xs,sq,l,v,r,e2,v',r',e3,e4,(Wk.set (h i hi)).trans (Wk.set ?_),q⟩
 rw[List.getElem?_set_ne hij];exact h j hj
end
end L2
namespace PyProof.Rows
open PySem PySem.Spec
theorem kO {Q:List Value→Shared→Prop} (ht:s.heap.IsTuple t us.toArray) (hn:us.length≤1000)
  (k:Q us { s with heap:=(s.heap.push (seqObj "list" #[] 0)).update s.heap.objs.size (Obj.mapSeq (· ++ us.toArray)) }):wpAny (model prog w) A (collect (.ref t)) Q E s:=by
 obtain⟨ot,h1,h2,n,h3⟩:=id ht;unfold collect;refine wpAny_bind (wpAny_runValue (codeAny_builtin entry_proto_collect' ?_))
 change wpAny _ _ (do again (.builtin "list.__iadd__" ⟨[← newList [],.ref t],[]⟩)) _ _ s;refine wpAny_bind (wpAny_newList (wpAny_pure ⟨Code.quiet_builtin _ (by decide+kernel),codeAny_builtin entry_list_iadd' ?_⟩))
 change wpAny _ _ (Builtin.List.listExtendWith (.ref s.heap.objs.size) (.ref t) (.ref s.heap.objs.size)) _ _ { s with heap:=s.heap.push (seqObj "list" #[] 0) }
 unfold Builtin.List.listExtendWith;have h1':(s.heap.push (seqObj "list" #[] 0)).get? t=some ot:=Heap.get?_push_of_some _ h1
 refine wpAny_bind (wpAny_typeOf (T := "tuple") ⟨ot,h1',h2⟩ ?_)
 have q1:(Value.type "tuple" == Value.type "tuple")=true:=by rfl
 rw[if_pos (by rw[q1];simp)]
 refine wpAny_bind (listItems_at h1' h3 (wpAny_bind (listItems_at (xs := #[]) (n:=0) (Heap.get?_push_size _ rfl) rfl ?_)))
 rw[if_neg (by simp)]
 have hz:us.length≤sizeLine:=le_trans hn (by decide)
 refine wpAny_bind (listUpdate_at (xs := #[]) (n:=0) (Heap.get?_push_size _ rfl) rfl (wpAny_pure ?_) (zero_le _) (by show(#[]++us.toArray).size≤sizeLine+1;simp only[Array.size_append,size_toArray,length_nil];omega))
 refine wpAny_bind (m:=load s.heap.objs.size) (wpAny_load (get?_update_seq (Heap.get?_push_size _ rfl) _) ?_)
 change wpAny _ _ (pure ((#[]:Array Value)++us.toArray).toList) Q E _;rw[show((#[]:Array Value)++us.toArray).toList=us by simp]
 exact wpAny_pure k
theorem qu (ht:s.heap.IsTuple t us.toArray) (hi:IntsAre us ns) (hl:us.length < 64)
  (k : ∀(out:Array Value) (ms:List Int),IntsAre out.toList ms→ms.Perm ns→ms.Pairwise (·≤·)→Q (.ref (s.heap.objs.size+1)) { s with heap:=sortedAll s.heap us out }) :
  wpAny (model prog w) A (call (.builtin "sorted") [.ref t]) Q E s:=by
 refine Calls.call_function_entry kind_sorted plain_sorted entry_sorted (args_sorted1 _) ?_
 unfold Builtin.«sorted»;refine wpAny_bind (m:=checkCount "sorted" 1 1 _) (wpAny_pure (wpAny_bind (kO ht (by omega) (wpAny_bind (wpAny_newList ?_)))))
 have n1:((s.heap.push (seqObj "list" #[] 0)).update s.heap.objs.size (Obj.mapSeq (· ++ us.toArray))).objs.size=s.heap.objs.size+1:=by rw[Heap.size_update,size_push']
 have g1:(((s.heap.push (seqObj "list" #[] 0)).update s.heap.objs.size (Obj.mapSeq (· ++ us.toArray))).push (seqObj "list" us.toArray 0)).get? (s.heap.objs.size+1)=some (seqObj "list" us.toArray 0):=by rw[← n1];exact Heap.get?_push_size _ rfl
 change wpAny _ _ _ _ _ { s with heap:=((s.heap.push (seqObj "list" #[] 0)).update s.heap.objs.size (Obj.mapSeq (· ++ us.toArray))).push (seqObj "list" us.toArray 0) }
 rw[n1];refine wpAny_bind (wpAny_holding (wpAny_call_entry slot_list_sort ⟨_,g1,rfl⟩ entry_list_sort (list_sort_tree g1 hi hl fun out ms a1 a2 a3=>⟨_,rfl,wpAny_pure ⟨_,rfl,k out ms a1 a2 a3⟩⟩) (args_list_sort _)))
end PyProof.Rows
namespace L2
open PySem PySem.Spec PyProof.Rows
noncomputable def nh:List V→Hp→VK→Prop:=fun xs H Q=>∃p,xs=[.ref p]∧∃ns:List Int,H p=some (.tup (ns.map V.int))∧ns.length < 64∧∀(q:Addr) (ms:List Int),H q=none→ms.Perm ns→ms.Pairwise (·≤·)→Q (.ref q) (upd H q (.lst (ms.map V.int)))
theorem dU:bC X (.builtin "sorted") nh:=by
 intro pins s σ H xs us Q I r h;obtain⟨p,rfl,ns,hp,hl,q⟩:=h;obtain⟨u,rfl,ru⟩:=cS r;cases ru;obtain⟨its,rv,pl,hz⟩:=I.tuple (SqT.of hp);have hlen:=rv.length;rw[length_map] at hlen;refine qu (show s.heap.IsTuple p its.toArray from pl) (cQ rv) (by omega) fun out ms hms hperm hpw=>?_
 obtain⟨e,he⟩:=sortedAll_at s.heap its out;have hout:out=out.toList.toArray:=by simp
 refine⟨.ref (s.heap.objs.size+1),_,I.laid (a:=s.heap.objs.size+1) (o:=.lst (ms.map V.int)) (t':=s.toks) (fun b o e=>sortedAll_old e) (le_succ _) ⟨?_,out.toList,e,ix hms,by rw[he]⟩,rfl,q _ ms (I.hok.fresh (le_succ _)) hperm hpw⟩
 rw[length_map,hperm.length_eq];exact le_of_lt (ax (by omega))
noncomputable def zJ:List V→Hp→VK→Prop:=fun xs H Q=>∃p,xs=[.ref p]∧∃ns:List Int,H p=some (.lst (ns.map V.int))∧ns≠[]∧∀m,m∈ns→(∀x∈ns,m≤x)→Q (.int m) H
noncomputable def zA:List V→Hp→VK→Prop:=fun xs H Q=>∃p,xs=[.ref p]∧∃ns:List Int,H p=some (.lst (ns.map V.int))∧ns≠[]∧∀m,m∈ns→(∀x∈ns,x≤m)→Q (.int m) H
theorem AW {xs:Array (Int × Tok)} (hns:ns=xs.toList.map (·.1)) (h0:0 < xs.size):numAt xs (argBest (fun i j=>decide (numAt xs i < numAt xs j)) (xs.size - 1))∈ns∧∀a∈ns,numAt xs (argBest (fun i j=>decide (numAt xs i < numAt xs j)) (xs.size - 1))≤a:=by
 obtain⟨h1,h2⟩:=argBest_lt (numAt xs) (xs.size - 1);refine⟨?_,fun a ha=>?_⟩
 ·rw[hns,numAt_eq];exact PySem.getD_mem (by rw[length_map,length_toList];omega)
 ·rw[hns] at ha
  obtain⟨j,hj,rfl⟩:=mem_getD ha;rw[length_map,length_toList] at hj;rw[← numAt_eq];exact h2 j (by omega)
theorem AJ {xs:Array (Int × Tok)} (hns:ns=xs.toList.map (·.1)) (h0:0 < xs.size):numAt xs (argBest (fun i j=>decide (numAt xs i > numAt xs j)) (xs.size - 1))∈ns∧∀a∈ns,a≤numAt xs (argBest (fun i j=>decide (numAt xs i > numAt xs j)) (xs.size - 1)):=by
 obtain⟨h1,h2⟩:=argBest_gt (numAt xs) (xs.size - 1);refine⟨?_,fun a ha=>?_⟩
 ·rw[hns,numAt_eq];exact PySem.getD_mem (by rw[length_map,length_toList];omega)
 ·rw[hns] at ha
  obtain⟨j,hj,rfl⟩:=mem_getD ha;rw[length_map,length_toList] at hj;rw[← numAt_eq];exact h2 j (by omega)
theorem lY (hi:IntsAre its ns) (hne:ns≠[]) : ∃xs:Array (Int × Tok),its.toArray=intItems xs∧ns=xs.toList.map (·.1)∧0 < xs.size:=by
 obtain⟨xs,e⟩:=hi.allInts.items;have hns:ns=xs.toList.map (·.1):=by rw[← hi.numsOf,← nums_intItems,← e]
 refine⟨xs,e,hns,?_⟩
 have h3:=length_pos_iff.mpr hne;rw[hns,length_map,length_toList] at h3;exact h3
theorem xt (hc:X.calm=true):bC X (.builtin "min") zJ:=by
 intro pins s σ H xs us Q I r h;obtain⟨p,rfl,ns,hp,hne,q⟩:=h;obtain⟨u,rfl,ru⟩:=cS r;cases ru;obtain⟨its,rv,pl,hz⟩:=I.list (SqL.of hp);obtain⟨xs,e,hns,h0⟩:=lY (cQ rv) hne;have pl':=pl.isList;rw[e] at pl';refine min_intList (I.ok.hd hc) pl' h0 fun v g tk hv hk=>?_
 obtain⟨t,rfl⟩:=intItems_at hv;obtain⟨b1,b2⟩:=AW hns h0;exact⟨V.int _,H,I.kept (t':=tk) hk,⟨t,rfl⟩,q _ b1 b2⟩
theorem xj (hc:X.calm=true):bC X (.builtin "max") zA:=by
 intro pins s σ H xs us Q I r h;obtain⟨p,rfl,ns,hp,hne,q⟩:=h;obtain⟨u,rfl,ru⟩:=cS r;cases ru;obtain⟨its,rv,pl,hz⟩:=I.list (SqL.of hp);obtain⟨xs,e,hns,h0⟩:=lY (cQ rv) hne;have pl':=pl.isList;rw[e] at pl';refine max_intList (I.ok.hd hc) pl' h0 fun v g tk hv hk=>?_
 obtain⟨t,rfl⟩:=intItems_at hv;obtain⟨b1,b2⟩:=AJ hns h0;exact⟨V.int _,H,I.kept (t':=tk) hk,⟨t,rfl⟩,q _ b1 b2⟩
noncomputable def uY (H:Hp) (p:Addr) (ys:List V):Prop:=H p=some (.lst ys)∨H p=some (.tup ys)
noncomputable def qx:List V→Hp→VK→Prop:=fun xs H Q=>∃p,xs=[.ref p]∧∃ys,uY H p ys∧∀l,H l=none→Q (.ref l) (upd H l (.lst ys))
theorem iP:bC X (.type "list") qx:=jo.imp fun _ _ _ zq28=>by obtain⟨p,e,ys,h,q⟩:=zq28;exact(⟨p,ys,e,h.imp .of .of,q⟩)
noncomputable def inD (d:PyData) (ds:List PyData):Bool:=ds.any fun e=>PyData.eqv e d
noncomputable def Bw (K:PySem.W.Frag) (neg:Bool):R2:=fun x y H Q=>∃dx ds,Rep K H x dx∧Rep K H y (.list ds)∧dx.canLay0=true∧PyData.canLayAll0 ds=true∧dx.depth≤100∧Q (.bl (if neg then !inD dx ds else inD dx ds)) H
theorem jb (hu:X.A.units+102 < cLine):OpR X (compareOp .NotIn) (Bw X.K true):=by
 intro pins s σ H x y v u Q I rx ry h;obtain⟨dx,ds,h1,h2,h3,h4,h5,q⟩:=h;obtain⟨as,r1⟩:=I.reads h1 rx;obtain⟨bs,r2⟩:=I.reads h2 ry;exact PySem.SeqAt.notIn_list_reads r2 r1 h4 h3 (by omega) ⟨.bl _,H,I,rfl,q⟩
theorem rN (hr:cu k A):A.units+102 < cLine:=by have:=hr.un;omega
theorem lay_ints : ∀ns:List Int,PyData.canLayAll0 (ns.map PyData.int)=true
 | []=>rfl
 | n :: ns=>by
  rw[map_cons];unfold PyData.canLayAll0;rw[lay_ints ns];rfl
theorem depth_ints : ∀ns:List Int,PyData.depthAll (ns.map PyData.int)=0
 | []=>rfl
 | n :: ns=>by
  rw[map_cons];unfold PyData.depthAll;rw[depth_ints ns];rfl
noncomputable def eO (r:List Int):PyData:=.tuple (r.map PyData.int)
theorem eS (r:List Int):(eO r).canLay0=true:=by unfold eO PyData.canLay0;exact lay_ints r
theorem iu (r:List Int):(eO r).depth≤1:=by unfold eO PyData.depth;rw[depth_ints];decide
theorem kM : ∀(a b:List Int),PyData.eqvAll (a.map PyData.int) (b.map PyData.int)=decide (a=b)
 | [],[]=>rfl
 | [],_ :: _=>by simp[PyData.eqvAll]
 | _ :: _,[]=>by simp[PyData.eqvAll]
 | x :: a,y :: b=>by
  rw[map_cons,map_cons];unfold PyData.eqvAll;rw[kM a b];have:PyData.eqv (.int x) (.int y)=decide (x=y):=by
   simp only[PyData.eqv];rw[Bool.eq_iff_iff];simp
  rw[this]
  by_cases h:x=y <;> by_cases h2:a=b <;> simp[h,h2]
theorem qi (a b:List Int):PyData.eqv (eO a) (eO b)=decide (a=b):=by
 unfold eO;unfold PyData.eqv;exact kM a b
theorem sv : ∀rs:List (List Int),PyData.canLayAll0 (rs.map eO)=true
 | []=>rfl
 | r :: rs=>by
  rw[map_cons];unfold PyData.canLayAll0;rw[sv rs,eS];rfl
theorem yZ (r:List Int) (rs:List (List Int)):inD (eO r) (rs.map eO)=decide (r∈rs):=by
 unfold inD
 induction rs with
 | nil=>rfl
 | cons q rs ih =>
  rw[map_cons,any_cons,ih,qi]
  by_cases h:q=r
  ·simp[h]
  ·simp[h]
   exact fun e=>absurd e.symm h
noncomputable def dn (H:Hp) (vs:List V) (rows:List (List Int)):Prop:=∃as:List (Addr × List Int),vs=as.map (fun x=>V.ref x.1)∧rows=as.map (·.2)∧∀x∈as,H x.1=some (.tup (x.2.map V.int))
theorem dn.nil:dn H [] []:=⟨[],rfl,rfl,fun x hx=>by simp at hx⟩
theorem dn.keep (h:dn H vs rows) (k : ∀a xs,H a=some (.tup xs)→H' a=some (.tup xs)):dn H' vs rows:=by
 obtain⟨as,h1,h2,h3⟩:=h;exact⟨as,h1,h2,fun x hx=>k _ _ (h3 x hx)⟩
theorem dn.snoc {r:List Int} (h:dn H vs rows) (ht:H t=some (.tup (r.map V.int))):dn H (vs++[.ref t]) (rows++[r]):=by
 obtain⟨as,h1,h2,h3⟩:=h;refine⟨as++[(t,r)],by simp[h1],by simp[h2],fun x hx=>?_⟩
 rcases mem_append.mp hx with z | z
 ·exact h3 x z
 ·rw[mem_singleton.mp z];exact ht
theorem dn.length {H:Hp} {vs:List V} {rows:List (List Int)} (h:dn H vs rows):vs.length=rows.length:=by
 obtain⟨as,h1,h2,h3⟩:=h;rw[h1,h2,length_map,length_map]
theorem dn.reps (h:dn H vs rows):cp K H vs (rows.map eO):=by
 obtain⟨as,rfl,rfl,h3⟩:=h
 induction as with
 | nil=>exact .nil
 | cons x as ih=>exact .cons (.tup (.of (h3 x (by simp))) (cp.ints _)) (ih fun y hy=>h3 y (by simp[hy]))
theorem uD {w:Addr} {r:List Int} {Q:VK} (ht:H t=some (.tup (r.map V.int))) (hw:H w=some (.lst vs)) (hr:dn H vs rows) (q:Q (.bl (!decide (r∈rows))) H):Bw K true (.ref t) (.ref w) H Q :=
 ⟨eO r,rows.map eO,.tup (.of ht) (cp.ints r),.lst (.of hw) hr.reps,eS r,sv rows,le_trans (iu r) (by decide),by rw[yZ];exact q⟩
end L2
namespace PySem
open Sem (wp)
theorem bp : ∀(names:List (Str × NameKind)) (n:Nat) (acc:List (Str × Addr)),cellsFrom n names acc=cellsFrom n names []++acc
 | [],n,acc=>rfl
 | (x,k) :: r,n,acc=>by
  unfold cellsFrom
  split
  ·rw[bp r (n+1) ((x,n) :: acc),bp r (n+1) [(x,n)]]
   simp
  ·exact bp r n acc
theorem dA : ∀(names:List (Str × NameKind)) (n:Nat) (x:Str) (c:Addr),(x,c)∈cellsFrom n names []→(x,NameKind.cell)∈names
 | [],n,x,c,h=>absurd h (by simp[cellsFrom])
 | (y, k) :: r,n,x,c,h=>by
  unfold cellsFrom at h
  split at h
  ·rename_i hk
   rw[bp] at h;rcases mem_append.mp h with q | q
   ·exact mem_cons_of_mem _ (dA r (n+1) x c q)
   ·have e:(x,c)=(y,n):=by simpa using q
    cases e;have:k = .cell:=by simpa using hk
    subst this;exact mem_cons_self
  ·exact mem_cons_of_mem _ (dA r n x c h)
theorem jj {l:List (Str × Addr)}:(x,c)∈l→(l.lookup x).isSome=true:=by
 induction l with
 | nil=>intro h;exact absurd h (by simp)
 | cons p r ih =>
  intro h;rw[lookup_cons];cases hb:x == p.1 with
  | true=>rfl
  | false =>
   rcases mem_cons.mp h with q | q
   ·subst q;simp at hb
   ·exact ih q
theorem fe : ∀(names:List (Str × NameKind)) (n:Nat) (x:Str),(x,NameKind.cell)∈names→∃c,(x,c)∈cellsFrom n names []
 | [],n,x,h=>absurd h (by simp)
 | (y, k) :: r,n,x,h=>by
  unfold cellsFrom;rcases mem_cons.mp h with q | q
  ·cases q
   simp only[beq_self_eq_true,if_true];rw[bp];exact⟨n,mem_append_right _ (by simp)⟩
  ·split
   ·rw[bp]
    obtain⟨c,hc⟩:=fe r (n+1) x q;exact⟨c,mem_append_left _ hc⟩
   ·exact fe r n x q
theorem mX {l r:List (Str × Addr)} (h:(l++r).lookup x=some c):l.lookup x=some c∨(l.lookup x=none∧r.lookup x=some c):=by
 induction l with
 | nil=>exact .inr ⟨rfl,h⟩
 | cons p t ih =>
  rw[cons_append,lookup_cons] at h;rw[lookup_cons];cases hb:x == p.1 with
  | true=>rw[hb] at h;exact .inl h
  | false=>rw[hb] at h;exact ih h
theorem qt {l r:List (Str × Addr)} (h0:l.lookup x=none) (h:r.lookup x=some c):(l++r).lookup x=some c:=by
 induction l with
 | nil=>exact h
 | cons p t ih =>
  rw[lookup_cons] at h0;rw[cons_append,lookup_cons];cases hb:x == p.1 with
  | true=>rw[hb] at h0;cases h0
  | false=>rw[hb] at h0;exact ih h0
theorem qw {l r:List (Str × Addr)} (h:l.lookup x=some c):(l++r).lookup x=some c:=by
 induction l with
 | nil=>cases h
 | cons p t ih =>
  rw[lookup_cons] at h;rw[cons_append,lookup_cons];cases hb:x == p.1 with
  | true=>rw[hb] at h;exact h
  | false=>rw[hb] at h;exact ih h
theorem eB {globals:Addr} {code:Value} {around:Env} {builtins:Addr} {Q:Env→Shared→Prop}
  (hQ:(pushCells (s.heap.push { cls:=.type "dict",data:=.dict #[] }) scope.names).Ns s.heap.objs.size (fun _=>none) →
   Q (newEnv scope s.heap.objs.size globals (cellsFrom (s.heap.objs.size+1) scope.names closure) qual func code (some around) builtins) { s with heap:=pushCells (s.heap.push { cls:=.type "dict",data:=.dict #[] }) scope.names }) :
  wpAny M A (newFunctionEnv scope globals closure [] qual func code (some around) builtins) Q E s:=by
 simp only[newFunctionEnv,isSome_some,if_true];simp only[newEnv] at hQ;refine wpAny_bind (wpAny_alloc ?_)
 refine wpAny_bind (wpAny_layCells _ (fun name kind cells=>by cases hkc:kind == NameKind.cell <;> simp[hkc]) _ _ _ _ ?_)
 rw[show({ s with heap:=s.heap.push { cls:=.type "dict",data:=.dict #[] } }:Shared).heap.objs.size=s.heap.objs.size+1 from Heap.size_push ..]
 exact wpAny_bind (wpAny_pure (wpAny_pure (hQ ((Heap.Ns.new s.heap (.type "dict")).keeps (pushCells_keeps _ _)))))
end PySem
namespace L2
open PySem PySem.Spec PyProof.Rows
noncomputable def ce (X:Cx) (scope:Scope) (N:List Str) (cl:List (Str × Addr)) (C:Addr) (fp:List Addr) (s:Shared) (H:Hp) (xe:Value→Shared→Prop):Cx where
 prog:=X.prog
 w:=X.w
 K:=X.K
 mg:=X.mg
 base:=X.base
 A:=X.A
 N:=N
 s₀:=s
 H₀:=H
 env:=compEnvC scope cl C X.env
 outer:=X.stack
 stack:=X.stack
 ex:=fp
 fn:=fun x=>scope.names.lookup x == some .cell
 calm:=X.calm
 pn:=[]
 xe:=xe
theorem ES {C:Addr}:(ce X sc N cl C fp s H xe).K=X.K:=rfl
structure jI (X:Cx) (scope:Scope) (N:List Str) (nt:Nat) (js:List Nat):Prop where
 kind:scope.kind = .function
 nd:N.Nodup
 len:N.length=nt+js.length
 at_ : ∀(k:Nat) (j:Nat) (x:Str),js[k]? = some j→N[nt+k]? = some x→X.N[j]? = some x∧(X.env.scope.names.lookup x=some .cell∨X.env.scope.names.lookup x=some .free)
 frl : ∀(k:Nat) (x:Str),N[nt+k]? = some x→scope.names.lookup x=some .free
 own : ∀y∈scope.names,y.2 = .cell→scope.names.lookup y.1=some .cell
 loc : ∀y∈scope.names,y.2 = .local→scope.names.lookup y.1=some .local
 free : ∀y∈scope.names,y.2 = .free→X.env.scope.names.lookup y.1=some .cell∨X.env.scope.names.lookup y.1=some .free
theorem cH : ∀{names:List (Str × NameKind)} {x:Str} {k:NameKind},names.lookup x=some k→(x,k)∈names
 | [],_,_,h=>by simp at h
 | (n,k') :: r,x,k,h=>by
  rw[lookup_cons] at h;cases hb:x == n with
  | true=>rw[hb] at h;cases h;rw[beq_iff_eq.mp hb];exact mem_cons_self
  | false=>rw[hb] at h;exact mem_cons_of_mem _ (cH h)
theorem oH : ∀{names:List (Str × NameKind)} {x:Str},((names.map fun(n,k)=>if (k == NameKind.free && env.scope.kind == .function && env.kindOf n == some .cell) then(n,NameKind.cell) else(n,k)).lookup x=some .cell∨(names.map fun(n,k)=>if (k == NameKind.free && env.scope.kind == .function && env.kindOf n == some .cell) then(n,NameKind.cell) else(n,k)).lookup x=some .free) →
  (x,NameKind.free)∈names∨(x,NameKind.cell)∈names:=by
 intro names x h;have key : ∀k',(names.map fun(n,k)=>if (k == NameKind.free && env.scope.kind == .function && env.kindOf n == some .cell) then(n,NameKind.cell) else(n,k)).lookup x=some k'→(k' = .cell∨k' = .free)→(x,NameKind.free)∈names∨(x,NameKind.cell)∈names:=by
  intro k' e hk;obtain⟨⟨n,k⟩,hm,hp⟩:=mem_map.mp (cH e);dsimp only at hp
  by_cases q:(k == NameKind.free && env.scope.kind == .function && env.kindOf n == some .cell)=true
  ·rw[if_pos q] at hp
   cases hp;simp only[Bool.and_eq_true,beq_iff_eq] at q;rw[q.1.1] at hm;exact .inl hm
  ·rw[if_neg q] at hp
   cases hp;rcases hk with z | z
   ·subst z;exact .inr hm
   ·subst z;exact .inl hm
 rcases h with h | h
 ·exact key _ h (.inl rfl)
 ·exact key _ h (.inr rfl)
theorem sR {C:Addr} {m:Str→Option Value}
  (S:jI X scope N nt js) (I:Inv X pins σ H s) (hf : ∀b∈fp,oP X pins H b) (hcl : ∀x c,cl.lookup x=some c→X.env.cells.lookup x=some c) (hcl2 : ∀x,(x,NameKind.free)∈scope.names→(cl.lookup x).isSome=true)
  (hnew : ∀x c,(x,c)∈cellsFrom (C+1) scope.names []→h'.IsCell c none∧C+1≤c) (hap:(cellsFrom (C+1) scope.names []).Pairwise fun x y=>x.2≠y.2) (hfr : ∀c,C≤c→H1 c=none)
  (hfp : ∀b∈fp,b < s.heap.objs.size) (hC:s.heap.objs.size≤C) (k : ∀b o,s.heap.get? b=some o→h'.get? b=some o) (hs : ∀b o,H b=some o→H1 b=some o) (hs2 : ∀b,H b=none→b < s.heap.objs.size→H1 b=none) (hok:HOk X.prog X.w H1 h') (hn:h'.Ns C m)
  (hm : ∀x,m x=none) :
  Inv (ce X scope N (cellsFrom (C+1) scope.names cl) C fp s H xe) [] (dB nt js σ) H1 { s with heap:=h',toks:=tk }:=by
 have hfs : ∀b∈fp,b∉frs X.stack:=fun b hb z=>by
  obtain⟨f0,f1,f2,_⟩:=hf b hb;rcases mem_cons.mp (I.stkSub b z) with q | q
  ·exact f1 q
  ·exact f2 q
 have old : ∀x c,cl.lookup x=some c→c < s.heap.objs.size:=fun x c e=>by
  obtain⟨v,oc,hoc,hd⟩:=I.cell x c (hcl x c e);exact Heap.lt_size hoc
 have cs : ∀x c,(cellsFrom (C+1) scope.names cl).lookup x=some c→(x,c)∈cellsFrom (C+1) scope.names []∨cl.lookup x=some c:=fun x c e=>by
  rw[bp] at e;rcases mX e with q | q
  ·exact .inl (mem_of_lookup q)
  ·exact .inr q.2
 have own1 : ∀x,(x,NameKind.cell)∈scope.names→∃c,(cellsFrom (C+1) scope.names cl).lookup x=some c∧(x,c)∈cellsFrom (C+1) scope.names []:=fun x hx=>by
  obtain⟨c,hc⟩:=fe scope.names (C+1) x hx;obtain⟨c',hc'⟩:=isSome_iff_exists.mp (jj hc);refine⟨c',?_,mem_of_lookup hc'⟩
  rw[bp];exact qw hc'
 have free1 : ∀x c,(∀c,(x,c)∉cellsFrom (C+1) scope.names [])→cl.lookup x=some c→(cellsFrom (C+1) scope.names cl).lookup x=some c:=fun x c hx e=>by
  rw[bp];refine qt ?_ e
  cases q:(cellsFrom (C+1) scope.names []).lookup x with
  | none=>rfl
  | some c'=>exact absurd (mem_of_lookup q) (hx c')
 refine⟨⟨I.ok.mod,S.kind,I.ok.glob,I.ok.blt,hC,fun x y c h1 h2=>?_,fun x hx=>?_,fun x c z e=>?_,I.ok.hd,I.ok.frames,.inl rfl,fun b hb=>?_,I.bs,le_trans I.ok.bsz I.sz,fun b o e hb=>?_,hfs,I.stack,I.stkFree⟩,
  rfl,I.bare,?_,⟨m,hn,fun i x v h1 h2 h3=>?_⟩,fun x c e=>?_,hfr C (le_refl _),fun x c e=>?_,fun p hp=>absurd (show p∈([]:List (Addr × Obj)) from hp) (by simp),hok,?_⟩
 ·rcases cs x c h1 with a | a <;> rcases cs y c h2 with b | b
  ·exact name_of_addr hap a b
  ·exact absurd (lt_of_lt_of_le (old y c b) (le_trans hC (le_of_succ_le (hnew x c a).2))) (lt_irrefl _)
  ·exact absurd (lt_of_lt_of_le (old x c a) (le_trans hC (le_of_succ_le (hnew y c b).2))) (lt_irrefl _)
  ·exact I.ok.inj x y c (hcl x c a) (hcl y c b)
 ·by_cases hxc:(x,NameKind.cell)∈scope.names
  ·obtain⟨c,hc,_⟩:=own1 x hxc
   exact⟨c,hc⟩
  ·rcases oH (env:=X.env) hx with q | q
   ·obtain⟨c,hc⟩:=isSome_iff_exists.mp (hcl2 x q)
    exact⟨c,free1 x c (fun c' z=>hxc (dA _ _ _ _ z)) hc⟩
   ·exact absurd q hxc
 ·have hxc:(x,NameKind.cell)∈scope.names:=by
   have:scope.names.lookup x=some .cell:=by simpa [ce] using z
   exact cH this
  obtain⟨c',hc',hm'⟩:=own1 x hxc;have e':(cellsFrom (C+1) scope.names cl).lookup x=some c:=e
  rw[hc'] at e';cases e';exact le_trans hC (le_of_succ_le (hnew x _ hm').2)
 ·obtain⟨f0,f1,f2,f3,f4,f5⟩:=hf b hb
  refine⟨ne_of_lt (lt_of_lt_of_le (hfp b hb) hC),fun x c e=>?_⟩
  rcases cs x c e with a | a
  ·exact ne_of_gt (lt_of_lt_of_le (hfp b hb) (le_trans hC (le_of_succ_le (hnew x c a).2)))
  ·exact f4 x c (hcl x c a)
 ·have:=hf b hb
  obtain⟨f0,f1,f2,f3,f4,f5⟩:=this;rcases f3 with f3 | f3
  ·exact I.ok.noex b o e f3
  ·exact absurd (lt_of_lt_of_le (Heap.lt_size e) (le_trans I.ok.bsz f3)) (lt_irrefl _)
 ·refine⟨fun b o e n _ _=>k b o e,fun b o e n _ _=>⟨o.slots,k b o e⟩,fun b o e n _=>hs2 b n (Heap.lt_size e),fun b o e _=>⟨o,k b o e⟩,fun b xs e=>hs b _ e,fun b o u e=>hs b _ e,fun b ps e=>⟨#[],by rw[hs b _ e];simp⟩⟩
 ·by_cases hi:i < nt
  ·rw[mh i hi] at h2;cases h2
  ·obtain⟨k',rfl⟩ : ∃k',i=nt+k':=⟨i - nt,by omega⟩
   unfold dB at h2;rw[List.getElem?_append_right (by simp)] at h2
   simp only[List.length_replicate,Nat.add_sub_cancel_left,List.getElem?_map] at h2;cases ej:js[k']? with
   | none=>rw[ej] at h2;cases h2
   | some j =>
    rw[ej] at h2;simp only[map_some,Option.some.injEq] at h2;obtain⟨hN,hk⟩:=S.at_ k' j x ej h1;have hσ:σ[j]? = some (some v):=by
     cases q:σ[j]? with
     | none=>rw[q] at h2;cases h2
     | some z=>rw[q] at h2;simp only[Option.join] at h2;rw[← h2];rfl
    have vis:Vis X.env.scope x:=by rcases hk with q | q;exact .inr (.inl q);exact .inr (.inr q)
    obtain⟨m0,hn0,hl0⟩:=I.loc;obtain⟨u,r,l⟩:=hl0 j x v hN hσ vis;refine⟨u,r,?_⟩
    rcases l with⟨q,_⟩ | ⟨q,c,e,z⟩
    ·have q':X.env.scope.names.lookup x=some .local:=q
     rw[q'] at hk;rcases hk with hk | hk <;> cases hk
    ·have fr:=S.frl k' x h1
     have hv:(relabel scope X.env).names.lookup x=some .cell∨(relabel scope X.env).names.lookup x=some .free:=dR (env:=X.env) fr
     have q:(x,NameKind.free)∈scope.names:=cH fr
     obtain⟨c',e'⟩:=isSome_iff_exists.mp (hcl2 x q);have e2:=hcl x c' e';rw[e] at e2;cases e2;obtain⟨oc,hoc,hd⟩:=z;exact .inr ⟨hv,c,free1 x c (fun c' z=>by
      have:=S.own _ (dA _ _ _ _ z) rfl
      rw[fr] at this;cases this) e',oc,k _ _ hoc,hd⟩
 ·rcases cs x c e with a | a
  ·exact⟨none,(hnew x c a).1⟩
  ·obtain⟨v,oc,hoc,hd⟩:=I.cell x c (hcl x c a)
   exact⟨v,oc,k _ _ hoc,hd⟩
 ·rcases cs x c e with a | a
  ·exact hfr c (le_of_succ_le (hnew x c a).2)
  ·have e2:=hcl x c a
   obtain⟨v,oc,hoc,hd⟩:=I.cell x c e2;exact hs2 c (I.freeC x c e2) (Heap.lt_size hoc)
 ·unfold dB
  show _=N.length
  rw[S.len];simp
noncomputable def sM (XN:List Str) (xs sn:List (Str × NameKind)) (N:List Str) (nt:Nat) (js:List Nat):Bool :=
 decide N.Nodup && N.length == nt+js.length && (js.zip (N.drop nt)).all (fun p=>XN[p.1]? == some p.2 && fY xs p.2) && (N.drop nt).all (fun x=>sn.lookup x == some .free)
  && sn.all (fun y=>y.2 != .cell || sn.lookup y.1 == some .cell) && sn.all (fun y=>y.2 != .local || sn.lookup y.1 == some .local) && sn.all (fun y=>y.2 != .free || fY xs y.1)
theorem aI (XN:List Str) (xs:List (Str × NameKind)) (hk:scope.kind = .function:=by exact rfl) (hN:X.N=XN:=by exact rfl) (hx:X.env.scope.names=xs:=by exact rfl)
  (h:sM XN xs scope.names N nt js=true:=by decide+kernel):jI X scope N nt js:=by
 subst hN hx;unfold sM at h;simp only[Bool.and_eq_true] at h;obtain⟨⟨⟨⟨⟨⟨h1,h2⟩,h3⟩,h4⟩,h5⟩,h6⟩,h7⟩:=h;refine⟨hk,of_decide_eq_true h1,by simpa using h2,fun k j x e1 e2=>?_,fun k x e=>?_,fun y hy e=>?_,fun y hy e=>?_,fun y hy e=>?_⟩
 ·have hm:(j,x)∈js.zip (N.drop nt):=by
   have e2':(N.drop nt)[k]? = some x:=by rw[List.getElem?_drop];exact e2
   have:(js.zip (N.drop nt))[k]? = some (j,x):=by rw[List.getElem?_zip_eq_some];exact⟨e1,e2'⟩
   exact mem_of_getElem? this
  have q:=all_eq_true.mp h3 _ hm;rw[Bool.and_eq_true] at q;exact⟨by simpa using q.1,gU q.2⟩
 ·have hm:x∈N.drop nt:=by
   have e2':(N.drop nt)[k]? = some x:=by rw[List.getElem?_drop];exact e
   exact mem_of_getElem? e2'
  simpa using all_eq_true.mp h4 _ hm
 ·have q:=all_eq_true.mp h5 _ hy
  rw[e] at q;simpa using q
 ·have q:=all_eq_true.mp h6 _ hy
  rw[e] at q;simpa using q
 ·have q:=all_eq_true.mp h7 _ hy
  rw[e] at q;exact gU (by simpa using q)
end L2
namespace PySem.W
open PySem PySem.Calls PyProof.Rows
noncomputable def bc (n:Nat) (p:Array Nat):Prop:=p.toList.Perm (range n)
theorem bc.lt (h:bc n p) (hn:0 < n) (i:Nat):p.getD i 0 < n:=by
 by_cases hi:i < p.size
 ·have e:p.getD i 0=p[i]:=by simp[Array.getD,hi]
  rw[e];have:p[i]∈p.toList:=by simp
  exact mem_range.mp (h.mem_iff.mp this)
 ·have e:p.getD i 0=0:=by simp[Array.getD,hi]
  rw[e];exact hn
theorem bc.rev (h:bc n p) (i j:Nat):bc n (kas_rev p i j):=(Array.perm_iff_toList_perm.mp (mirror_perm p i j _)).trans h
theorem bc.bub (h:bc n p) (i j:Nat):bc n (bubble p i j):=(Array.perm_iff_toList_perm.mp (bubble_perm p i j)).trans h
end PySem.W
namespace L2
open PySem PySem.Spec PyProof.Rows
noncomputable def As (td ty:TE):TE:=fun σ H Q=>td σ H fun x H1=>ty σ H1 fun y H2=>∃a,x = .ref a∧∃k,y=kV k∧∃o kvs v,H2 a=some (.frz o (.dK kvs))∧bu kvs k=some v∧Q v H2
theorem qJ {o i:Expr} (hu:X.A.units+1 < cLine) (ho:PE X o td) (hi:PE X i ty) (hs:CS i:=by exact fun _ _=>rfl):PE X (.Subscript o i pos) (As td ty):=by
 intro pins s σ H Q I h;refine wj PySem.F.slot_dict_getitem.lookup hs (thn (ho pins s σ H _ I h) fun u s1 ⟨x,H1,I1,rx,q1⟩=>thn (hi pins s1 σ H1 _ I1 q1) fun iv s2 zr5655=>?_)
 obtain⟨y,H2,I2,ry,a,ex,k,ey,ob,kvs,v,hd,hv,q2⟩:=zr5655;subst ex;obtain rfl:u=Value.ref a:=rx
 have g:pk H2 a y (some v):=.inl ⟨kvs,k,.inr ⟨ob,hd⟩,ey,hv.symm⟩
 exact⟨kI I2 g,pL hu I2 g ry fun w' s3 I3 rw'=>⟨v,H2,I3,rw',q2⟩⟩
end L2
namespace PySem
open L2 PyProof.Rows PySem.Calls
noncomputable def gN:Int:=0xFCA86420
theorem tE {Q:Int→Shared→Prop} (h:Q gN { s with toks:=s.toks+1 }):wpAny (model prog w) A (pyHash .none) Q E s:=by
 have hT:s.TypeIs Value.none "NoneType" := rfl
 show wpAny _ _ (pyHashByItsType .none) Q E s
 unfold pyHashByItsType;refine wpAny_bind ?_
 rw[cRoomFor,if_neg (by rw[show[Value.none].any Value.onHeap=false from rfl];exact Bool.false_ne_true)]
 refine wpAny_pure (wpAny_bind (wpAny_specialOf hT PySem.F.slot_NoneType_hash.lookup ?_))
 refine wpAny_ite_split (fun z=>by cases z) fun _=>?_
 refine wpAny_bind (wpAny_specialOf hT PySem.F.slot_NoneType_hash.lookup ?_)
 refine wpAny_ite_split (fun z=>by cases z) fun _=>?_
 refine wpAny_bind (wpAny_callSpecialIfBoundUnlessNone?_slot hT PySem.F.slot_NoneType_hash (wpAny_call_entry PySem.F.slot_NoneType_hash hT PySem.F.entry_NoneType_hash (show wpAny _ _ (do ret (← mkInt gN)) _ _ s from wpAny_ret_mkInt ?_) (PySem.F.args_NoneType_hash_1 _)))
 show wpAny _ _ (if (decide (-(2:Int) ^ 63≤gN) && decide (gN < 2 ^ 63))=true then _ else _) Q E _
 rw[if_pos (by decide)]
 exact wpAny_pure h
theorem sg {Q:Bool→Shared→Prop} (h:Q true s):wpAny (model prog w) A (eqBool .none .none) Q E s:=by
 unfold eqBool;refine wpAny_holding ?_
 rw[if_pos (by decide)]
 exact wpAny_bind (wpAny_rule (wpAny_pure h))
section
variable {K:Type} [DecidableEq K] {knd:HeapKind prog w K} {A:Around} {E:Value→Shared→Prop} {s:Shared} {d a:Addr} {k:K} {xs:List (K × Addr × Value)}
theorem hJ {α β:Type} (f:α→β) : ∀(l:List α) (j:Nat),(l.map f).eraseIdx j=(l.eraseIdx j).map f
 | [],_=>rfl
 | _ :: _,0=>rfl
 | x :: r,j+1=>by show f x ::(r.map f).eraseIdx j=f x ::(r.eraseIdx j).map f;rw[hJ f r j]
end
end PySem
namespace L2
open PySem PySem.Spec PyProof.Rows
noncomputable def mD (t:TE):TE:=fun σ H Q=>∃a kvs,H a=some (.dK kvs)∧t σ H fun v H'=>(∃o,H' a=some (.frz o (.dK kvs)))∧Q v (upd H' a (.dK kvs))
theorem lM {t:TE} (h:PE X e t):PE X e (mD t):=by
 intro pins s σ H Q I ⟨a,kvs,ha,ht⟩;have hn : ∀ob u,X.H₀ a≠some (.frz ob u):=fun ob u e=>by have:=I.base.frzs a ob u e;rw[ha] at this;cases this
 refine thn (h pins s σ H _ I ht) fun u s' ⟨v,H',I',rv,⟨o,eo⟩,q⟩=>?_
 exact⟨v,_,I'.retag eo (by intro y z;cases z) (by intro y z;cases z) hn (by intro y z;cases z) (show s'.heap.get? a=some o∧be X.prog X.w H' s'.heap a (.dK kvs) from I'.hok a _ eo).2,rv,q⟩
end L2
namespace PySem.SeqAt
open AutoSeq1 (wpAny_loadPart')
open MeetsSeq MeetsSeq2 MeetsSeq3 SeqRoads2
noncomputable def AlikeIn (prog:Program) (w:World) (A:Around) (s:Shared) (y x:Value):Prop:=∀(E:Value→Shared→Prop) (Q:Bool→Shared→Prop),Q true s→wpAny (model prog w) A (eqBool y x) Q E s
end PySem.SeqAt
namespace L2
open PySem PySem.Spec PyProof.Rows
noncomputable def zx (H:Hp) (l kvs:List (Key × V)) (ra rb:Key→List Int):Prop:=∀p∈l,∃x1 x2,p.2 = .ref x1∧H x1=some (.tup ((ra p.1).map V.int))∧bu kvs p.1=some (.ref x2)∧H x2=some (.tup ((rb p.1).map V.int))
theorem xq {ra:Key→List Int} (I:Inv X pins σ H s) (hu:A.units+50 < cLine) (rl:KV kvs vb) : ∀{l:List (Key × V)} {la:List (Key × Value)},KV l la→zx H l kvs ra rb→PySem.W.KeqHits A s vb la (l.all fun p=>decide (ra p.1=rb p.1)):=by
 intro l la r;unfold KV at r
 induction r with
 | nil=>intro _;exact .nil
 | @cons p q ps qs h _ ih =>
  intro hall;obtain⟨k,v⟩:=p;obtain⟨k',u⟩:=q;obtain⟨e,ru⟩:=h;dsimp only at e ru;subst e;obtain⟨x1,x2,e1,t1,e2,t2⟩:=hall (k,v) (by simp)
  dsimp only at e1 t1 e2 t2;subst e1;obtain⟨y,hy,ry⟩:=jc.some_of (v:=.ref x2) (o:=valueAt vb k) (by rw[← e2];exact rl.val k)
  obtain⟨as,g1⟩:=I.reads (.tup (.of t1) (cp.ints (ra k))) ru;obtain⟨bs,g2⟩:=I.reads (.tup (.of t2) (cp.ints (rb k))) ry;have ea:SeqAt.EqAt A s u y (decide (ra k=rb k)):=by
   have:=SeqAt.eqAt_reads (eO (ra k)) (eO (rb k)) A s u y as bs g1 g2 (eS _) (eS _) (by
    have h1:=iu (ra k);have:min (eO (ra k)).depth (eO (rb k)).depth≤(eO (ra k)).depth:=Nat.min_le_left _ _
    omega)
   rwa [qi] at this
  exact PySem.W.KeqHits.hit hy ea (ih fun p hp=>hall p (by simp[hp]))
end L2
namespace PyProof.Rows
open PySem PySem.Spec
theorem nB {it t:Addr} {items:Array Value} (hne:t≠it) : ∀(n i:Nat) (s:Shared) (Q:List Value→Shared→Prop),s.heap.IsListIter it t i→s.heap.IsList t items→i+n≤items.size →
  (∀h',h'.IsListIter it t (i+n)→Heap.SameBut it s.heap h'→Q ((items.toList.drop i).take n) { s with heap:=h' })→wpAny (model prog w) A (draw (.ref it) n) Q E s
 | 0,i,s,Q,hit,_,_,hQ=>by
  show wpAny _ _ (pure []) Q E s
  exact wpAny_pure (by simpa using hQ s.heap hit (Heap.SameBut.refl ..))
 | n+1,i,s,Q,hit,ht,hle,hQ=>by
  have hlt:i < items.size:=by omega
  show wpAny _ _ (pyNext (.ref it) >>= _) Q E s
  refine wpAny_bind (wpAny_pyNext_list_item hit ht (x:=items[i]) (by simp[hlt]) fun h₁ hit₁ hs₁=>?_)
  refine wpAny_bind (wpAny_holding (nB hne n (i+1) _ _ hit₁ (ht.extBut hs₁.extBut hne) (by omega) fun h₂ hit₂ hs₂=>wpAny_pure ?_))
  have hd:items.toList.drop i=items[i] :: items.toList.drop (i+1):=by simp[List.drop_eq_getElem_cons,hlt]
  have:=hQ h₂ (by rw[show i+(n+1)=i+1+n by omega];exact hit₂) (hs₁.trans hs₂)
  rw[hd,List.take_succ_cons] at this;exact this
theorem jD {Q:List Value→Shared→Prop} (hh:A.handled=none) (ht:s.heap.IsList t items)
  (hQ : ∀h',Heap.ExtBut s.heap.objs.size s.heap h'→Q items.toList { s with heap:=h' }):wpAny (model prog w) A (unpackItems (.ref t) items.size none) Q E s:=by
 have hlt:t≠s.heap.objs.size:=by obtain⟨o,ho,_⟩:=ht;exact ne_of_lt (Heap.lt_size ho)
 unfold unpackItems;refine wpAny_bind ?_
 ·unfold notIterableAtAll
  refine wpAny_bind (wpAny_specialOf ht.typeIs slot_list_iter.lookup ?_)
  refine wpAny_pure ?_
  simp only[Bool.false_eq_true,if_false];refine wpAny_bind (wpAny_holding (wpAny_pyIter_list ht ?_))
  refine wpAny_bind (wpAny_holding (nB hlt items.size 0 _ _ ⟨_,Heap.get?_push_size _ rfl,rfl,rfl⟩ (ht.push _) (by omega) fun h₁ hit₁ hs₁=>?_))
  have hall:List.take items.size (List.drop 0 items.toList)=items.toList:=by
   rw[drop_zero];exact take_of_length_le (by simp)
  rw[hall];rw[if_neg (by simp)]
  have ht₁:h₁.IsList t items:=(ht.push _).extBut hs₁.extBut hlt
  refine wpAny_bind (wpAny_holding (wpAny_pyNext_list_end hh hit₁ ht₁ (by simp) fun h₂ he₂=>?_))
  simp only[Option.isSome_none,Bool.false_eq_true,if_false];refine wpAny_pure (hQ h₂ fun b o hb e=>he₂ b o hb (hs₁.extBut b o hb (Heap.get?_push_of_some _ e)))
theorem iZ {x1} {pos:Pos} {t:Addr} {items:Array Value} {Q:Unit→Shared→Prop} (hh:A.handled=none) (ht:s.heap.IsList t items)
  (hn:(assignEach elts env).length=items.size) (hstar:(assignEach elts env).findIdx? (·.1)=none)
  (h : ∀h',Heap.ExtBut s.heap.objs.size s.heap h'→wpAny (model prog w) A (assignInOrder ((assignEach elts env).map (·.2)) items.toList) Q E { s with heap:=h' }) :
  wpAny (model prog w) A (assign (.Tuple elts x1 pos) env (.ref t)) Q E s:=by
 rw[assign_Tuple];refine wpAny_bind (wpAny_standAt ?_)
 unfold unpack;rw[hn,hstar];exact wpAny_bind (wpAny_holding (jD hh ht h))
end PyProof.Rows
namespace L2
open PySem PySem.Spec PyProof.Rows
noncomputable def Bu (n:Nat) (t:TGs):TG:=fun v σ H Q=>∃a,v = .ref a∧∃xs,H a=some (.lst xs)∧xs.length=n∧t xs σ H Q
theorem AU {t:TGs} (hc:X.calm=true) (h:PGs X es t)
  (hn:(assignEach es X.env).length=n:=by rfl) (hst:(assignEach es X.env).findIdx? (·.1)=none:=by rfl):PG X (.Tuple es k pos) (Bu n t):=by
 intro pins s σ H v u Q I r hw;obtain⟨a,e1,xs,hq,hl,hw⟩:=hw;subst e1;cases r;obtain⟨its,rv,ht,hz⟩:=I.list (SqL.of hq);refine iZ (I.ok.hd hc) ht.isList (by simp[hn,← hl,rv.length]) hst fun h' hx=>?_
 have I1:Inv X pins σ H { s with heap:=h' }:=I.kept (t':=s.toks) fun b o e=>hx b o (ne_of_lt (Heap.lt_size e)) e
 exact h pins _ σ H xs _ Q I1 (by simpa using rv) hw
noncomputable def eP (i:Nat):TE:=fun σ H Q=>match σ[i]? with | some (some v)=>Q v H | _=>False
theorem yb {i:Nat} {Q:VK} (h:eP i σ H Q):zY i σ H Q:=by
 unfold eP at h
 split at h
 ·exact⟨_,by assumption,h⟩
 ·exact h.elim
theorem pvM (i:Nat) {x:Str} {pos:Pos} (hN:X.N[i]? = some x:=by rfl) (hv:Vis X.env.scope x:=by first | exact Or.inl rfl | exact Or.inr (Or.inl rfl) | exact Or.inr (Or.inr rfl)) (hd:(x ==("__debug__" : Str))=false:=by decide)
  (hcd:(x ==("__classdict__" : Str))=false:=by decide):PE X (.Name x pos) (eP i):=fun pins s σ H Q I h=>Cf hN hv hd hcd pins s σ H Q I (yb h)
end L2
namespace PySem
open Sem (wp)
section
variable {o:Obj} {xs:Array Value} {Q:Option Value→Shared→Prop}
theorem jY (hx:s.heap.get? a=some o) (hc:o.cls = .type "tuple") (hdat:o.data = .seq xs k) (hd:o.dict=none) (hmiss:typeLookup (.type "tuple") name=pure none) (hname:(["__module__","__name__","__qualname__","__doc__","__annotations__"]:List Str).contains name=false) (hA:A.handled=none)
  (h : ∀h' tk,(∀b u,s.heap.get? b=some u→h'.get? b=some u)→Q none { s with heap:=h',toks:=tk }) (hsz:name.length+100≤sizeLine:=by size_fits) :
  wpAny (model prog w) A (getAttr? (.ref a) name) Q E s:=by
 obtain⟨c,dct,dat,sl⟩:=o;simp only at hc hdat hd;subst hc hdat hd;obtain⟨hp,g,d,tk,os⟩:=s;have hT : ∀tk',(⟨hp,g,d,tk',os⟩:Shared).TypeIs (.ref a) "tuple" := fun _=>⟨_,hx,rfl⟩
 have f1:=sub_AttributeError;have f3:=F.slot_tuple_getattribute.lookup;have f4:=F.slot_tuple_getattribute.bind (.ref a);have f5:=am_tuple_getattr_none;unfold getAttr? getAttrBy? getAttrBy
 repeat (any_goals (first | assumption | exact hT _ | ((with_reducible show wpAny _ _ (call (Value.builtin "tuple.__getattribute__") _ _) _ _ _);refine call_meets F.slot_tuple_getattribute (hT _) am_entry_tuple_getattribute (F.args_tuple_getattribute_2 _ _) (meets_getattribute_miss_tuple a xs k sl name _ hmiss hname hsz) ⟨hx,hA,fun h' tk' e hx'=>?_⟩) | wp_step))
 obtain⟨t',u',he⟩:=hx'.there
 show wpAny _ _ (getattributeRaised _ _ _ _ _ _ _) _ _ _
 unfold getattributeRaised
 repeat (any_goals (first | assumption | wp_step))
 exact h _ _ hx'.keeps
theorem lc (hx:s.heap.get? a=some o) (hc:o.cls = .type "list") (hdat:o.data = .seq xs k) (hd:o.dict=none) (hmiss:typeLookup (.type "list") name=pure none) (hname:(["__module__","__name__","__qualname__","__doc__","__annotations__"]:List Str).contains name=false) (hA:A.handled=none)
  (h : ∀h' tk,(∀b u,s.heap.get? b=some u→h'.get? b=some u)→Q none { s with heap:=h',toks:=tk }) (hsz:name.length+100≤sizeLine:=by size_fits) :
  wpAny (model prog w) A (getAttr? (.ref a) name) Q E s:=by
 obtain⟨c,dct,dat,sl⟩:=o;simp only at hc hdat hd;subst hc hdat hd;obtain⟨hp,g,d,tk,os⟩:=s;have hT : ∀tk',(⟨hp,g,d,tk',os⟩:Shared).TypeIs (.ref a) "list" := fun _=>⟨_,hx,rfl⟩
 have f1:=sub_AttributeError;have f3:=F.slot_list_getattribute.lookup;have f4:=F.slot_list_getattribute.bind (.ref a);have f5:=am_list_getattr_none;unfold getAttr? getAttrBy? getAttrBy
 repeat (any_goals (first | assumption | exact hT _ | ((with_reducible show wpAny _ _ (call (Value.builtin "list.__getattribute__") _ _) _ _ _);refine call_meets F.slot_list_getattribute (hT _) am_entry_list_getattribute (F.args_list_getattribute_2 _ _) (meets_getattribute_miss_list a xs k sl name _ hmiss hname hsz) ⟨hx,hA,fun h' tk' e hx'=>?_⟩) | wp_step))
 obtain⟨t',u',he⟩:=hx'.there
 show wpAny _ _ (getattributeRaised _ _ _ _ _ _ _) _ _ _
 unfold getattributeRaised
 repeat (any_goals (first | assumption | wp_step))
 exact h _ _ hx'.keeps
end
namespace F
theorem entry_dict_update_loop:entryFor table "dict.update.loop" = some Builtin.«dict.update.loop» := entryFor_of_tree (by kernel_rfl)
theorem plain_dict_update_loop:plainId "dict.update.loop" = true:=by decide+kernel
theorem lk_tuple_keys:typeLookup (.type "tuple") "keys" = pure none:=by rw[typeLookup_type,builtinLookup_eq_fast];kernel_rfl
theorem lk_list_keys:typeLookup (.type "list") "keys" = pure none:=by rw[typeLookup_type,builtinLookup_eq_fast];kernel_rfl
end F
section
variable {K:Type} [DecidableEq K] {knd:KeyKind prog w K} {A:Around} {R:Result→Shared→Prop} {I:Addr} {fp wr:List Addr} {G:Array GenState→Array GenState→Prop} {n:Nat} {P:Nat→Value→Prop} {St:Nat→Shared→Prop}
theorem eN (W:WalksS prog w A.in1 I fp wr G n P St) (D:Addr) (hDf:D∉fp) (h0:Heap) (key:Nat→K) (val:Nat→Value) (kv:Nat→List (K × Value))
  (hpair : ∀i v,i < n→P i v→∃q o k0 m,v = .ref q∧q∉D :: wr∧h0.get? q=some o∧o.cls = .type "tuple" ∧ o.data = .seq #[k0,val i] m∧knd.is (key i) k0=true)
  (hkv : ∀i,i < n→kv (i+1)=stored (kv i) (key i) (val i)) (hsz : ∀i,i≤n→(kv i).length≤sizeLine) :
  ∀ (k i:Nat) (s:Shared) (tok:Tok),n - i=k→i≤n→St i s→s.heap.DictOf knd D (kv i)→(∀b o,b∉D :: wr→h0.get? b=some o→s.heap.get? b=some o) →
   (∀s',Moved (D :: wr) G s s'→s'.heap.DictOf knd D (kv n)→R (.ok (.ret .none)) s') →
   codeAny (model prog w) A (.builtin "dict.update.loop" ⟨[.ref D,.ref I,.int i tok,.none],[]⟩) R s:=by
 have hDw:D∉wr:=fun h=>hDf (W.sub _ h)
 have hsub : ∀b∈wr,b∈D :: wr:=fun b hb=>mem_cons_of_mem _ hb
 intro k
 induction k with
 | zero =>
  intro i s tok hk hi hst hD hkp hR;have hin:i=n:=by omega
  subst hin;refine codeAny_builtin F.entry_dict_update_loop ?_
  rw[Around.under_plainId F.plain_dict_update_loop _]
  show wpAny _ A.in1 (pyNext (.ref I) >>= _) _ _ s
  refine wpAny_bind (W.done s _ _ hst fun s' hm=>?_)
  show wpAny _ A.in1 (do Builtin.Dict.addKeywords D [];ret Value.none) _ _ s'
  refine wpAny_bind (wpAny_pure (wpAny_pure (hR s' (hm.mono hsub) ?_)))
  obtain⟨o,es,ep,ho,rest⟩:=hD;exact⟨o,es,ep,hm.heap D _ hDw ho,rest⟩
 | succ k ih =>
  intro i s tok hk hi hst hD hkp hR;have hlt:i < n:=by omega
  refine codeAny_builtin F.entry_dict_update_loop ?_
  rw[Around.under_plainId F.plain_dict_update_loop _]
  show wpAny _ A.in1 (pyNext (.ref I) >>= _) _ _ s
  refine wpAny_bind (W.item i s _ _ hlt hst fun v s' hP hst' hm=>?_)
  obtain⟨q,o,k0,m,rfl,hq,hg,hc,hd,hk0⟩:=hpair i v hlt hP;have hD':s'.heap.DictOf knd D (kv i):=by
   obtain⟨o,es,ep,ho,rest⟩:=hD;exact⟨o,es,ep,hm.heap D _ hDw ho,rest⟩
  have hq':s'.heap.get? q=some o:=hm.heap q o (fun z=>hq (hsub _ z)) (hkp q o hq hg)
  obtain⟨c,dct,dat,sl⟩:=o;simp only at hc hd;subst hc hd;have hT:s'.TypeIs (.ref q) "tuple" :=⟨_,hq',rfl⟩
  dsimp only;refine wpAny_bind (wpAny_holding (wpAny_bind ?_))
  refine wpAny_tryCatch ?_
  unfold Builtin.Dict.pairItems;refine wpAny_bind (wpAny_typeOf hT ?_)
  rw[if_pos (by decide)]
  refine wpAny_bind (wpAny_seqItems hq' rfl ?_)
  refine wpAny_pure ?_
  show wpAny _ _ (holding [k0,val i] (dictSet D k0 (val i))) _ _ s'
  refine wpAny_holding (wpAny_dictSet_pairs hk0 hD' (fun h' hd2 hsb=>?_) (hsz i hi))
  refine wpAny_pure ⟨plainId_quiet F.plain_dict_update_loop _,ih (i+1) _ _ (by omega) hlt (W.frame _ s' _ _ hst' (le_succ _) fun b hb o e=>?_) (by rw[hkv i hlt];exact hd2) (fun b o hb e=>?_) fun s'' hm'' hS''=>?_⟩
  ·rw[hsb.2 b (fun h:b=D=>hDf (by rw[← h];exact hb))];exact e
  ·rw[hsb.2 b (fun h:b=D=>hb (by rw[h];exact mem_cons_self))]
   exact hm.heap b o (fun z=>hb (hsub _ z)) (hkp b o hb e)
  ·refine hR s'' (Moved.trans W.gtrans ((hm.mono hsub).then_heap (le_succ _) fun b o hb e=>?_) hm'') hS''
   rw[hsb.2 b (fun h:b=D=>hb (by rw[h];exact mem_cons_self))];exact e
theorem call_dict_pairs {o:Obj} {m:Nat} {key:Nat→K} {val:Nat→Value} {kv:Nat→List (K × Value)}
  (hT2:T = "tuple" ∨ T = "list") (hh:A.handled=none) (hl:s.heap.get? l=some o) (hc:o.cls = .type T) (hdat:o.data = .seq items m) (hd:o.dict=none)
  (hpair : ∀i v,items[i]? = some v→∃q o k0 m,v = .ref q∧s.heap.get? q=some o∧o.cls = .type "tuple" ∧ o.data = .seq #[k0,val i] m∧knd.is (key i) k0=true)
  (h0:kv 0=[]) (hkv : ∀i,i < items.size→kv (i+1)=stored (kv i) (key i) (val i)) (hsz : ∀i,i≤items.size→(kv i).length≤sizeLine)
  (h : ∀h' tk,h'.DictOf knd s.heap.objs.size (kv items.size)→(∀b o,s.heap.get? b=some o→h'.get? b=some o)→Q (.ref s.heap.objs.size) { s with heap:=h',toks:=tk }) :
  wpAny (model prog w) A (call (.type "dict") [.ref l]) Q E s:=by
 refine callType_codes (Q₁:=fun obj s₁=>obj = .ref s.heap.objs.size∧s₁={ s with heap:=s.heap.push { cls:=.type "dict",data:=.dict #[] } }) F.kt_called_dict (F.kt_typeCall_dict_1 _) F.entry_dict_init (kt_code_dict_new _ ⟨rfl,rfl⟩) ?_
 rintro obj s₁ ⟨rfl,rfl⟩
 have hnew:(s.heap.push { cls:=.type "dict",data:=.dict #[] }).DictOf knd s.heap.objs.size []:=Heap.DictOf.new s.heap
 refine⟨hnew.typeIs,F.args_dict_init_2 _ _,?_⟩
 unfold Builtin.«dict.__init__»;refine wpAny_bind ?_
 unfold Builtin.Dict.selfAndRest;refine wpAny_bind (wpAny_notOrdered_dict hnew.typeIs ?_)
 show wpAny _ _ (pure (s.heap.objs.size,[Value.ref l])) _ _ _
 refine wpAny_pure ?_
 show wpAny _ _ (Builtin.Dict.updateFrom "dict.__init__" s.heap.objs.size (.ref l) [] .none) _ _ _
 unfold Builtin.Dict.updateFrom;have hl':(s.heap.push { cls:=.type "dict",data:=.dict #[] }).get? l=some o:=Heap.get?_push_of_some _ hl
 have hTT:Shared.TypeIs { s with heap:=s.heap.push { cls:=.type "dict",data:=.dict #[] } } (.ref l) T:=⟨_,hl',hc⟩
 refine wpAny_bind (wpAny_typeOf hTT ?_)
 have tail : ∀(h1:Heap) (tk1:Nat),(∀b u,(s.heap.push { cls:=.type "dict",data:=.dict #[] }).get? b=some u→h1.get? b=some u) →
   ∀(TI:Obj) (St:Nat→Heap→Prop),Walks prog w A.in1.in1 h1.objs.size [h1.objs.size,l] [h1.objs.size] items.size (fun i v=>items[i]? = some v) St→St 0 (h1.push TI) →
   codeAny (model prog w) A.in1 (.builtin "dict.update.loop" ⟨[.ref s.heap.objs.size,.ref h1.objs.size,rawInt 0,.none],[]⟩) (wants (fun r s₂=>r=Value.none∧Q (Value.ref s.heap.objs.size) s₂) E) { s with heap:=h1.push TI,toks:=tk1 }:=by
  intro h1 tk1 k1 TI St W hst;obtain⟨od,_,_,hod,_⟩:=hnew;have hlt1:s.heap.objs.size < h1.objs.size:=Heap.lt_size (k1 _ _ hod)
  have hll:l < s.heap.objs.size:=Heap.lt_size hl
  have hDf:s.heap.objs.size∉[h1.objs.size,l]:=by
   simp only[mem_cons,mem_singleton,not_mem_nil,or_false,not_or];exact⟨ne_of_lt hlt1,ne_of_gt hll⟩
  have hold : ∀b o,s.heap.get? b=some o→(h1.push TI).get? b=some o:=fun b o e=>Heap.get?_push_of_some _ (k1 b o (Heap.get?_push_of_some _ e))
  refine eN (knd:=knd) W.toS s.heap.objs.size hDf s.heap key val kv (fun i v hi hv=>?_) hkv hsz (items.size - 0) 0 _ 0 rfl (zero_le _) hst ?_ (fun b o _ e=>hold b o e) fun s' hm hD=>?_
  ·obtain⟨q,o,k0,m,rfl,hg,r⟩:=hpair i v hv
   have hq:=Heap.lt_size hg;exact⟨q,o,k0,m,rfl,by simp only[mem_cons,mem_singleton,not_mem_nil,or_false,not_or];exact⟨ne_of_lt hq,ne_of_lt (lt_trans hq hlt1)⟩,hg,r⟩
  ·rw[h0]
   obtain⟨o,es,ep,ho,rest⟩:=(Heap.DictOf.new (knd:=knd) s.heap);exact⟨o,es,ep,Heap.get?_push_of_some _ (k1 _ _ ho),rest⟩
  ·obtain⟨h',g',d',tk',os'⟩:=s'
   have eg:g'=s.gens:=hm.gens
   have ed:d'=s.drawn:=hm.drawn
   have eo:os'=s.os:=hm.os
   subst eg;subst ed;subst eo;refine⟨rfl,h h' tk' hD fun b o e=>hm.heap b o ?_ (hold b o e)⟩
   have hq:=Heap.lt_size e;simp only[mem_cons,mem_singleton,not_mem_nil,or_false,not_or];exact⟨ne_of_lt hq,ne_of_lt (lt_trans hq hlt1)⟩
 have hh2:A.in1.in1.handled=none:=by simp[hh]
 rcases hT2 with rfl | rfl
 ·rw[if_pos (by decide)]
  refine wpAny_bind (jY hl' hc hdat hd F.lk_tuple_keys (by decide+kernel) hh2 (fun h1 tk1 k1=>?_))
  rw[if_pos (show(isNone (none:Option Value))=true from rfl)]
  refine wpAny_bind (wpAny_rule ?_)
  have ht:h1.IsTuple l items:=⟨o,k1 _ _ hl',hc,m,hdat⟩
  refine wpAny_bind (wpAny_pyIter_tuple ht ?_)
  have hne:l≠h1.objs.size:=ne_of_lt (Heap.lt_size (k1 _ _ hl'))
  refine wpAny_pure ⟨plainId_quiet F.plain_dict_update_loop _,tail h1 tk1 k1 _ _ (Walks.tuple hh2 _ l hne items) ⟨⟨_,Heap.get?_push_size _ rfl,rfl,rfl⟩,?_⟩⟩
  exact⟨o,Heap.get?_push_of_some _ (k1 _ _ hl'),hc,m,hdat⟩
 ·rw[if_pos (by decide)]
  refine wpAny_bind (lc hl' hc hdat hd F.lk_list_keys (by decide+kernel) hh2 (fun h1 tk1 k1=>?_))
  rw[if_pos (show(isNone (none:Option Value))=true from rfl)]
  refine wpAny_bind (wpAny_rule ?_)
  have ht:h1.IsList l items:=⟨o,k1 _ _ hl',hc,m,hdat⟩
  refine wpAny_bind (wpAny_pyIter_list ht ?_)
  have hne:l≠h1.objs.size:=ne_of_lt (Heap.lt_size (k1 _ _ hl'))
  refine wpAny_pure ⟨plainId_quiet F.plain_dict_update_loop _,tail h1 tk1 k1 _ _ (Walks.list hh2 _ l hne items) ⟨⟨_,Heap.get?_push_size _ rfl,rfl,rfl⟩,?_⟩⟩
  exact⟨o,Heap.get?_push_of_some _ (k1 _ _ hl'),hc,m,hdat⟩
end
end PySem
namespace L2
open PySem PySem.Spec PyProof.Rows
structure Bx (w:World) (K:PySem.W.Frag) (a:Addr):Prop where
 ex : ∃es n,K.lookup a=some ⟨.type "dict",none,.dict es n,#[]⟩∧PySem.W.KeysLit w.params es.toList
noncomputable def FnT (P:Program) (w:World) (K:PySem.W.Frag) (mg:Str→Option Value) (base:Heap) (a:Addr) (x:Str) (k:Nat) (ps:List Str) (sp:Sp):Prop :=
 ∃f fd,gY P w K mg base CX0 k f fd ps sp∧nsIn K a x=some (some (.ref f))∧keepIn K (.ref f)=true∧jA K fd ps []
theorem dt {y:Str} (F:Fn P w K mg base y j ps sp) (hm:mg y=some (.ref f)) (hn:nsIn K a x=some (some (.ref f))) (h:j≤k)
  (hs : ∀vs H Q E,sp' vs H Q E→sp vs H Q E):FnT P w K mg base a x k ps sp':=by
 obtain⟨f',fd,F,m,kp,b⟩:=F;rw[hm] at m;cases m;exact⟨f,fd,(F.mono h).imp hs,hn,kp,b⟩
noncomputable def db (names:List Str) (sp:Str→Sp) (tb:TE) (t:TA):TE:=fun σ H Q=>tb σ H fun y H1=>∃x,y = .str x∧x∈names∧t σ H1 fun vs H2=>sp x vs H2 Q E0
section
variable {p:Pos} {b:Expr} {t:TA}
theorem tX {sp:Str→Sp} (TA:Bx X.w X.K a) (F : ∀y∈names,FnT X.prog X.w X.K X.mg X.base a y k ps (sp y)) (hm:X.mg x=some (.ref a)) (hb:PE X b tb) (ha:PA X (e :: es) t) (hr:cu k X.A:=by exact cu.mono (by assumption) (by first | decide | omega)) (hg:Gl X x:=by exact rfl)
  (hs:lB b:=by exact fun _ _=>rfl) (hdb:(x ==("__debug__" : Str))=false:=by decide)
  (he:starEach (e :: es) X.env=(false,eval e X.env) :: starEach es X.env:=by rfl) (hpl:(backTo pos (starEach es X.env)).any (·.1)=false:=by rfl) :
  PE X (.Call (.Subscript (.Name x p) b p1) (e :: es) [] pos) (db names sp tb t):=by
 intro pins s σ H Q I h
 show wpAny _ _ (do callWith pos (← eval (.Subscript (.Name x p) b p1) X.env) [] (backTo pos (starEach (e :: es) X.env)) (backToKw pos (keywordEach [] X.env))) _ _ s
 refine wpAny_bind (Subscript_ (qA I hg hm (thn (hb pins s σ H _ I h) fun u s1 zr6015=>?_) hdb))
 obtain⟨v,H1,I1,r,y,ey,hy,q⟩:=zr6015;subst ey;obtain⟨tk,rfl⟩:=r;obtain⟨f,fd,F,hn,kp,bd⟩:=F y hy;obtain⟨es',n,hl,hk⟩:=TA.ex;have hmap:=PySem.W.mapOf_K (prog:=X.prog) I1.kIn hl hk;refine PyProof.Rows.tail_any hmap.typeIs PySem.F.slot_dict_getitem.lookup (wpAny_getItem_of (strKind_is X.prog X.w y tk) hmap (PySem.W.find_K hl hn) ?_) (hs _ _)
 have I2:Inv X pins σ H1 { s1 with toks:=s1.toks+1 }:=I1.tok _
 refine callWith_K (h₀:=X.base) I.ok.mod.kin kp (thn (ha pos pins _ σ H1 _ I2 q) fun us s3 ⟨vs,H3,I3,r3,q3⟩=>⟨I3.kIn,?_⟩) he hpl
 exact qM F hr bd .nil wF I3 r3 (by rw[append_nil];exact q3)
end
noncomputable def Er (H:Hp) (p:Addr) (ys:List V):Prop:=∃o:Obj,o.dict=none∧H p=some (.frz o (.tup ys))
noncomputable def Dh (H:Hp) (ys:List V) (prs:List (Key × V)):Prop:=∃as:List (Addr × Key × V),ys=as.map (fun x=>V.ref x.1)∧as.map (·.2)=prs∧∀x∈as,H x.1=some (.tup [kV x.2.1,x.2.2])
noncomputable def xU:List V→Hp→VK→Prop:=fun xs H Q=>∃p,xs=[.ref p]∧∃ys prs,(Er H p ys∨H p=some (.lst ys))∧Dh H ys prs∧prs.length≤sizeLine∧∀d,H d=none→Q (.ref d) (upd H d (.dK (dh [] prs)))
theorem mT {pins:List (Addr × Obj)} {σ:St} {H:Hp} {s:Shared} (I:Inv X pins σ H s) : ∀as:List (Addr × Key × V),(∀x∈as,H x.1=some (.tup [kV x.2.1,x.2.2])) →
  ∃rs:List (Key × Value),KV (as.map (·.2)) rs∧∀(i:Nat) (x:Addr × Key × V),as[i]? = some x→∃(o:Obj) (k0:Value) (m:Nat) (r:Value),rs[i]? = some (x.2.1,r)∧s.heap.get? x.1=some o∧o.cls = .type "tuple" ∧ o.data = .seq #[k0,r] m∧(aU X.prog X.w).is x.2.1 k0=true
 | [],_=>⟨[],.nil,fun i x h=>by simp at h⟩
 | y :: as,h=>by
  obtain⟨rs,h1,h2⟩:=mT I as fun x hx=>h x (mem_cons_of_mem _ hx)
  obtain⟨its,r,⟨o,ho,hc,m,hd⟩,_⟩:=I.tuple (.of (h y mem_cons_self));obtain⟨u,v,rfl,r1,r2⟩:=mM r;refine⟨(y.2.1,v) :: rs,.cons ⟨rfl,r2⟩ h1,fun i x e=>?_⟩
  cases i with
  | zero =>
   simp at e
   subst e;exact⟨o,u,m,v,rfl,ho,hc,hd,kG r1⟩
  | succ i=>exact h2 i x (by simpa using e)
theorem ul (rs:List (Key × Value)) (i:Nat) (x:Key × Value) (h:rs[i]? = some x):merged [] (rs.take (i+1))=stored (merged [] (rs.take i)) x.1 x.2:=by
 rw[take_add_one,h];unfold merged;rw[List.foldl_append];rfl
theorem vq (hc:X.calm=true):bC X (.type "dict") xU:=by
 intro pins s σ H xs us Q I r h;obtain⟨p,rfl,ys,prs,hz,⟨as,rfl,rfl,hp⟩,hl,q⟩:=h;obtain⟨u,rfl,rx⟩:=cS r;cases rx;obtain⟨rs,kv,hrs⟩:=mT I as hp;have hlr:as.length=rs.length:=by have:=Paired.length kv;simpa using this
 obtain⟨its,o,T,m,rv,ho,hT,hcl,hdat,hdn⟩ : ∃(its:List Value) (o:Obj) (T:String) (m:Nat),aT (as.map fun x=>V.ref x.1) its∧s.heap.get? p=some o∧(T = "tuple" ∨ T = "list")∧o.cls = .type T∧o.data = .seq its.toArray m∧o.dict=none:=by
  rcases hz with⟨o,hd,e⟩ | e
  ·obtain⟨h1,_,its,r,o',h2,h3,m,h4⟩:=(show be X.prog X.w H s.heap p (.frz o (.tup _)) from I.hok p _ e)
   rw[h1] at h2;cases h2;exact⟨its,o,"tuple",m,r,h1,.inl rfl,h3,h4,hd⟩
  ·obtain⟨_,its,m,r,h1⟩:=(show be X.prog X.w H s.heap p (.lst _) from I.hok p _ e)
   exact⟨its,_,"list",m,r,h1,.inr rfl,rfl,rfl,rfl⟩
 have hil:its.toArray.size=rs.length:=by have:=rv.length;simp at this ⊢;omega
 refine PySem.call_dict_pairs (knd:=aU X.prog X.w) (key:=fun i=>((rs[i]?).map (·.1)).getD (Sum.inl 0)) (val:=fun i=>((rs[i]?).map (·.2)).getD .none) (kv:=fun i=>merged [] (rs.take i)) hT (I.ok.hd hc) ho hcl hdat hdn (fun i v hv=>?_) rfl (fun i hi=>?_) (fun i hi=>?_) fun h' tk dd kp=>?_
 ·have hi:i < its.length:=by
   have:=(Array.getElem?_eq_some_iff.mp hv).1
   simpa using this
  have hia:i < as.length:=by have:=rv.length;simp at this;omega
  obtain⟨w',hw,rw'⟩:=rv.get (i:=i) (x:=V.ref (as[i].1)) (by simp[hia])
  have ev:v=w':=by
   rw[List.getElem?_toArray,hw] at hv;exact(Option.some.inj hv).symm
  subst ev;cases rw';obtain⟨o',k0,m',rr,e1,e2,e3,e4,e5⟩:=hrs i as[i] (by simp[hia])
  refine⟨_,o',k0,m',rfl,e2,e3,?_,?_⟩
  ·simp only[e1,map_some,getD_some];exact e4
  ·simp only[e1,map_some,getD_some];exact e5
 ·have hi':i < rs.length:=by omega
  have e:rs[i]? = some rs[i]:=by simp[hi']
  rw[ul rs i _ e];simp only[e,map_some,getD_some]
 ·have h1:(merged [] (rs.take i)).length≤(rs.take i).length:=by
   have hg : ∀(ms ks:List (Key × Value)),(merged ks ms).length≤ks.length+ms.length:=by
    intro ms
    induction ms with
    | nil=>intro ks;simp[merged]
    | cons y ms ih =>
     intro ks;have h1:=ih (stored ks y.1 y.2);have h2:(stored ks y.1 y.2).length≤ks.length+1:=by unfold stored;split <;> simp
     show(merged (stored ks y.1 y.2) ms).length≤_
     simp only[length_cons];omega
   simpa using hg (rs.take i) []
  have h2:(rs.take i).length≤rs.length:=by simp;omega
  simp at hl
  omega
 ·rw[hil,take_length] at dd
  have hml:=fi (as.map (·.2)) [];simp at hl hml
  refine⟨.ref s.heap.objs.size,_,I.laid (a:=s.heap.objs.size) (o:=.dK (dh [] (as.map (·.2)))) (t':=tk) kp (le_refl _) ⟨by omega,beq_eq_false_iff_ne.mpr (Ne.symm (ne_of_lt I.big)),_,KV.merge kv .nil,dd⟩,rfl,q _ (I.hok.fresh (le_refl _))⟩
end L2
namespace PySem
theorem iC:entryFor table "dict_itemiterator.__iter__" = some Builtin.«dict_keyiterator.__iter__» :=
 entryFor_alias (id' := "dict_keyiterator.__iter__") (by kernel_rfl) rfl (by decide+kernel) (by kernel_rfl)
theorem gz {i:Nat} {ok ov:Value} (hit:IsItemIter s.heap it d i n ep ok ov) (h:Q (.ref it) s):wpAny (model prog w) A (pyIter (.ref it)) Q E s:=by
 have hT:s.TypeIs (.ref it) "dict_itemiterator" :=⟨_,hit,rfl⟩
 refine wpAny_pyIter_slot hT F.slot_dict_itemiterator_iter (wpAny_call_entry F.slot_dict_itemiterator_iter hT iC ?_ (F.args_dict_itemiterator_iter_1 _))
 show wpAny _ _ (ret (.ref it)) _ _ s
 exact wpAny_pure ⟨_,rfl,"dict_itemiterator",_,hT,F.slot_dict_itemiterator_next.lookup,h⟩
end PySem
namespace L2
open PySem PySem.Spec PyProof.Rows
noncomputable def Iti (a:Addr) (o:Obj) (kvs:List (Key × V)):It :=
  ⟨fun i H=>H a=some (.frz o (.dK kvs))∧i < kvs.length,
   fun i H v H'=>∃t k x,H t=none∧v = .ref t∧H'=upd H t (.tup [kV k,x])∧kvs[i]? = some (k,x),
   fun i H=>H a=some (.frz o (.dK kvs))∧kvs.length≤i⟩
theorem uG {x1} {pos:Pos} (a it:Addr) (o:Obj) (kvs:List (Key × V)) (ep:Nat) (hep : ∃es,o.data = .dict es ep) :
  xi P w K (.Tuple es x1 pos) (Iti a o kvs) [it] it (fun i h=>∃ok ov,IsItemIter h it a i kvs.length ep ok ov) where
 mem:=by simp
 obj:=fun i h st b hb=>by
  have e:b=it:=by simpa using hb
  subst e;obtain⟨ok,ov,h⟩:=st;exact⟨_,h,fun v z=>by cases z⟩
 keep:=fun i h h' st k=>by
  obtain⟨ok,ov,h⟩:=st;exact⟨ok,ov,k it (by simp) _ h⟩
 item:=by
  intro X hP hw hK hc i pins s σ H E In hf st hg;subst hP hw hK;obtain⟨ha,hi⟩:=hg;obtain⟨ho,hz,hd,vs,rel,od,es,ep',hod,hr⟩:=(show s.heap.get? a=some o∧be X.prog X.w H s.heap a (.dK kvs) from In.hok a _ ha)
  rw[ho] at hod;cases hod;obtain⟨es0,he0⟩:=hep;have eep:ep'=ep:=by
   have:=hr.2.1
   rw[he0] at this;cases this;rfl
  subst eep;have hlen:=rel.length;obtain⟨k,v,hkv⟩ : ∃k v,kvs[i]? = some (k,v):=⟨kvs[i].1,kvs[i].2,by simp[hi]⟩
  obtain⟨u,hu,ru⟩:=rel.get hkv;obtain⟨ok,ov,st⟩:=st;have st':IsItemIter s.heap it a i vs.length ep' ok ov:=by rw[← hlen];exact st
  refine wpAny_pyNext_items_item (knd:=aU X.prog X.w) (v:=u) st' ⟨o,es,ho,hr⟩ hu fun key h' hk heo ht hz2 hk2=>?_
  refine⟨_,rfl,wpAny_letOwnedTupleGo_items (s:={ s with heap:=h' }) heo fun h2 he2 s2=>?_⟩
  have hil:it < s.heap.objs.size:=Heap.lt_size st
  have hnew:H s.heap.objs.size=none:=In.hok.fresh (le_refl _)
  have I2:Inv X pins σ (upd H s.heap.objs.size (.tup [kV k,v])) { s with heap:=h2 }:=In.turnedNew (t':=s.toks) (fp:=[it]) (fun c oc hc q=>by
    simp only[mem_cons,not_mem_nil,or_false] at hc;exact(s2.2 c hc).trans (hk2 c oc hc q)) hf (le_refl _)
   ⟨by show 2≤sizeLine;decide,[key,u],.cons (wO hk) (.cons ru .nil),⟨_,(s2.2 _ (ne_of_gt hil)).trans ht,rfl,_,rfl⟩⟩
  refine⟨.ref s.heap.objs.size,_,I2,rfl,⟨_,k,v,hnew,rfl,rfl,hkv⟩,⟨key,u,by rw[hlen];exact he2⟩,fun c hc=>?_⟩
  have e:c=it:=by simpa using hc
  subst e;rw[ag (ne_of_lt hil)];exact(hf _ (by simp)).1
 done:=by
  intro X hP hw hK hc i pins s σ H E In hf st hg;subst hP hw hK;obtain⟨ha,hi⟩:=hg;obtain⟨ho,hz,hd,vs,rel,od,es,ep',hod,hr⟩:=(show s.heap.get? a=some o∧be X.prog X.w H s.heap a (.dK kvs) from In.hok a _ ha)
  rw[ho] at hod;cases hod;obtain⟨es0,he0⟩:=hep;have eep:ep'=ep:=by
   have:=hr.2.1
   rw[he0] at this;cases this;rfl
  subst eep;have hlen:=rel.length;obtain⟨f0,f1,f2,f3,f4,f5⟩:=hf it (by simp)
  obtain⟨ok,ov,st⟩:=st;have st':IsItemIter s.heap it a i vs.length ep' ok ov:=by rw[← hlen];exact st
  exact wpAny_pyNext_items_end (knd:=aU X.prog X.w) (In.ok.hd hc) st' ⟨o,es,ho,hr⟩ (List.getElem?_eq_none_iff.mpr (by omega)) fun h' eb=>⟨rfl,In.turned (t':=s.toks) (fun b ob hb e=>eb b ob hb e) f0 f1 f3 f4 f5⟩
 self:=fun _ _ _ _ _ st h=>by
  obtain⟨ok,ov,st⟩:=st;exact gz st h
noncomputable def iI (td:TE):TI:=fun σ H R=>td σ H fun x H1=>∃a,x = .ref a∧∃kvs,H1 a=some (.dK kvs)∧∀o,R (Iti a o kvs) (upd H1 a (.frz o (.dK kvs)))
theorem sU {x1} (ho:PE X oe td) (hbase:attributeBase oe "items" X.env (eval oe X.env)=eval oe X.env:=by rfl) (hline:(apos.endLine == cpos.line)=true:=by rfl) :
  PI X (.Tuple es x1 pos') (.Call (.Attribute oe "items" apos) [] [] cpos) (iI td):=by
 intro pins s σ H R I h;refine wpAny_Call_method0_late hbase hline (thn (ho pins s σ H _ I h) fun v s1 zr6193=>?_)
 obtain⟨x,H1,I1,r1,a,ex,kvs,hq,q⟩:=zr6193;subst ex;cases r1;obtain⟨hz,hd,vs,rel,od,es',ep,hod,hr⟩:=jG I1.hok hq;obtain⟨t1,t2,_⟩:=yj I1 (.inl ⟨_,.inl hq⟩);refine⟨"dict","dict.items",PySem.F.plainAttrs_dict,PySem.F.slot_dict_items,PySem.F.type_dict_items,t1,t2,?_⟩
 refine method_meetsIn PySem.F.slot_dict_items PySem.F.entry_dict_items rfl (PySem.evalArgs_none ⟨rfl,t1,PySem.F.args_dict_items_1 _,_,meets_dict_items (aU X.prog X.w) a hd,⟨vs,od,es',ep,hod,hr⟩,?_⟩)
 have hm:(s1.heap.push { cls:=.type "dict_items",data:=.fields #[.ref a] }).DictAt (aU X.prog X.w) a vs ep:=⟨od,es',Heap.get?_push_of_some _ hod,hr⟩
 refine wpAny_pyIter_items (knd:=aU X.prog X.w) (s:={ s1 with heap:=s1.heap.push { cls:=.type "dict_items",data:=.fields #[.ref a] } }) (d:=a) (kvs:=vs) (ep:=ep) ⟨_,Heap.get?_push_size _ rfl,rfl,rfl⟩ hm ?_
 have hn : ∀ob u,X.H₀ a≠some (.frz ob u):=fun ob u e=>by have:=I1.base.frzs a ob u e;rw[hq] at this;cases this
 have I2:Inv X pins σ H1 { s1 with heap:=(s1.heap.push { cls:=.type "dict_items",data:=.fields #[.ref a] }).push { cls:=.type "dict_itemiterator",data:=.fields #[.none,.bool false,.ref a,.int 0 0,.int vs.length 0,.int ep 0,.none,.none] } }:=I1.kept (t':=s1.toks) fun b o e=>Heap.get?_push_of_some _ (Heap.get?_push_of_some _ e)
 have ok2:=I2.hok a _ hq;have I3:=I2.retag (o':=.frz od (.dK kvs)) hq (by intro y z;cases z) (by intro y z;cases z) hn (by intro y z;cases z) ⟨Heap.get?_push_of_some _ (Heap.get?_push_of_some _ hod),ok2⟩
 have hlen:=rel.length;have hsz:(s1.heap.push { cls:=.type "dict_items",data:=.fields #[.ref a] }).objs.size=s1.heap.objs.size+1:=Heap.size_push ..
 refine⟨_,[(s1.heap.push { cls:=.type "dict_items",data:=.fields #[.ref a] }).objs.size],_,_,_,rfl,I3,uG a _ od kvs ep ⟨es',hr.2.1⟩,⟨.none,.none,by rw[hlen];exact Heap.get?_push_size _ rfl⟩,fun b hb=>?_,q od⟩
 have e:b=(s1.heap.push { cls:=.type "dict_items",data:=.fields #[.ref a] }).objs.size:=by simpa using hb
 subst e;have hle:s1.heap.objs.size≤(s1.heap.push { cls:=.type "dict_items",data:=.fields #[.ref a] }).objs.size:=by rw[hsz];exact le_succ _
 have hfr:H1 (s1.heap.push { cls:=.type "dict_items",data:=.fields #[.ref a] }).objs.size=none:=I1.hok.fresh hle
 obtain⟨f0,f1,f2,f3,f4,f5⟩:=I1.fpOk hle hfr;exact⟨by rw[ag (fun z=>by rw[z,hq] at hfr;cases hfr)];exact hfr,f1,f2,f3,f4,f5⟩
theorem ww {o:Obj} {g:TG} {Q:VK} {D:Addr} (Pv:Nat→List V→Hp→Prop) (h0:Pv 0 [] (upd H1 D (.lst []))) (hl : ∀i ys H,Pv i ys H→H a=some (.frz o (.dK kvs)))
  (hs : ∀(i:Nat) (k:Key) (x:V) (ys:List V) (H:Hp) (t:Addr),kvs[i]? = some (k,x)→Pv i ys H→H t=none→g (.ref t) σ0 (upd H t (.tup [kV k,x])) fun σ2 H3=>tc σ2 H3 fun c H4=>if c=true then te σ2 H4 fun v H5=>H5 D=some (.lst ys)∧ys.length < sizeLine∧Pv (i+1) (ys++[v]) (upd H5 D (.lst (ys++[v]))) else Pv (i+1) ys H4)
  (hd : ∀ys H,Pv kvs.length ys H→Q (.ref D) H):my (Iti a o kvs) σ0 g tc te Q H1 D:=by
 refine⟨fun i m ys H=>Pv i ys H∧i≤kvs.length∧m=kvs.length - i,⟨_,h0,zero_le _,rfl⟩,?_⟩
 rintro i m ys H ⟨hp,hi,rfl⟩
 have sa:=hl i ys H hp
 by_cases hin:i=kvs.length
 ·left
  subst hin;exact⟨⟨sa,le_refl _⟩,hd ys H hp⟩
 ·right
  have h1:i < kvs.length:=by omega
  refine⟨⟨sa,h1⟩,fun ys' H'=>Pv (i+1) ys' H',fun ys' H' h=>⟨_,by omega,h,by omega,rfl⟩,?_⟩
  rintro v H' ⟨t,k,x,ht,rfl,rfl,e1⟩
  exact hs i k x ys H t e1 hp ht
end L2
namespace PySem
open Sem (wp)
open AutoSeq1 (wpAny_loadPart')
theorem ph {Q:List Value→Shared→Prop} {r:Addr} {a b c:Int} {t u v:Tok} (hh:A.handled=none) (hr:IsRange s.heap r a b c t u v) (hsmall:Builtin.Range.small a b c=true)
  (hn:Builtin.Range.rangeSize a b c=n) (hlen:n≤2 ^ 24)
  (hQ : ∀h' tk (acc:Array Value),(∀b o,s.heap.get? b=some o→h'.get? b=some o)→s.heap.objs.size < h'.objs.size→ItemsOf (fun i v=>∃t,v = .int (a+i * c) t) acc n→Q acc.toList { s with heap:=h',toks:=tk }) :
  wpAny (model prog w) A (collect (.ref r)) Q E s:=by
 unfold collect;refine wpAny_bind (wpAny_runValue (codeAny_builtin F.entry_proto_collect ?_))
 rw[Around.under_plainId F.plain_proto_collect _]
 show wpAny _ A.in1 (newList [] >>= fun l=>again (.builtin "list.__iadd__" ⟨[l,.ref r],[]⟩)) _ _ s
 refine wpAny_bind (wpAny_newObj_type ?_)
 refine wpAny_pure ⟨plainId_quiet F.plain_list_iadd _,codeAny_builtin F.entry_list_iadd ?_⟩
 rw[Around.under_plainId F.plain_list_iadd _]
 show wpAny _ A.in1 (Builtin.List.listExtendWith (.ref s.heap.objs.size) (.ref r) (.ref s.heap.objs.size)) _ _ _
 have hS:(s.heap.push { cls:=.type "list",data:=.seq ([]:List Value).toArray }).get? s.heap.objs.size=some { cls:=.type "list",data:=.seq #[] 0 }:=Heap.get?_push_size _ rfl
 have fin' : ∀(s':Shared),(∃h' tk acc' c',s'={ s with heap:=h',toks:=tk }∧(∀b o,s.heap.get? b=some o→h'.get? b=some o)∧h'.get? s.heap.objs.size=some { cls:=.type "list",dict:=none,data:=.seq acc' c',slots := #[] }∧ItemsOf (fun i v=>∃t,v = .int (a+i * c) t) acc' n) →
   wpAny (model prog w) A (match Value.ref s.heap.objs.size with
   | Value.ref a=>do
    match (← load a).data with
     | Data.seq xs _=>pure xs.toList
     | _=>unsupported "internal:collect"
   | _=>unsupported "internal:collect") Q E s':=by
  rintro s' ⟨h',tk,acc',c',rfl,hk,hS',hacc⟩
  show wpAny _ A (load s.heap.objs.size >>= _) _ _ _
  refine wpAny_bind (wpAny_load hS' ?_)
  exact wpAny_pure (hQ h' tk acc' hk (Heap.lt_size hS') hacc)
 refine wpAny_mono (wpAny_extend_range (A:=A) (R:=fun x s'=>x = .ok (.ret (.ref s.heap.objs.size))∧∃h' tk acc' c',s'={ s with heap:=h',toks:=tk }∧(∀b o,s.heap.get? b=some o→h'.get? b=some o)∧h'.get? s.heap.objs.size=some { cls:=.type "list",dict:=none,data:=.seq acc' c',slots := #[] }∧ItemsOf (fun i v=>∃t,v = .int (a+i * c) t) acc' n)
  (s:={ s with heap:=s.heap.push { cls:=.type "list",data:=.seq ([]:List Value).toArray } }) hh (Heap.get?_push_of_some _ hr) hsmall hn hlen _ _ 0 hS fun h' tk acc' c' hk hS' hacc=>⟨rfl,h',tk,acc',c',rfl,fun b o e=>hk b o (ne_of_lt (Heap.lt_size e)) (Heap.get?_push_of_some _ e),hS',hacc⟩) (fun fin s' h=>?_) (fun e s' h=>?_)
 ·cases fin with
  | done f =>
   obtain⟨e,q⟩:=h;cases e;exact fin' _ q
  | again c'=>exact⟨h.1,codeAny_mono h.2 fun r s'' hr=>by obtain⟨rfl,q⟩:=hr;exact fin' _ q⟩
 ·exact absurd h.1 (by simp)
end PySem
namespace L2
open PySem PySem.Spec PyProof.Rows
theorem sf (h:ItemsOf (fun i v=>∃t,v=Value.int (0+i * 1) t) acc n):aT (jP 0 n) acc.toList:=by
 have key : ∀(k:Nat) (us:List Value),(∀(j:Nat) v,us[j]? = some v→∃t,v=Value.int ((k:Int)+j) t)→aT ((range' k us.length).map fun i:Nat=>V.int (0+(i:Int))) us:=by
  intro k us
  induction us generalizing k with
  | nil=>intro _;exact .nil
  | cons u us ih =>
   intro hu;rw[length_cons,List.range'_succ,map_cons];refine .cons ?_ (ih (k+1) fun j v e=>?_)
   ·obtain⟨t,rfl⟩:=hu 0 u rfl
    exact⟨t,by simp⟩
   ·obtain⟨t,rfl⟩:=hu (j+1) v (by simpa using e)
    exact⟨t,by congr 1;push_cast;omega⟩
 have:=key 0 acc.toList fun j v e=>by
  obtain⟨t,rfl⟩:=h.2 j v (by simpa using e)
  exact⟨t,by simp⟩
 rw[length_toList,h.1,← List.range_eq_range'] at this;exact this
noncomputable def Bm (neg:Bool):R2:=fun x y H Q=>∃i,x = .bl i∧∃j,y = .bl j∧Q (.bl (xor neg (decide (i=j)))) H
theorem ma:OpR X (compareOp .IsNot) (Bm true):=by
 intro pins s σ H x y v u Q I rx ry h;obtain⟨i,rfl,j,rfl,q⟩:=h;cases rx;cases ry;cases i <;> cases j <;> exact wpAny_pure (ba I q rfl)
end L2
namespace PySem.SeqAt
open AutoSeq1 (wpAny_loadPart')
open MeetsSeq MeetsSeq2 MeetsSeq3 SeqRoads2
theorem AR (la lb:Addr) (x1 x2 y1 y2:Value) (nx ny:Nat) (dx dy:Option Addr) (sx sy:Array (Option Value)) :
  MeetsIn prog w (Builtin.«tuple.__ne__» ⟨[.ref la,.ref lb],[]⟩)
   (fun A R s=>s.heap.get? la=some ⟨.type "tuple",dx,.seq #[x1,x2] nx,sx⟩∧s.heap.get? lb=some ⟨.type "tuple",dy,.seq #[y1,y2] ny,sy⟩ ∧
    AlikeIn prog w A.in1 s x1 y1∧AlikeIn prog w A.in1 s x2 y2∧R (.ok (.ret (.bool false))) s):=by
 intro A R s hh;obtain⟨h0,g0,d0,t0,o0⟩:=s;obtain⟨ha,hb,h1,h2,hR⟩:=hh;have a1 : ∀{E:Value→Shared→Prop} {Q:Bool→Shared→Prop},Q true ⟨h0,g0,d0,t0,o0⟩→wpAny (model prog w) A.in1 (eqBool x1 y1) Q E ⟨h0,g0,d0,t0,o0⟩:=fun h=>h1 _ _ h
 have a2 : ∀{E:Value→Shared→Prop} {Q:Bool→Shared→Prop},Q true ⟨h0,g0,d0,t0,o0⟩→wpAny (model prog w) A.in1 (eqBool x2 y2) Q E ⟨h0,g0,d0,t0,o0⟩:=fun h=>h2 _ _ h
 have fs:=AutoSeq1.sub_tuple_tuple
 wp_walk using wpAny_loadPart' ha,wpAny_loadPart' hb,a1,a2
 exact hR
theorem ne_pairIn {la lb:Addr} {x1 x2 y1 y2:Value} (ha:PyProof.Rows.IsTup s.heap la #[x1,x2]) (hb:PyProof.Rows.IsTup s.heap lb #[y1,y2]) (hu:A.units < cLine)
  (h1:AlikeIn prog w A.in1 s x1 y1) (h2:AlikeIn prog w A.in1 s x2 y2) (h:Q (.bool false) s):wpAny (model prog w) A (compareOp .NotEq (.ref la) (.ref lb)) Q E s:=by
 obtain⟨⟨c1,d1,e1,s1⟩,o1,k1,n1,m1⟩:=ha;obtain⟨⟨c2,d2,e2,s2⟩,o2,k2,n2,m2⟩:=hb;simp only at k1 m1 k2 m2;subst k1 m1 k2 m2;refine wpAny_richCompare_same_room (op:=.NotEq) ⟨_,o1,rfl⟩ ⟨_,o2,rfl⟩ F.slot_tuple_ne ?_ hu
 exact call_meetsIn F.slot_tuple_ne ⟨_,o1,rfl⟩ F.entry_tuple_ne (F.args_tuple_ne_2 _ _) (AR la lb x1 x2 y1 y2 n1 n2 d1 d2 s1 s2) ⟨o1,o2,h1,h2,(fun x=>nomatch x),h⟩
end PySem.SeqAt
namespace L2
open PySem PySem.Spec PyProof.Rows
theorem sJ (I:Inv X pins σ H s) (hu:X.A.units+10 < cLine) {d1 d2:Addr} {kvs:List (Key × V)} (h1:H d1=some (.dK kvs)) (h2:H d2=some (.dK kvs)) (hp : ∀p∈kvs,dQ p.2=true):SeqAt.AlikeIn X.prog X.w X.A.in1 s (.ref d1) (.ref d2):=by
 intro E Q' hq;unfold eqBool;refine wpAny_holding ?_
 refine wpAny_ite_split (fun _=>wpAny_bind (wpAny_rule (wpAny_pure hq))) (fun _=>wpAny_bind ?_)
 obtain⟨z,hd1,vs,rel,dd⟩:=jG I.hok h1;obtain⟨z2,hd2,vs2,rel2,dd2⟩:=jG I.hok h2;have hn:(vs.map (·.1)).Nodup:=let ⟨_,_,_,_,_,_,_,_,hn⟩:=dd;hn
 rw[← rel.keys] at hn;refine keq_eq (r:=true) hd1 hd2 dd dd2 (by show X.A.units+1 < cLine;omega) (fun _=>xx rel2 rel fun p hp'=>⟨jp hn hp',hp p hp'⟩) ?_
 rw[← rel.length,← rel2.length,beq_self_eq_true];exact wpAny_truthy_bool hq
end L2
namespace PySem.W
open PySem PySem.Calls PyProof.Rows
noncomputable def KasT.Tru {α:Type} (n:Nat) (lt:Nat→Nat→Bool) (P:α→Prop):KasT α→Prop
 | .ret a=>P a
 | .ask i j k=>i < n∧j < n∧(k (lt i j)).Tru n lt P
theorem KasT.Tru.bind {α β:Type} {n:Nat} {lt:Nat→Nat→Bool} {P:α→Prop} {R:β→Prop} {f:α→KasT β} : ∀{t:KasT α},t.Tru n lt P→(∀a,P a→(f a).Tru n lt R)→(t.bind f).Tru n lt R
 | .ret a,h,hf=>hf a h
 | .ask i j k,h,hf=>⟨h.1,h.2.1,KasT.Tru.bind h.2.2 hf⟩
theorem KasT.Tru.wp {α:Type} {n:Nat} {lt:Nat→Nat→Bool} {P:α→Prop} {Q:α→Shared→Prop} {s:Shared} {cmp:Nat→Nat→(Bool→Shared→Prop)→Shared→Prop}
  (hc : ∀i j C,i < n→j < n→C (lt i j) s→cmp i j C s) (hq : ∀a,P a→Q a s) : ∀{t:KasT α},t.Tru n lt P→t.kasWp cmp Q s
 | .ret a,h=>hq a h
 | .ask i j k,h=>hc i j _ h.1 h.2.1 (KasT.Tru.wp hc hq h.2.2)
structure Ord (lt:Nat→Nat→Bool):Prop where
 asym : ∀{a b},lt a b=true→lt b a=false
 neg : ∀{a b c},lt b a=false→lt c b=false→lt c a=false
theorem Ord.irr {lt:Nat→Nat→Bool} (O:Ord lt) (a:Nat):lt a a=false:=by
 cases h:lt a a with
 | false=>rfl
 | true=>exact absurd (h.symm.trans (O.asym h)) (by decide)
noncomputable def Srt (lt:Nat→Nat→Bool) (p:Array Nat) (m:Nat):Prop:=∀i j,i < j→j < m→lt (p.getD j 0) (p.getD i 0)=false
noncomputable def Dsc (lt:Nat→Nat→Bool) (p:Array Nat) (m:Nat):Prop:=∀i j,i < j→j < m→lt (p.getD i 0) (p.getD j 0)=false
noncomputable def Evn (lt:Nat→Nat→Bool) (p:Array Nat) (l m:Nat):Prop:=∀i j,l≤i→i < m→l≤j→j < m→lt (p.getD i 0) (p.getD j 0)=false
theorem fh {i:Nat} (hj:j≤p.size) (k:Nat):(kas_rev p i j).getD k 0=if i≤k∧k < j then p.getD (i+j - 1 - k) 0 else p.getD k 0:=by
 have e:=getElem?_mirror_all (xs:=p) (i:=i) hj k;unfold kas_rev;rw[getD_eq_getD_getElem?,e,getD_eq_getD_getElem?,getD_eq_getD_getElem?]
 split <;> rfl
theorem yh {src d:Nat} (hs:src < p.size) (hd:d≤src) (k:Nat):(bubble p src d).getD k 0=if k=src - d then p.getD src 0 else if src - d < k∧k≤src then p.getD (k - 1) 0 else p.getD k 0:=by
 have e:=getElem?_bubble hs d hd k;rw[getD_eq_getD_getElem?,e,getD_eq_getD_getElem?,getD_eq_getD_getElem?,getD_eq_getD_getElem?]
 split
 ·rfl
 ·split <;> rfl
theorem bc.size {n:Nat} {p:Array Nat} (h:bc n p):p.size=n:=by
 have:=h.length_eq
 simpa using this
section
variable {lt:Nat→Nat→Bool} (hn:0 < n) (O:Ord lt)
include hn O
theorem gJ {p:Array Nat} (h:bc n p) : ∀(f m:Nat),1≤m→Srt lt p m→(kas_asc p f m).Tru n lt fun r=>Srt lt p r∧m≤r∧r≤m+f∧(r=m+f∨lt (p.getD r 0) (p.getD (r - 1) 0)=true)
 | 0,m,h1,hs=>⟨hs,le_refl _,le_refl _,.inl rfl⟩
 | f + 1,m,h1,hs=>by
  refine⟨h.lt hn _,h.lt hn _,?_⟩
  cases c:lt (p.getD m 0) (p.getD (m - 1) 0) with
  | true =>
   simp only[if_true];exact⟨hs,le_refl _,by omega,.inr c⟩
  | false =>
   simp only[Bool.false_eq_true,if_false];have hs':Srt lt p (m+1):=fun i j hij hj=>by
    by_cases hjm:j < m
    ·exact hs i j hij hjm
    ·have ej:j=m:=by omega
     subst ej
     by_cases hi:i=j - 1
     ·rw[hi];exact c
     ·exact O.neg (hs i (j - 1) (by omega) (by omega)) c
   have ih:=gJ h f (m+1) (by omega) hs'
   have mono : ∀{t:KasT Nat} {P R:Nat→Prop},t.Tru n lt P→(∀a,P a→R a)→t.Tru n lt R:=by
    intro t
    induction t with
    | ret a=>intro P R x y;exact y a x
    | ask i j k ih=>intro P R x y;exact⟨x.1,x.2.1,ih _ x.2.2 y⟩
   exact mono ih fun r zq29=>by obtain⟨a,b,c,d⟩:=zq29;exact(⟨a,by omega,by omega,by rcases d with d | d;exact .inl (by omega);exact .inr d⟩)
theorem vC {l m:Nat} (h:bc n p) (hm:m≤n) (hd:Dsc lt p m) (he:Evn lt p l m):Dsc lt (kas_rev p l m) m∧∀k,m≤k→(kas_rev p l m).getD k 0=p.getD k 0:=by
 have hz:=h.size;refine⟨fun i j hij hj=>?_,fun k hk=>by rw[fh (by omega),if_neg (by omega)]⟩
 rw[fh (by omega),fh (by omega)]
 by_cases a:l≤i∧i < m
 ·rw[if_pos a]
  have b:l≤j∧j < m:=⟨by omega,hj⟩
  rw[if_pos b];exact he _ _ (by omega) (by omega) (by omega) (by omega)
 ·rw[if_neg a]
  by_cases b:l≤j∧j < m
  ·rw[if_pos b]
   exact hd _ _ (by omega) (by omega)
  ·rw[if_neg b]
   exact hd _ _ hij hj
theorem mf {m:Nat} (hd:Dsc lt p m) (hl : ∀i,i < m→lt (p.getD i 0) (p.getD m 0)=false):Dsc lt p (m+1):=fun i j hij hj=>by
 by_cases hjm:j < m
 ·exact hd i j hij hjm
 ·have:j=m:=by omega
  subst this;exact hl i hij
theorem mr {m:Nat} (h1:1≤m) (hd:Dsc lt p m) (c:lt (p.getD (m - 1) 0) (p.getD m 0)=false):Dsc lt p (m+1):=mf hn O hd fun i hi=>by
 by_cases e:i=m - 1
 ·rw[e];exact c
 ·exact O.neg c (hd i (m - 1) (by omega) (by omega))
theorem dY : ∀(f:Nat) (p:Array Nat) (m q:Nat),bc n p→q+1≤m→m+f≤n→Dsc lt p m→Evn lt p (m - (q+1)) m →
  (kas_desc f p m q).Tru n lt fun r=>bc n r.1∧r.2.2+1≤r.2.1∧r.2.1≤n∧Dsc lt r.1 r.2.1∧Evn lt r.1 (r.2.1 - (r.2.2+1)) r.2.1
 | 0,p,m,q,h,h1,h2,hd,he=>⟨h,h1,by simpa using h2,hd,he⟩
 | f + 1,p,m,q,h,h1,h2,hd,he=>by
  refine⟨h.lt hn _,h.lt hn _,?_⟩
  have one : ∀p':Array Nat,Evn lt p' (m+1 - (0+1)) (m+1):=fun p' i j a b c d=>by
   have e1:i=m:=by omega
   have e2:j=m:=by omega
   rw[e1,e2];exact O.irr _
  cases c:lt (p.getD m 0) (p.getD (m - 1) 0) with
  | true =>
   simp only[if_true]
   split
   ·obtain⟨d1,k1⟩:=vC hn O h (by omega) hd he
    refine dY f _ _ _ (h.rev _ _) (by omega) (by omega) (mr hn O (by omega) d1 ?_) (one _)
    rw[k1 m (le_refl _)];rw[fh (by rw[h.size];omega),if_pos (by omega)]
    have e1:=he (m - 1) (m - (q+1)+m - 1 - (m - 1)) (by omega) (by omega) (by omega) (by omega)
    exact O.neg (O.asym c) (he _ (m - 1) (by omega) (by omega) (by omega) (by omega))
   ·exact dY f _ _ _ h (by omega) (by omega) (mr hn O (by omega) hd (O.asym c)) (one _)
  | false =>
   simp only[Bool.false_eq_true,if_false];refine⟨h.lt hn _,h.lt hn _,?_⟩
   cases d:lt (p.getD (m - 1) 0) (p.getD m 0) with
   | true=>simp only[if_true];exact⟨h,h1,by show m≤n;omega,hd,he⟩
   | false =>
    simp only[Bool.false_eq_true,if_false];refine dY f _ _ _ h (by omega) (by omega) (mr hn O (by omega) hd d) fun i j a b a' b'=>?_
    by_cases hi:i < m
    ·by_cases hj:j < m
     ·exact he i j (by omega) hi (by omega) hj
     ·have ej:j=m:=by omega
      subst ej;exact O.neg d (he i (j - 1) (by omega) hi (by omega) (by omega))
    ·have ei:i=m:=by omega
     subst ei
     by_cases hj:j < i
     ·exact O.neg (he (i - 1) j (by omega) (by omega) (by omega) hj) c
     ·have ej:j=i:=by omega
      rw[ej];exact O.irr _
theorem iG {m:Nat} (h:bc n p) (h1:1≤m) (h2:m≤n) (hd:Dsc lt p m):(kas_tail3 m n p).Tru n lt fun r=>bc n r.2∧Srt lt r.2 r.1∧r.1≤n∧1≤r.1:=by
 refine(gJ hn O (h.rev 0 m) _ _ h1 fun i j hij hj=>?_).bind fun r zq30=>by obtain⟨a,b,c,_⟩:=zq30;exact(⟨h.rev 0 m,a,by omega,by show 1≤r;omega⟩)
 rw[fh (by rw[h.size];omega),fh (by rw[h.size];omega),if_pos (by omega),if_pos (by omega)]
 exact hd _ _ (by omega) (by omega)
theorem fJ {m:Nat} (h:bc n p) (h1:1≤m) (h2:m < n) (hd:Dsc lt p (m+1)):(kas_descPart m n p).Tru n lt fun r=>bc n r.2∧Srt lt r.2 r.1∧r.1≤n∧1≤r.1:=by
 refine(dY hn O _ p _ _ h (by omega) (by omega) hd fun i j a b c d=>?_).bind fun r ⟨a,b,c,d,e⟩=>?_
 ·have e1:i=m:=by omega
  have e2:j=m:=by omega
  rw[e1,e2];exact O.irr _
 ·split
  ·exact iG hn O (bc.rev a _ _) (by omega) c (vC hn O a c d e).1
  ·exact iG hn O a (by omega) c d
theorem oY (h:bc n p):(kas_count n p).Tru n lt fun r=>bc n r.2∧Srt lt r.2 r.1∧r.1≤n∧1≤r.1:=by
  refine(gJ hn O h _ _ (le_refl _) fun i j a b=>by omega).bind fun m zr6490=>?_
  obtain⟨a,b,c,d⟩:=zr6490
  split
  · exact⟨h,a,by show m≤n;omega,b⟩
  · rename_i hne
    have hne:m≠n:=fun e=>hne (by simp[e])
    have hlt:lt (p.getD m 0) (p.getD (m - 1) 0)=true:=by
      rcases d with d | d
      · omega
      · exact d
    split
    · refine⟨h.lt hn _,h.lt hn _,?_⟩
      cases e:lt (p.getD 0 0) (p.getD (m - 1) 0) with
      | true=>simp only[if_true];exact⟨h,a,by show m≤n;omega,b⟩
      | false =>
        simp only[Bool.false_eq_true,if_false];have ev : ∀i j,i < m→j < m→lt (p.getD i 0) (p.getD j 0)=false:=fun i j hi hj=>by
          have u1:lt (p.getD (m - 1) 0) (p.getD j 0)=false:=by
            by_cases q:j=m - 1
            · rw[q];exact O.irr _
            · exact a j (m - 1) (by omega) (by omega)
          have u2:lt (p.getD i 0) (p.getD 0 0)=false:=by
            by_cases q:i=0
            · rw[q];exact O.irr _
            · exact a 0 i (by omega) hi
          exact O.neg (O.neg u1 e) u2
        refine fJ hn O (h.rev _ _) b (by omega) (mf hn O (fun i j hij hj=>?_) fun i hi=>?_)
        · rw[fh (by rw[h.size];omega),fh (by rw[h.size];omega),if_pos (by omega),if_pos (by omega)]
          exact ev _ _ (by omega) (by omega)
        · rw[fh (by rw[h.size];omega),fh (by rw[h.size];omega),if_pos (by omega),if_neg (by omega)]
          exact O.neg (O.asym hlt) (ev _ (m - 1) (by omega) (by omega))
    · have e1:m=1:=by omega
      subst e1;refine fJ hn O h b (by omega) (mf hn O (fun i j a b=>by omega) fun i hi=>?_)
      have:i=1 - 1:=by omega
      rw[this];exact O.asym hlt
theorem fA {p:Array Nat} {k:Nat} (h:bc n p) (hs:Srt lt p k) : ∀(f l r:Nat),r - l≤f→l≤r→r≤k→(∀i,i < l→lt (p.getD k 0) (p.getD i 0)=false)→(∀i,r≤i→i < k→lt (p.getD k 0) (p.getD i 0)=true) →
  (kas_place p k f l r).Tru n lt fun a=>a≤k∧(∀i,i < a→lt (p.getD k 0) (p.getD i 0)=false)∧∀i,a≤i→i < k→lt (p.getD k 0) (p.getD i 0)=true
 | 0,l,r,hf,hlr,hrk,h1,h2=>⟨by show l≤k;omega,h1,fun i hi hk=>h2 i (by omega) hk⟩
 | f + 1,l,r,hf,hlr,hrk,h1,h2=>by
  unfold kas_place
  split
  ·exact⟨by show l≤k;omega,h1,fun i hi hk=>h2 i (by omega) hk⟩
  ·refine⟨h.lt hn _,h.lt hn _,?_⟩
   cases c:lt (p.getD k 0) (p.getD ((l+r) / 2) 0) with
   | true =>
    simp only[if_true];refine fA h hs f _ _ (by omega) (by omega) (by omega) h1 fun i hi hk=>?_
    by_cases e:i=(l+r) / 2
    ·rw[e];exact c
    ·cases z:lt (p.getD k 0) (p.getD i 0) with
     | true=>rfl
     | false=>exact absurd ((O.neg (hs _ i (show(l+r) / 2 < i by omega) hk) z).symm.trans c) (by decide)
   | false =>
    simp only[Bool.false_eq_true,if_false];refine fA h hs f _ _ (by omega) (by omega) (by omega) (fun i hi=>?_) h2
    by_cases e:i=(l+r) / 2
    ·rw[e];exact c
    ·exact O.neg (hs i _ (show i < (l+r) / 2 by omega) (by omega)) c
theorem kD : ∀(f:Nat) (p:Array Nat) (k:Nat),bc n p→k+f=n→Srt lt p k→(kas_bin f p k).Tru n lt fun r=>bc n r∧Srt lt r n
 | 0,p,k,h,e,hs=>⟨h,(show k=n by omega) ▸ hs⟩
 | f + 1,p,k,h,e,hs=>(fA hn O h hs k 0 k (by omega) (by omega) (le_refl _) (fun i hi=>by omega) (fun i a b=>by omega)).bind fun l ⟨a,b,c⟩=>by
  refine kD f _ _ (h.bub _ _) (by omega) fun i j hij hj=>?_
  have hz:=h.size;rw[yh (by omega) (by omega),yh (by omega) (by omega)]
  have ekl:k - (k - l)=l:=by omega
  rw[ekl]
  by_cases hjl:j=l
  ·rw[if_pos hjl,if_neg (by omega),if_neg (by omega)]
   exact b i (by omega)
  ·rw[if_neg hjl]
   by_cases hj2:l < j∧j≤k
   ·rw[if_pos hj2]
    by_cases hil:i=l
    ·rw[if_pos hil]
     exact O.asym (c (j - 1) (by omega) (by omega))
    ·rw[if_neg hil]
     by_cases hi2:l < i∧i≤k
     ·rw[if_pos hi2]
      exact hs _ _ (by omega) (by omega)
     ·rw[if_neg hi2]
      by_cases q:i=j - 1
      ·omega
      ·exact hs _ _ (by omega) (by omega)
   ·rw[if_neg hj2,if_neg (by omega),if_neg (by omega)]
    exact hs _ _ hij (by omega)
theorem qK:(kas_sort n).Tru n lt fun r=>bc n r∧Srt lt r n:=by
 refine(oY hn O (p:=List.toArray (range n)) (by show(range n).toArray.toList.Perm _;simp)).bind fun r ⟨a,b,c,d⟩=>?_
 have e:max r.1 1=r.1:=by omega
 rw[e]
 split
 ·exact kD hn O _ _ _ a (by omega) b
 ·have:r.1=n:=by omega
  rw[this] at b;exact⟨a,b⟩
end
inductive Ky where
 | s (x:Str) | i (n:Int) | r (l:List Int)
noncomputable def Ky.tag:Ky→Nat | .s _=>0 | .i _=>1 | .r _=>2
noncomputable def Ky.lt:Ky→Ky→Bool
 | .s x,.s y=>decide (x.cps.toList < y.cps.toList)
 | .i a,.i b=>decide (a < b)
 | .r l,.r m=>decide (l < m)
 | .s _,.i _=>true
 | .s _,.r _=>true
 | .i _,.r _=>true
 | _,_=>false
noncomputable def Ky.le (a b:Ky):Prop:=b.lt a=false
theorem Ky.asym : ∀{a b:Ky},a.lt b=true→b.lt a=false
 | .s x,.s y,h=>by simp only[Ky.lt,decide_eq_true_eq,decide_eq_false_iff_not] at h ⊢;exact fun z=>List.lt_irrefl _ (List.lt_trans h z)
 | .i x,.i y,h=>by simp only[Ky.lt,decide_eq_true_eq,decide_eq_false_iff_not] at h ⊢;omega
 | .r x,.r y,h=>by simp only[Ky.lt,decide_eq_true_eq,decide_eq_false_iff_not] at h ⊢;exact fun z=>List.lt_irrefl _ (List.lt_trans h z)
 | .s _,.i _,_=>rfl
 | .s _,.r _,_=>rfl
 | .i _,.r _,_=>rfl
 | .i _,.s _,h=>by cases h
 | .r _,.s _,h=>by cases h
 | .r _,.i _,h=>by cases h
theorem Ky.le_trans : ∀{a b c:Ky},a.le b→b.le c→a.le c
 | .s x,.s y,.s z,h,g=>by simp only[Ky.le,Ky.lt,decide_eq_false_iff_not] at h g ⊢;exact List.le_trans (show x.cps.toList≤y.cps.toList from h) (show y.cps.toList≤z.cps.toList from g)
 | .i x,.i y,.i z,h,g=>by simp only[Ky.le,Ky.lt,decide_eq_false_iff_not] at h g ⊢;omega
 | .r x,.r y,.r z,h,g=>by simp only[Ky.le,Ky.lt,decide_eq_false_iff_not] at h g ⊢;exact List.le_trans (show x≤y from h) (show y≤z from g)
 | .s _,_,.i _,_,_=>rfl
 | .s _,_,.r _,_,_=>rfl
 | .i _,_,.r _,_,_=>rfl
 | .i _,.s _,_,h,_=>by cases h
 | .r _,.s _,_,h,_=>by cases h
 | .r _,.i _,_,h,_=>by cases h
 | _,.i _,.s _,_,g=>by cases g
 | _,.r _,.s _,_,g=>by cases g
 | _,.r _,.i _,_,g=>by cases g
theorem Ky.le_antisymm : ∀{a b:Ky},a.le b→b.le a→a=b
 | .s x,.s y,h,g=>by
  simp only[Ky.le,Ky.lt,decide_eq_false_iff_not] at h g;have:=List.le_antisymm (show x.cps.toList≤y.cps.toList from h) (show y.cps.toList≤x.cps.toList from g)
  cases x;cases y
  congr 1
  congr 1
  exact toList_inj.mp this
 | .i x,.i y,h,g=>by simp only[Ky.le,Ky.lt,decide_eq_false_iff_not] at h g;congr 1;omega
 | .r x,.r y,h,g=>by simp only[Ky.le,Ky.lt,decide_eq_false_iff_not] at h g;congr 1;exact List.le_antisymm (show x≤y from h) (show y≤x from g)
 | .s _,.i _,_,g=>by cases g
 | .s _,.r _,_,g=>by cases g
 | .i _,.r _,_,g=>by cases g
 | .i _,.s _,h,_=>by cases h
 | .r _,.s _,h,_=>by cases h
 | .r _,.i _,h,_=>by cases h
theorem Ky.le_of_not {a b:Ky} (h : ¬ a.le b):b.le a:=by
 unfold Ky.le at *;cases e:b.lt a with
 | false=>exact absurd e h
 | true=>exact Ky.asym e
noncomputable def ltK (ks:List Ky) (i j:Nat):Bool:=(ks.getD i (.i 0)).lt (ks.getD j (.i 0))
theorem A0 (ks:List Ky):Ord (ltK ks):=⟨fun h=>Ky.asym h,fun h g=>Ky.le_trans h g⟩
noncomputable def VKy (h:Heap) (v:Value):Ky→Prop
 | .s x=>∃t,v = .str x t
 | .i n=>∃t,v = .int n t
 | .r l=>∃a its,v = .ref a∧IsTup h a its.toArray∧IntsAre its l
theorem VKy.keep : ∀{k:Ky},VKy h v k→(∀b o,h.get? b=some o→h'.get? b=some o)→VKy h' v k
 | .s _,x,_=>x
 | .i _,x,_=>x
 | .r _,⟨a,its,e,⟨o,q,c⟩,z⟩,k=>⟨a,its,e,⟨o,k _ _ q,c⟩,z⟩
noncomputable def jU:List Int→List Int→Bool→Bool
 | a :: l,b :: m,f=>if a == b then jU l m f else decide (a < b)
 | _,_,f=>f
theorem qj : ∀(l m:List Int),jU l m (decide (l.length < m.length))=decide (l < m)
 | [],[]=>by simp[jU]
 | [],b :: m=>by simp[jU]
 | a :: l,[]=>by simp[jU]
 | a :: l,b :: m=>by
  have ih:=qj l m;unfold jU;have e:decide ((a :: l).length < (b :: m).length)=decide (l.length < m.length):=by simp
  rw[e]
  by_cases h:a=b
  ·subst h
   rw[if_pos (by simp),ih]
   exact decide_eq_decide.mpr (by rw[List.cons_lt_cons_iff];simp)
  ·rw[if_neg (by simpa using h)]
   exact decide_eq_decide.mpr (by rw[List.cons_lt_cons_iff];simp[h])
theorem sC {fin:Bool} {Q:Bool→Shared→Prop} : ∀{us vs:List Value} {l m:List Int} (i:Nat),IntsAre us l→IntsAre vs m→Q (jU l m fin) s→KatLex prog w A true fin Q (us.zip vs) i s
 | _,_,_,_,i,.nil,_,h=>kat_nil (by simpa [jU] using h)
 | _,_,_,_,i,.cons _ _ _,.nil,h=>kat_nil (by simpa [jU] using h)
 | _,_,_,_,i,.cons a t (vs:=us) (ns:=l) hu,.cons b t' (vs:=vs) (ns:=m) hv,h=>by
  unfold jU at h;refine kat_cons (wpAny_eqBool_int ?_)
  cases e:a == b with
  | true =>
   rw[e] at h;exact kat_yes (sC (i+1) hu hv (by simpa using h))
  | false =>
   rw[e] at h;have h':Q (decide (a < b)) s:=by simpa using h
   refine kat_no ?_
   cases i with
   | zero=>exact oneLt_int h'
   | succ i=>exact kat_one _ _ (lt_int h')
noncomputable def qB (t:Nat):SortKind:=if t=2 then tuples' true else oneType'
theorem Dg {x y:Value} {a b:Ky} {Q:Bool→Shared→Prop} (hx:VKy s.heap x a) (hy:VKy s.heap y b) (ht:a.tag=b.tag) (h:Q (a.lt b) s):wpAny (model prog w) A (keyLt' (qB a.tag) x y) Q E s:=by
 cases a with
 | s p =>
  cases b <;> first | cases ht | skip
  obtain⟨t,rfl⟩:=hx;obtain⟨t',rfl⟩:=hy
  show wpAny _ _ (keyLt' oneType' _ _) _ _ _
  rw[keyLt'_oneType];exact oneLt_str h
 | i p =>
  cases b <;> first | cases ht | skip
  obtain⟨t,rfl⟩:=hx;obtain⟨t',rfl⟩:=hy
  show wpAny _ _ (keyLt' oneType' _ _) _ _ _
  rw[keyLt'_oneType];exact oneLt_int h
 | r p =>
  cases b <;> first | cases ht | skip
  obtain⟨c,us,rfl,⟨o,e,ec,n,ed⟩,hu⟩:=hx;obtain⟨c',us',rfl,⟨o',e',ec',n',ed'⟩,hu'⟩:=hy
  show wpAny _ _ (keyLt' (tuples' true) _ _) _ _ _
  refine kat_lt e ed e' ed' (sC 0 hu hu' ?_)
  have e1:us.toArray.size=p.length:=by rw[size_toArray,hu.length]
  have e2:us'.toArray.size=_:=(by rw[size_toArray,hu'.length])
  rw[e1,e2,qj];exact h
theorem wf {h:Heap} : ∀{vs:List Value} {ks:List Ky},PySem.Paired (VKy h) vs ks→(∀k∈ks,k.tag=0∧k≠.r [])→∃ss,StrsAre vs ss
 | _,_,.nil,_=>⟨[],.nil⟩
 | _,_,.cons (a:=v) (b:=k) r t,hk=>by
  obtain⟨ss,e⟩:=wf t fun k h=>hk k (mem_cons_of_mem _ h)
  have:=(hk k mem_cons_self).1
  cases k with
  | s x=>obtain⟨t,rfl⟩:=r;exact⟨x :: ss,.cons x t e⟩
  | i x=>cases this
  | r x=>cases this
theorem vY {h:Heap} : ∀{vs:List Value} {ks:List Ky},PySem.Paired (VKy h) vs ks→(∀k∈ks,k.tag=1∧k≠.r [])→∃ss,IntsAre vs ss
 | _,_,.nil,_=>⟨[],.nil⟩
 | _,_,.cons (a:=v) (b:=k) r t,hk=>by
  obtain⟨ss,e⟩:=vY t fun k h=>hk k (mem_cons_of_mem _ h)
  have:=(hk k mem_cons_self).1
  cases k with
  | i x=>obtain⟨t,rfl⟩:=r;exact⟨x :: ss,.cons x t e⟩
  | s x=>cases this
  | r x=>cases this
theorem wG {h:Heap} : ∀{vs:List Value} {ks:List Ky},PySem.Paired (VKy h) vs ks→(∀k∈ks,k.tag=2∧k≠.r [])→∃fs,fs.length=vs.length∧KatTups h vs fs∧∀f∈fs,∃n t,f=Value.int n t
 | _,_,.nil,_=>⟨[],rfl,.nil,fun _ h=>by simp at h⟩
 | _,_,.cons (a:=v) (b:=k) r t,hk=>by
  obtain⟨fs,e0,e,hf⟩:=wG t fun k h=>hk k (mem_cons_of_mem _ h)
  have:=hk k mem_cons_self
  cases k with
  | i x=>cases this.1
  | s x=>cases this.1
  | r x =>
   obtain⟨a,its,rfl,⟨o,e1,ec,n,ed⟩,hu⟩:=r;cases hu with
   | nil=>exact absurd rfl this.2
   | cons m t hu =>
    refine⟨.int m t :: fs,by simp[e0],.cons e1 ec ed (by simp) e,fun f h=>?_⟩
    rcases mem_cons.mp h with q | q
    ·exact⟨m,t,q⟩
    ·exact hf f q
theorem wD {vs:List Value} {ks:List Ky} {t:Nat} {Q:SortKind→Shared→Prop} (hp:PySem.Paired (VKy s.heap) vs ks) (ht : ∀k∈ks,k.tag=t∧k≠.r []) (h2:2≤vs.length) (h:Q (qB t) s):wpAny (model prog w) A (keyKind' vs.toArray) Q E s:=by
 have hl:vs.length=ks.length:=PySem.Paired.length hp
 obtain⟨v1,v2,rest,rfl⟩ : ∃v1 v2 rest,vs=v1 :: v2 :: rest:=by
  match vs,h2 with
  | v1 :: v2 :: rest,_=>exact⟨v1,v2,rest,rfl⟩
 match t with
 | 0 =>
  obtain⟨ss,e⟩:=wf hp ht;rw[keyKind_strs e];exact wpAny_pure h
 | 1 =>
  obtain⟨ss,e⟩:=vY hp ht;rw[keyKind_ints e];exact wpAny_pure h
 | 2 =>
  obtain⟨fs,e0,e,hf⟩:=wG hp ht;refine kat_kind (T:=.type "int") e (by rw[e0];simp) (fun v hv=>?_) (by decide) h
  obtain⟨x,t,rfl⟩:=hf v hv;exact Looks.of_pure rfl
 | t + 3 =>
  cases hp with
  | cons r _ =>
   rename_i k _ _
   have:=(ht k mem_cons_self).1
   cases k <;> simp[Ky.tag] at this
theorem kw {α β:Type} {R:α→β→Prop} {d:α} {e:β} : ∀{l:List α} {m:List β} (i:Nat),PySem.Paired R l m→i < l.length→R (l.getD i d) (m.getD i e)
 | _,_,i,.nil,h=>by simp at h
 | _,_,0,.cons r _,_=>by simpa using r
 | _,_,i+1,.cons _ t,h=>by simpa using kw (d:=d) (e:=e) i t (by simpa using h)
theorem su {kvs vs:List Value} {ks:List Ky} {t:Nat} {Q:SortSt→Shared→Prop} (hp:PySem.Paired (VKy s.heap) kvs ks) (hl:kvs.length=vs.length) (ht : ∀k∈ks,k.tag=t∧k≠.r []) (h2:2≤vs.length) (h64:vs.length < 64)
  (h : ∀(p:Array Nat) (st:SortSt),p.size=vs.length→arrOf st=p.map (kas_item (kvs.toArray.zip vs.toArray))→failedOf st=none→bc vs.length p→Srt (ltK ks) p vs.length→Q st s) :
  wpAny (model prog w) A ((sortRuns').run (SortSt.mk' (qB t) (kvs.toArray.zip vs.toArray) #[] 7 none)) (fun r s'=>Q r.2 s') E s:=by
 refine kat_run (G:=fun p s'=>bc vs.length p∧Srt (ltK ks) p vs.length∧s'=s) hl h2 h64 (fun p st s' a b c zq31=>by obtain⟨d,e,f⟩:=zq31;exact(by rw[f];exact h p st a b c d e)) ?_
 refine KasT.Tru.wp (n:=vs.length) (P:=fun p=>bc vs.length p∧Srt (ltK ks) p vs.length) (fun i j C hi hj hC=>?_) (fun p hp=>⟨hp.1,hp.2,rfl⟩) (qK (by omega) (A0 ks))
 unfold kas_ask;have hkl:kvs.length=ks.length:=PySem.Paired.length hp
 have ti:(ks.getD i (.i 0)).tag=t:=(ht _ (by rw[getD_eq_getElem?_getD,List.getElem?_eq_getElem (by omega)];simp)).1
 have tj:(ks.getD j (.i 0)).tag=t:=(ht _ (by rw[getD_eq_getElem?_getD,List.getElem?_eq_getElem (by omega)];simp)).1
 have:=Dg (prog:=prog) (w:=w) (A:=A) (E:=fun _ _=>False) (Q:=C) (s:=s) (kw (d:=Value.none) (e:=Ky.i 0) i hp (by omega)) (kw (d:=Value.none) (e:=Ky.i 0) j hp (by omega)) (ti.trans tj.symm) hC
 rw[ti] at this;exact this
theorem _root_.PySem.Paired.mapP' {α β:Type} {F G:α→β→Prop} : ∀{l₁:List α} {l₂:List β},Paired F l₁ l₂→(∀a b,F a b→G a b)→Paired G l₁ l₂
 | _,_,.nil,_=>.nil
 | _,_,.cons r t,f=>.cons (f _ _ r) (PySem.Paired.mapP' t f)
theorem qF {vs:List Value} {ks:List Ky} {t:Nat} {P:PySem.Fin→Shared→Prop} (ho:s.heap.get? a=some (seqObj "list" vs.toArray n)) (h64:vs.length < 64)
  (hp : ∀h':Heap,(∀b o,b≠a→s.heap.get? b=some o→h'.get? b=some o)→Paired (VKy h') vs ks) (ht : ∀k∈ks,k.tag=t∧k≠.r [])
  (h : ∀p:Array Nat,bc vs.length p→Srt (ltK ks) p vs.length→P (.done (.ret .none)) { s with heap:=sortedHeap s.heap a vs (List.toArray (p.toList.map fun i=>vs.getD i Value.none)) }) :
  wpAny (model prog w) A (Builtin.«list.sort» ⟨[.ref a],[]⟩) P E s:=by
 rw[list_sort_plain];have ha:a < s.heap.objs.size:=Heap.lt_size ho
 refine wpAny_bind (listItems_at ho rfl ?_)
 refine wpAny_bind (listUpdate_at ho rfl ?_ (by rw[size_toArray,sizeLine_eq];omega) (zero_le _))
 obtain⟨e1,ho1⟩ : ∃e1,(s.heap.update a (Obj.mapSeq fun _=>(#[]:Array Value))).get? a=some (seqObj "list" #[] e1):=⟨_,get?_update_seq ho (fun _ => #[])⟩
 refine wpAny_bind (seqEpoch_at ho1 rfl ?_)
 refine wpAny_bind (wpAny_newTuple ?_ (by show vs.length≤_;rw[sizeLine_eq];omega))
 refine wpAny_bind (wpAny_newList ?_ (zero_le _))
 refine wpAny_holding ?_
 have ho6:(((s.heap.update a (Obj.mapSeq fun _=>(#[]:Array Value))).push (seqObj "tuple" vs.toArray 0)).push (seqObj "list" #[] 0)).get? a=some (seqObj "list" #[] e1):=by
  rw[Heap.get?_push_ne _ _ _ (by rw[size_push',Heap.size_update];exact ne_of_lt (lt_succ_of_lt ha)),Heap.get?_push_ne _ _ _ (by rw[Heap.size_update];exact ne_of_lt ha)]
  exact ho1
 have hold : ∀b o,b≠a→s.heap.get? b=some o→(((s.heap.update a (Obj.mapSeq fun _=>(#[]:Array Value))).push (seqObj "tuple" vs.toArray 0)).push (seqObj "list" #[] 0)).get? b=some o:=fun b o hb e =>
  Heap.get?_push_of_some _ (Heap.get?_push_of_some _ (by rw[Heap.get?_update_ne _ _ _ _ hb];exact e))
 show wpAny (model prog w) A _ P E { s with heap:=((s.heap.update a (Obj.mapSeq fun _=>(#[]:Array Value))).push (seqObj "tuple" vs.toArray 0)).push (seqObj "list" #[] 0) }
 dsimp only
 by_cases h2:vs.toArray.size < 2
 ·rw[if_pos h2,if_pos h2]
  refine wpAny_bind (wpAny_pure ?_)
  rw[StateT.run_pure];refine wpAny_bind (wpAny_pure ?_)
  dsimp only;refine wpAny_bind (seqEpoch_at ho6 rfl ?_)
  refine wpAny_bind (listUpdate_at ho6 rfl ?_ (hsz2:=by rw[Array.size_map];show(pairsOf vs).size≤_;rw[pairsOf_size,sizeLine_eq];omega))
  simp only[bne_self_eq_false,Bool.false_eq_true,if_false];have e:Array.map (fun(x:Value × Value)=>x.2) (vs.toArray.zip vs.toArray)=List.toArray ((List.toArray (range vs.length)).toList.map fun i=>vs.getD i Value.none):=by
   apply toList_inj.mp
   rw[Array.toList_map,Array.toList_zip]
   show List.map _ (List.zip vs vs)=_
   rw[map_snd_zip (le_refl _)]
   apply ext_getElem?
   intro i
   by_cases hi:i < vs.length
   ·simp[hi]
   ·simp[hi]
  have:=h (List.toArray (range vs.length)) (by show(range _).toArray.toList.Perm _;simp) fun i j a b=>by rw[size_toArray] at h2;omega
  rw[← e] at this;exact wpAny_pure this
 ·rw[if_neg h2,if_neg h2]
  have h2':2≤vs.length:=by rw[size_toArray] at h2;omega
  have hp':=hp _ hold;refine wpAny_bind (wD (t:=t) (s:={ s with heap:=((s.heap.update a (Obj.mapSeq fun _=>(#[]:Array Value))).push (seqObj "tuple" vs.toArray 0)).push (seqObj "list" #[] 0) }) hp' ht h2' ?_)
  refine wpAny_bind (wpAny_mono (su (kvs:=vs) (vs:=vs) (s:={ s with heap:=((s.heap.update a (Obj.mapSeq fun _=>(#[]:Array Value))).push (seqObj "tuple" vs.toArray 0)).push (seqObj "list" #[] 0) })
   (Q:=fun st s'=>∃p:Array Nat,p.size=vs.length∧arrOf st=p.map (kas_item (vs.toArray.zip vs.toArray))∧failedOf st=none∧bc vs.length p∧Srt (ltK ks) p vs.length∧s'={ s with heap:=((s.heap.update a (Obj.mapSeq fun _=>(#[]:Array Value))).push (seqObj "tuple" vs.toArray 0)).push (seqObj "list" #[] 0) })
   hp' rfl ht h2' h64 fun p st a1 a2 a3 a4 a5=>⟨p,a1,a2,a3,a4,a5,rfl⟩) ?_ fun _ _ e=>e)
  rintro⟨⟨⟩,st'⟩ s' ⟨p,hps,har,hf,hperm,hsrt,rfl⟩
  dsimp only;have hout:=kat_snds (ks:=vs) (vs:=vs) rfl har;have hsz:(List.toArray (p.toList.map fun i=>vs.getD i Value.none)).size=vs.length:=by rw[size_toArray,length_map,length_toList,hps]
  rw[hout];refine wpAny_bind (seqEpoch_at ho6 rfl ?_)
  refine wpAny_bind (listUpdate_at ho6 rfl ?_ (zero_le _) (le_trans (le_of_eq hsz) (by rw[sizeLine_eq];omega)))
  rw[hf];simp only[bne_self_eq_false,Bool.false_eq_true,if_false];exact wpAny_pure (h p hperm hsrt)
theorem lr {vs kvs:List Value} {ks:List Ky} {t:Nat} {P:PySem.Fin→Shared→Prop} (ho:s.heap.get? a=some (seqObj "list" vs.toArray n)) (h64:vs.length < 64) (hl:kvs.length=vs.length)
  (hp : ∀h':Heap,(∀b o,b≠a→s.heap.get? b=some o→h'.get? b=some o)→Paired (VKy h') kvs ks) (ht : ∀k∈ks,k.tag=t∧k≠.r [])
  (hcall : ∀(i:Nat) x k,vs[i]? = some x→kvs[i]? = some k→∀(h':Heap) (tk:Nat) (Q:Value→Shared→Prop),(∀b o,b≠a→s.heap.get? b=some o→h'.get? b=some o)→s.heap.objs.size≤h'.objs.size →
   (∀(h'':Heap) (tk':Nat),(∀b o,h'.get? b=some o→h''.get? b=some o)→Q k { s with heap:=h'',toks:=tk' })→wpAny (model prog w) A (call (.ref f) [x]) Q (fun _ _=>False) { s with heap:=h',toks:=tk })
  (h : ∀(h':Heap) (tk c:Nat) (p:Array Nat),bc vs.length p→Srt (ltK ks) p vs.length→(∀b o,b≠a→s.heap.get? b=some o→h'.get? b=some o)→h'.get? a=some (seqObj "list" (List.toArray (p.toList.map fun i=>vs.getD i Value.none)) c)→P (.done (.ret .none)) { s with heap:=h',toks:=tk }) :
  wpAny (model prog w) A (Builtin.«list.sort» ⟨[.ref a],[(Str.ofString "key",.ref f)]⟩) P E s:=by
 rw[ksk_t1];have ha:a < s.heap.objs.size:=Heap.lt_size ho
 unfold ksk_tree;refine wpAny_bind (listItems_at ho rfl ?_)
 refine wpAny_bind (listUpdate_at ho rfl ?_ (by rw[size_toArray,sizeLine_eq];omega) (zero_le _))
 obtain⟨e1,ho1⟩ : ∃e1,(s.heap.update a (Obj.mapSeq fun _=>(#[]:Array Value))).get? a=some (seqObj "list" #[] e1):=⟨_,get?_update_seq ho (fun _ => #[])⟩
 refine wpAny_bind (seqEpoch_at ho1 rfl ?_)
 refine wpAny_bind (wpAny_newTuple ?_ (by show vs.length≤_;rw[sizeLine_eq];omega))
 refine wpAny_bind (wpAny_newList ?_ (zero_le _))
 refine wpAny_holding ?_
 have ekS:((s.heap.update a (Obj.mapSeq fun _=>(#[]:Array Value))).push (seqObj "tuple" vs.toArray 0)).objs.size=s.heap.objs.size+1:=by rw[size_push',Heap.size_update]
 obtain⟨h1,hh1⟩ : ∃h1,h1=((s.heap.update a (Obj.mapSeq fun _=>(#[]:Array Value))).push (seqObj "tuple" vs.toArray 0)).push (seqObj "list" #[] 0):=⟨_,rfl⟩
 have ho6:h1.get? a=some (seqObj "list" #[] e1):=by
  rw[hh1,Heap.get?_push_ne _ _ _ (by rw[size_push',Heap.size_update];exact ne_of_lt (lt_succ_of_lt ha)),Heap.get?_push_ne _ _ _ (by rw[Heap.size_update];exact ne_of_lt ha)]
  exact ho1
 have hold : ∀b o,b≠a→s.heap.get? b=some o→h1.get? b=some o:=fun b o hb e=>by
  rw[hh1];exact Heap.get?_push_of_some _ (Heap.get?_push_of_some _ (by rw[Heap.get?_update_ne _ _ _ _ hb];exact e))
 have hkS:h1.get? (s.heap.objs.size+1)=some (seqObj "list" #[] 0):=by rw[hh1,← ekS];exact Heap.get?_push_size _ rfl
 have hsz1:s.heap.objs.size≤h1.objs.size:=le_trans (le_succ _) (le_of_lt (Heap.lt_size hkS))
 have nka:s.heap.objs.size+1≠a:=ne_of_gt (lt_succ_of_lt ha)
 rw[ekS]
 show wpAny (model prog w) A _ P E { s with heap:=((s.heap.update a (Obj.mapSeq fun _=>(#[]:Array Value))).push (seqObj "tuple" vs.toArray 0)).push (seqObj "list" #[] 0) }
 rw[← hh1];unfold ksk_rest;refine wpAny_bind (wpAny_rule ?_)
 rw[List.forIn_toArray];refine wpAny_bind (ksk_fold (fun i s'=>∃(h':Heap) (tk e:Nat),s'={ s with heap:=h',toks:=tk }∧(∀b o,b≠a→s.heap.get? b=some o→h'.get? b=some o)∧s.heap.objs.size≤h'.objs.size∧h'.get? a=some (seqObj "list" #[] e1)∧h'.get? (s.heap.objs.size+1)=some (seqObj "list" (kvs.take i).toArray e)) vs 0 _
  ⟨h1,s.toks,0,rfl,hold,hsz1,ho6,by simpa using hkS⟩ (fun j x s' hx hI=>?_) fun s' hI=>?_)
 ·obtain⟨h',tk,e,rfl,k1,k2,k3,k4⟩:=hI
  simp only[Nat.zero_add] at k4 ⊢;have hj:j < vs.length:=(List.getElem?_eq_some_iff.mp hx).1
  obtain⟨k,hkj⟩ : ∃k,kvs[j]? = some k:=⟨_,List.getElem?_eq_getElem (by omega)⟩
  refine wpAny_bind (wpAny_attempt (wpAny_mono (hcall j x k hx hkj h' tk (fun v s''=>∃h'' tk',v=k∧s''={ s with heap:=h'',toks:=tk' }∧∀b o,h'.get? b=some o→h''.get? b=some o) k1 k2 fun h'' tk' hk=>⟨h'',tk',rfl,rfl,hk⟩) (fun v s'' he=>?_) fun _ _ hF=>hF.elim))
  obtain⟨h'',tk',rfl,rfl,hk⟩:=he;dsimp only;have nk:=hk _ _ k4;have na:=hk _ _ k3;obtain⟨c2,hc2⟩ : ∃c2,(h''.update (s.heap.objs.size+1) (Obj.mapSeq (·.push v))).get? (s.heap.objs.size+1)=some (seqObj "list" ((kvs.take j).toArray.push v) c2):=⟨_,get?_update_seq nk (·.push v)⟩;have hlt:(kvs.take j).toArray.size≤64:=by rw[size_toArray,length_take];omega
  have h16:(65:Nat)≤sizeLine:=by rw[sizeLine_eq];omega
  refine wpAny_bind (listUpdate_at nk rfl ?_ (le_trans hlt (by omega)) (le_trans (le_of_eq (Array.size_push ..)) (by omega)))
  refine wpAny_pure ⟨rfl,_,tk',c2,rfl,fun b o hb e=>?_,?_,?_,?_⟩
  ·have hlt:=Heap.lt_size e
   rw[Heap.get?_update_ne _ _ _ _ (ne_of_lt (lt_succ_of_lt hlt))];exact hk _ _ (k1 b o hb e)
  ·rw[Heap.size_update]
   exact le_trans (le_succ _) (le_of_lt (Heap.lt_size nk))
  ·rw[Heap.get?_update_ne _ _ _ _ (Ne.symm nka)]
   exact na
  ·rw[hc2]
   congr 2
   have ek:kvs.take (j+1)=kvs.take j++[v]:=by rw[take_add_one,hkj];simp
   rw[ek];simp
 ·obtain⟨h',tk,e,rfl,k1,k2,k3,k4⟩:=hI
  have e3:kvs.take (0+vs.length)=kvs:=take_of_length_le (by omega)
  rw[e3] at k4
  try dsimp only
  refine wpAny_bind (listItems_at k4 rfl ?_)
  have hp':=hp h' k1;have tail : ∀(st:SortSt) (p:Array Nat),(arrOf st).map (·.2)=List.toArray (p.toList.map fun i=>vs.getD i Value.none)→failedOf st=none→bc vs.length p→Srt (ltK ks) p vs.length→wpAny (model prog w) A (ksk_tail a false e1 (.ref (s.heap.objs.size+1)) st) P E { s with heap:=h',toks:=tk }:=by
   intro st p har hf hperm hsrt;unfold ksk_tail;dsimp only;have hsz:(List.toArray (p.toList.map fun i=>vs.getD i Value.none)).size=vs.length:=by rw[size_toArray,length_map,length_toList,hperm.size]
   have h16:(65:Nat)≤sizeLine:=by rw[sizeLine_eq];omega
   refine wpAny_bind (listUpdate_at k4 rfl ?_ (by rw[size_toArray];omega) (zero_le _))
   refine wpAny_bind (wpAny_letGo ?_)
   have na1:(h'.update (s.heap.objs.size+1) (Obj.mapSeq fun _=>(#[]:Array Value))).get? a=some (seqObj "list" #[] e1):=by
    rw[Heap.get?_update_ne _ _ _ _ (Ne.symm nka)];exact k3
   refine wpAny_bind (seqEpoch_at na1 rfl ?_)
   rw[har];refine wpAny_bind (listUpdate_at na1 rfl ?_ (zero_le _) (le_trans (le_of_eq hsz) (by omega)))
   rw[hf];simp only[bne_self_eq_false,Bool.false_eq_true,if_false];refine wpAny_pure (h _ tk _ p hperm hsrt (fun b o hb eb=>?_) (get?_update_seq na1 fun _=>List.toArray (p.toList.map fun i=>vs.getD i Value.none)))
   have hlt:=Heap.lt_size eb;rw[Heap.get?_update_ne _ _ _ _ hb,Heap.get?_update_ne _ _ _ _ (ne_of_lt (lt_succ_of_lt hlt))];exact k1 b o hb eb
  unfold ksk_end;dsimp only;simp only[Bool.false_eq_true,if_false]
  by_cases h2:vs.toArray.size < 2
  ·rw[if_pos h2,if_pos h2]
   refine wpAny_bind (wpAny_pure ?_)
   rw[StateT.run_pure];refine wpAny_bind (wpAny_pure ?_)
   dsimp only;refine tail _ (List.toArray (range vs.length)) ?_ rfl (by show(range _).toArray.toList.Perm _;simp) fun i j a b=>by rw[size_toArray] at h2;omega
   show Array.map _ (kvs.toArray.zip vs.toArray)=_
   apply toList_inj.mp
   rw[Array.toList_map,Array.toList_zip]
   show List.map _ (List.zip kvs vs)=_
   rw[map_snd_zip (by omega)]
   apply ext_getElem?
   intro i
   by_cases hi:i < vs.length
   ·simp[hi]
   ·simp[hi]
  ·rw[if_neg h2,if_neg h2]
   have h2':2≤vs.length:=by rw[size_toArray] at h2;omega
   refine wpAny_bind (wD (t:=t) (s:={ s with heap:=h',toks:=tk }) hp' ht (by omega) ?_)
   refine wpAny_bind (wpAny_mono (su (kvs:=kvs) (vs:=vs) (s:={ s with heap:=h',toks:=tk })
    (Q:=fun st s'=>∃p:Array Nat,arrOf st=p.map (kas_item (kvs.toArray.zip vs.toArray))∧failedOf st=none∧bc vs.length p∧Srt (ltK ks) p vs.length∧s'={ s with heap:=h',toks:=tk })
    hp' hl ht h2' h64 fun p st a1 a2 a3 a4 a5=>⟨p,a2,a3,a4,a5,rfl⟩) ?_ fun _ _ e=>e)
   rintro⟨⟨⟩,st'⟩ s' ⟨p,har,hf,hperm,hsrt,rfl⟩
   exact tail st' p (kat_snds hl har) hf hperm hsrt
theorem sorted_ky {vs:List Value} {ks:List Ky} {t:Nat}
  (hcol : ∀Q':List Value→Shared→Prop,(∀(h':Heap) (tk:Nat),(∀b o,s.heap.get? b=some o→h'.get? b=some o)→s.heap.objs.size≤h'.objs.size→Q' vs { s with heap:=h',toks:=tk })→wpAny (model prog w) A.in1 (collect u) Q' E s)
  (h64:vs.length < 64) (hp:Paired (VKy s.heap) vs ks) (ht : ∀k∈ks,k.tag=t∧k≠.r [])
  (h : ∀(h':Heap) (q tk c:Nat) (p:Array Nat),bc vs.length p→Srt (ltK ks) p vs.length→s.heap.objs.size≤q→(∀b o,s.heap.get? b=some o→h'.get? b=some o)→h'.get? q=some (seqObj "list" (List.toArray (p.toList.map fun i=>vs.getD i Value.none)) c)→Q (.ref q) { s with heap:=h',toks:=tk }) :
  wpAny (model prog w) A (call (.builtin "sorted") [u]) Q E s:=by
 refine Calls.call_function_entry kind_sorted plain_sorted entry_sorted (args_sorted1 _) ?_
 unfold Builtin.«sorted»;refine wpAny_bind (m:=checkCount "sorted" 1 1 _) (wpAny_pure ?_)
 refine wpAny_bind (hcol _ fun h1 tk hk hz=>?_)
 refine wpAny_bind (wpAny_newList ?_ (by rw[sizeLine_eq];omega))
 have hoL:(h1.push (seqObj "list" vs.toArray 0)).get? h1.objs.size=some (seqObj "list" vs.toArray 0):=Heap.get?_push_size _ rfl
 have keep : ∀b o,s.heap.get? b=some o→(h1.push (seqObj "list" vs.toArray 0)).get? b=some o:=fun b o q=>Heap.get?_push_of_some _ (hk b o q)
 show wpAny _ _ _ _ _ { s with heap:=h1.push (seqObj "list" vs.toArray 0),toks:=tk }
 refine wpAny_bind (wpAny_holding (wpAny_call_entry slot_list_sort ⟨_,hoL,rfl⟩ entry_list_sort (qF (t:=t) (ks:=ks) hoL h64 (fun h' hold=>Paired.mapP' hp fun v k z=>z.keep fun b o e=>hold b o (ne_of_lt (lt_of_lt_of_le (Heap.lt_size e) hz)) (keep b o e)) ht fun p a1 a2=>⟨_,rfl,?_⟩) (args_list_sort _)))
 obtain⟨e,he⟩:=sortedHeap_at (vs:=vs) (out:=List.toArray (p.toList.map fun i=>vs.getD i Value.none)) hoL
 refine wpAny_pure ⟨_,rfl,h _ _ tk e p a1 a2 hz (fun b o eb=>?_) he⟩
 have hb:=Heap.lt_size (hk b o eb);rw[sortedHeap_old (ne_of_lt hb) (by rw[size_push'];exact lt_succ_of_lt hb)]
 exact keep b o eb
theorem sorted_keyed {ks:List Ky} {t:Nat}
  (hcol : ∀Q':List Value→Shared→Prop,(∀(vs:List Value) (h':Heap) (tk:Nat),G vs→(∀b o,s.heap.get? b=some o→h'.get? b=some o)→s.heap.objs.size≤h'.objs.size→Q' vs { s with heap:=h',toks:=tk })→wpAny (model prog w) A.in1 (collect u) Q' E s)
  (ht : ∀k∈ks,k.tag=t∧k≠.r [])
  (hG : ∀vs,G vs→vs.length < 64∧∃kvs:List Value,kvs.length=vs.length∧Paired (VKy s.heap) kvs ks∧∀(i:Nat) x k,vs[i]? = some x→kvs[i]? = some k→∀(h':Heap) (tk:Nat) (Q:Value→Shared→Prop),(∀b o,s.heap.get? b=some o→h'.get? b=some o) →
   (∀(h'':Heap) (tk':Nat),(∀b o,h'.get? b=some o→h''.get? b=some o)→Q k { s with heap:=h'',toks:=tk' })→wpAny (model prog w) A.in1.in1 (call (.ref f) [x]) Q (fun _ _=>False) { s with heap:=h',toks:=tk })
  (h : ∀(vs:List Value) (h':Heap) (q tk c:Nat) (p:Array Nat),G vs→bc vs.length p→Srt (ltK ks) p vs.length→s.heap.objs.size≤q→(∀b o,s.heap.get? b=some o→h'.get? b=some o)→h'.get? q=some (seqObj "list" (List.toArray (p.toList.map fun i=>vs.getD i Value.none)) c)→Q (.ref q) { s with heap:=h',toks:=tk }) :
  wpAny (model prog w) A (call (.builtin "sorted") [u] [(Str.ofString "key",.ref f)]) Q E s:=by
 refine call_function_entry_kw kind_sorted plain_sorted entry_sorted (ksk_s1 _ _) ?_
 unfold Builtin.«sorted»;refine wpAny_bind (m:=checkCount "sorted" 1 1 _) (wpAny_pure ?_)
 refine wpAny_bind (hcol _ fun vs h1 tk hg hk hz=>?_)
 obtain⟨h64,kvs,hl,hp,hcall⟩:=hG vs hg;refine wpAny_bind (wpAny_newList ?_ (by rw[sizeLine_eq];omega))
 have hoL:(h1.push (seqObj "list" vs.toArray 0)).get? h1.objs.size=some (seqObj "list" vs.toArray 0):=Heap.get?_push_size _ rfl
 have keep : ∀b o,s.heap.get? b=some o→(h1.push (seqObj "list" vs.toArray 0)).get? b=some o:=fun b o q=>Heap.get?_push_of_some _ (hk b o q)
 have ne : ∀b o,s.heap.get? b=some o→b≠h1.objs.size:=fun b o e=>ne_of_lt (lt_of_lt_of_le (Heap.lt_size e) hz)
 show wpAny _ _ _ _ _ { s with heap:=h1.push (seqObj "list" vs.toArray 0),toks:=tk }
 refine wpAny_bind (wpAny_holding (wpAny_call_entry_kw slot_list_sort ⟨_,hoL,rfl⟩ entry_list_sort (lr (t:=t) (ks:=ks) (kvs:=kvs) hoL h64 hl (fun h' hold=>Paired.mapP' hp fun v k z=>z.keep fun b o e=>hold b o (ne b o e) (keep b o e)) ht
  (fun i x k hx hk' h' tk' Q' hold _ hq=>hcall i x k hx hk' h' tk' Q' (fun b o e=>hold b o (ne b o e) (keep b o e)) hq) fun h' tk' c p a1 a2 hold he=>⟨_,rfl,?_⟩) (ksk_l1 _ _)))
 exact wpAny_pure ⟨_,rfl,h vs h' _ tk' c p hg a1 a2 hz (fun b o e=>hold b o (ne b o e) (keep b o e)) he⟩
theorem among_app {r:List Value} (l:List Value) (h:TriplesOk l):codeAmong pos (l++r)=(codeAmong pos l).or (codeAmong pos r):=by
 fun_induction TriplesOk l with
 | case1=>simp[codeAmong]
 | case2 a t b u x rest ih =>
  simp only[cons_append,codeAmong]
  split
  ·rfl
  ·exact ih h
 | case3 l h1 h2=>exact h.elim
theorem triples_app {r:List Value} (l:List Value) (h:TriplesOk l) (g:TriplesOk r):TriplesOk (l++r):=by
 fun_induction TriplesOk l with
 | case1=>simpa using g
 | case2 a t b u x rest ih=>exact ih h
 | case3 l h1 h2=>exact h.elim
noncomputable def LamEv (prog:Program) (w:World) (qual:Str) (scope:Scope) (clos:List (Str × Addr)) (body:Expr) (x:Str) (h:Heap) (u k:Value):Prop :=
 ∀ (A:Around) (L f:Addr) (cdv:Value) (s:Shared) (m:Str→Option Value) (Q:Value→Shared→Prop) (E:Value→Shared→Prop),(∀b o,h.get? b=some o→s.heap.get? b=some o)→s.heap.Ns L m→m x=some u →
  (∀tk,Q k { s with toks:=tk })→wpAny (model prog w) A (eval body (envX qual scope L f cdv clos)) Q E s
section
variable {body:Expr}
theorem lam_call {k:Value} (ho:s.heap.get? f=some (kla_obj name qual params body scope clos pm c' ctv)) (hcd:s.heap.CodeRec (.ref c') qual) (hroom:A.depth < recursionLimit) (hlim:s.heap.NoLimit)
  (hbind:bindArgs (kla_fn name qual params body scope clos pm (.ref c') ctv) ⟨[u],[]⟩=pure [(x,u)]) (hx:scope.names.lookup x=some .local) (hk:scope.kind = .function) (hco:scope.isCoroutine=false) (hgen:scope.isGenerator=false) (hcell : ∀y∈scope.names,y.2≠.cell)
  (hev:LamEv prog w qual scope clos body x h u k) (hh : ∀b o,h.get? b=some o→s.heap.get? b=some o) (hq : ∀(h'':Heap) (tk':Nat),(∀b o,s.heap.get? b=some o→h''.get? b=some o)→Q k { s with heap:=h'',toks:=tk' }) :
  wpAny (model prog w) A (call (.ref f) [u]) Q E s:=by
 refine wpAny_call (kla_callFunE hroom ho rfl hco hgen rfl hcd ?_)
 rw[hbind];refine wpAny_pure (wpAny_newFunctionEnv hcell (fun y hy=>by rw[mem_singleton.mp hy];exact hx) (fun h₁ hns hsb=>⟨hlim.fresh _ hsb,kla_codeExpr ?_⟩) hk)
 have hk₁ : ∀b o,s.heap.get? b=some o→h₁.get? b=some o:=fun b o e=>hsb.extBut b o (ne_of_lt (Heap.lt_size e)) (Heap.get?_push_of_some _ e)
 exact hev _ _ _ _ _ _ _ _ (fun b o e=>hk₁ b o (hh b o e)) hns (by simp) fun tk=>hq _ _ hk₁
theorem mF {t:Tok} (hp:IsTup s.heap a its.toArray) (hz:its.length≤sizeLine) (he:L2.atI its i=some v) (h:Q v s)
  (hs:subscripted slice false (.ref a) (.int i t)=operate [.ref a,.int i t] (getItem (.ref a) (.int i t))):wpAny (model prog w) A (subscriptTail value slice (.ref a) (.int i t)) Q E s:=by
 obtain⟨j,h1,h2,h3,h4,h5⟩:=L2.lL he;have hn:=L2.iO;exact subscriptTail_builtinR (x:=v) hp.typeIs slot_tuple_getitem.lookup
  (getItem_tuple (j:=j) (Q:=fun r s'=>r=v∧Q r s') hp (by omega) (by omega) (by rw[size_toArray];exact h1) (by simpa using h2) ⟨rfl,h⟩) hs
theorem ev_item (hk:scope.kind = .function) (hx:scope.names.lookup x=some .local) (hp:IsTup h a its.toArray) (hz:its.length≤sizeLine) (he:L2.atI its i=some v)
  (hd:(x ==("__debug__" : Str))=false) (hs : ∀o u,subscripted (.Constant (.int i) kk p2) false o u=operate [o,u] (getItem o u)) :
  LamEv prog w qual scope clos (.Subscript (.Name x p1) (.Constant (.int i) kk p2) p3) x h (.ref a) v:=by
 intro A L f cdv s m Q E hh hns hm hq;refine Subscript_ (wpAny_Name (wpAny_loadName_local hk hx hns hm ?_) hd)
 refine wpAny_Constant_int ?_
 exact mF (hp.keeps hh) hz he (hq _) (hs _ _)
theorem ev_place {y:Str} {jts:List Value} {j:Int} {t:Tok} {p4 p5:Pos} (hk:scope.kind = .function) (hx:scope.names.lookup x=some .local) (hy:scope.names.lookup y=some .free) (hc:clos.lookup y=some c)
  (hcell:h.IsCell c (some (.ref a))) (hp:IsTup h a its.toArray) (hz:its.length≤sizeLine) (he:L2.atI its i=some (.ref b)) (hp2:IsTup h b jts.toArray) (hz2:jts.length≤sizeLine) (he2:L2.atI jts j=some v)
  (hd:(x ==("__debug__" : Str))=false) (hd2:(y ==("__debug__" : Str))=false) (hcd:(y ==("__classdict__" : Str))=false)
  (hs : ∀o u,subscripted (.Constant (.int i) kk p2) false o u=operate [o,u] (getItem o u)) (hs2 : ∀o u,subscripted (.Name x p4) false o u=operate [o,u] (getItem o u)) :
  LamEv prog w qual scope clos (.Subscript (.Subscript (.Name y p1) (.Constant (.int i) kk p2) p3) (.Name x p4) p5) x h (.int j t) v:=by
 intro A L f cdv s m Q E hh hns hm hq;have hcell':s.heap.IsCell c (some (.ref a)):=let ⟨o,e,d⟩:=hcell;⟨o,hh _ _ e,d⟩
 refine Subscript_ (Subscript_ (wpAny_Name (wpAny_loadName_free hk hy hc hcell' ?_ hcd) hd2))
 refine wpAny_Constant_int ?_
 refine mF (hp.keeps hh) hz he ?_ (hs _ _)
 refine wpAny_Name (wpAny_loadName_local hk hx hns hm ?_) hd
 exact mF (hp2.keeps hh) hz2 he2 (hq _) (hs2 _ _)
end
end PySem.W
variable {ks:List PySem.W.Ky}
namespace L2
open PySem PySem.Spec PyProof.Rows
noncomputable def iH (mg:Str→Option Value) (base:Heap):Prop:=∃bm ob,mg "__builtins__" = some (.ref bm)∧bm≠builtinsNs∧base.get? bm=some ob∧ob.cls = .type "module" ∧ ob.dict=some builtinsNs∧ob.data = .plain
noncomputable def tZ (K:PySem.W.Frag) (mg:Str→Option Value) (x:Str) (st:Stmt) (ps:List Str) (P:Addr):Prop :=
 ∃f fd c,Fun K x x st f fd∧fd.code = .ref c∧codeHdIn K c P=true∧mg x=some (.ref f)∧jA K fd ps []
section
variable {P:Program} {w:World} {K:PySem.W.Frag} {mg:Str→Option Value} {base:Heap}
theorem tZ.ok {pt:Addr} (F:tZ K mg x st ps pt) (S:aH N ps (am st)) (len : ∀vs H Q E,sp vs H Q E→vs.length=ps.length)
  (hbody : ∀(f c:Addr) (hc:codeHdIn K c pt=true) (A:Around) (outer:List Env) (s:Shared) (H:Hp) (vs:List V) (Q:VK) (E:XK),cu k (A.deeper (envOfC x (am st) s.heap.objs.size f (.ref c)))→sp vs H Q E →
   ∃t,PSs (rn CX0 P w K mg base N x (am st) f (.ref c) A outer s H E).nox (bT st) t∧t { nx:=fun _ H'=>Q .non H',rt:=Q } (fM N vs) H):Fn P w K mg base x (k+1) ps sp:=by
 obtain⟨f,fd,c,F,hcd,hc,m,b⟩:=F;refine⟨f,fd,?_,m,F.kp,b⟩
 obtain⟨oc,od,kV,doc,pm,an,cdv,ct,osl,rfl,lk,hcd'⟩:=F.ex;have e:cdv = .ref c:=hcd
 subst e;refine Be lk hcd' S len fun A outer s H vs Q E hr hsp=>?_
 obtain⟨t,h,q⟩:=hbody f c hc A outer s H vs Q E hr hsp;exact⟨t,h.nox,q⟩
theorem vS {pt:Addr} {an:Option Addr} {kV:Value} (X:K.In h) (G:h.Ns mainGlobals mg)
  (a:nsIn K mainGlobals x=some (some (.ref f)))
  (l:K.lookup f=some ⟨oc,od,.func (fnOf x x (cI st) (bT st) (am st) .none kV doc pm an cdv ct),osl⟩)
  (c':codeIn K cdv x=true) (k:keepIn K (.ref f)=true) (hcd:cdv = .ref c) (hc:codeHdIn K c pt=true)
  (hb : ∀(kV doc pm:Value) (an:Option Addr) (cdv ct:Value) (us:List Value),us.length=ps.length→bindArgs (fnOf x x (cI st) (bT st) (am st) .none kV doc pm an cdv ct) ⟨us,[]⟩=pure (ps.zip us)):tZ K mg x st ps pt :=
 ⟨f,_,c,nX l c' k,hcd,hc,mg_of X G a,(nX l c' k).binds hb⟩
end
theorem ue {pt:Addr} {q:Str} {body:Expr} (I:Inv X pins σ H s) (hP:H pt=some (.tab q)) (hq:X.env.qual ++ "<lambda>" = q) (hcode:X.env.code = .ref c)
  (hc:codeHdIn X.K c pt=true) (bm:iH X.mg X.base) (hdef:defaultsOf params X.env=([],[])) (hcl:closureFor scope X.env=pure clos)
  (h : ∀(f c':Addr) (pm ctv:Value) (s':Shared) (H':Hp),Inv X pins σ H' s'→ao H H'→(∀b u,s.heap.get? b=some u→H b=none→s'.heap.get? b=some u)→s.heap.objs.size≤s'.heap.objs.size→s'.heap.get? f=some (PySem.W.kla_obj "<lambda>" q params body scope clos pm c' ctv)→s'.heap.CodeRec (.ref c') q→Q (.ref f) s') :
  wpAny (model X.prog X.w) X.A (eval (.Lambda params body scope pos) X.env) Q E s:=by
 obtain⟨ps,e,ht,hcs⟩:=(show be X.prog X.w H s.heap pt (.tab q) from I.hok pt _ hP)
 have C:PySem.W.CodeHd s.heap c pt:=(codeHd_of_K I.mod.kin hc).keeps I.bk
 obtain⟨b,ob,b1,b2,b3,b4,b5,b6⟩:=bm;have hgs:s.heap.Ns mainGlobals X.mg:=I.mod.glob.keeps I.bk
 have hgP:mainGlobals≠pt:=fun z=>by
  obtain⟨o,es,ep,e',hd,_⟩:=hgs;rw[z,e] at e';cases e';cases hd
 have hbP:b≠pt:=fun z=>by
  have:=(I.bs _ _ b3).2
  rw[z,hP] at this;cases this
 have hbG:b≠mainGlobals:=fun z=>by
  obtain⟨o,es,ep,e',hd,_⟩:=I.mod.glob;rw[z,e'] at b3;cases b3;rw[hd] at b6;cases b6
 have hB:s.heap.BuiltinsAt X.mg pt:=⟨b,ob,b1,b2,hbG,hbP,I.bk _ _ b3,b4,b5,b6⟩
 refine PySem.W.kla_eval hdef ?_
 rw[hq];cases hf:codeAmong pos ps.toList with
 | some cv =>
  obtain⟨c',oc,rfl,ne,hw,hco⟩:=hcs pos cv hf;have hrec:s.heap.CodeRec (.ref c') q:=let ⟨vs,t,e3,e4⟩:=hco;⟨c',oc,vs,t,rfl,(I.hok c' _ hw).1,e3,e4⟩
  refine PySem.W.kla_makeFunctionHit hcl I.ok.glob hgs hcode C e ht hf hB fun ctv h' tk hk hsz=>?_
  have k2 : ∀b o,s.heap.get? b=some o→(h'.push (PySem.W.kla_obj "<lambda>" q params body scope clos ((X.mg "__name__").getD .none) c' ctv)).get? b=some o:=fun b o e=>Heap.get?_push_of_some _ (hk b o e)
  exact h _ c' _ ctv _ H (I.kept (t':=tk) k2) (ao.refl H) (fun b u e _=>k2 b u e) (by show _≤(h'.push _).objs.size;rw[Heap.size_push];omega) (Heap.get?_push_size _ rfl) (hrec.keeps k2)
 | none =>
  refine PySem.W.kla_makeFunction hcl I.ok.glob hgs hcode C e ht hf hgP hB fun c' ctv h' tk hx hge hlt hrec htb=>?_
  have hfr:H c'=none:=I.hok.fresh hge
  have hcp:c'≠pt:=fun z=>by rw[z,hP] at hfr;cases hfr
  have k1 : ∀b o,b≠pt→s.heap.get? b=some o→(h'.push (PySem.W.kla_obj "<lambda>" q params body scope clos ((X.mg "__name__").getD .none) c' ctv)).get? b=some o:=fun b o hb e=>Heap.get?_push_of_some _ (hx b o hb e)
  have nP : ∀b,H b=none→b≠pt:=fun b n z=>by rw[z,hP] at n;cases n
  have nc : ∀b o,s.heap.get? b=some o→b≠c':=fun b o e=>ne_of_lt (lt_of_lt_of_le (Heap.lt_size e) hge)
  have htb':(h'.push (PySem.W.kla_obj "<lambda>" q params body scope clos ((X.mg "__name__").getD .none) c' ctv)).get? pt=some (tabObj (ps ++ #[rawInt pos.line,rawInt pos.col,.ref c'])):=Heap.get?_push_of_some _ htb
  have hrec':=hrec.push (PySem.W.kla_obj "<lambda>" q params body scope clos ((X.mg "__name__").getD .none) c' ctv);obtain⟨cc,oc,vc,tc,ec1,ec2,ec3⟩:=id hrec';cases ec1;have S:ao H (upd H c' (.frz oc (.own pt))):=fun b o e=>by rw[ag (aj e hfr)];exact e
  have un:Un X.fs [] H (upd H c' (.frz oc (.own pt))) s.heap (h'.push (PySem.W.kla_obj "<lambda>" q params body scope clos ((X.mg "__name__").getD .none) c' ctv)) :=
   ⟨fun b o e n _ _=>k1 b o (nP b n) e,fun b o e n _ _=>⟨o.slots,k1 b o (nP b n) e⟩,fun b o e n _=>by rw[ag (nc b o e)];exact n,
    fun b o e _=>by
     by_cases hb:b=pt
     ·subst hb;exact⟨_,htb'⟩
     ·exact⟨o,k1 b o hb e⟩,
    fun b xs e=>S _ _ e,fun b o u e=>S _ _ e,fun b ps e=>⟨#[],by rw[S _ _ e];simp⟩⟩
  have hok:HOk X.prog X.w (upd H c' (.frz oc (.own pt))) (h'.push (PySem.W.kla_obj "<lambda>" q params body scope clos ((X.mg "__name__").getD .none) c' ctv)):=fun b u eb=>by
   by_cases hbc:b=c'
   ·subst hbc
    rw[ab] at eb;cases eb;exact⟨ec2,oc,ec2⟩
   ·rw[ag hbc] at eb
    by_cases hb:b=pt
    ·subst hb
     rw[hP] at eb;cases eb;refine⟨ps ++ #[rawInt pos.line,rawInt pos.col,.ref c'],htb',?_,fun pos' cv z=>?_⟩
     ·rw[Array.toList_append]
      exact PySem.W.triples_app _ ht trivial
     ·rw[Array.toList_append,PySem.W.among_app _ ht] at z
      cases z1:codeAmong pos' ps.toList with
      | some cv' =>
       rw[z1] at z;have z':cv'=cv:=by simpa using z
       subst z';obtain⟨d,od,rfl,ne,hw,hco⟩:=hcs pos' cv' z1;exact⟨d,od,rfl,ne,S _ _ hw,hco⟩
      | none =>
       rw[z1] at z;have z':Value.ref c'=cv:=by
        simp only[Option.none_or,rawInt,codeAmong] at z
        split at z
        ·exact Option.some.inj z
        ·cases z
       subst z';exact⟨c',oc,rfl,hcp,ab,vc,tc,ec3⟩
    ·refine(I.hok b u eb).stay (fun d v hd r=>k1 d v ?_ r) (fun d r=>S _ _ r) (fun d xs r=>S _ _ r) fun d _ _ r=>S _ _ r
     rcases hd with rfl | hd
     ·exact hb
     ·exact fun z=>by rw[z,hP] at hd;cases hd
  exact h _ c' _ ctv _ _ (I.un (t':=tk) un hok) S (fun b u e n=>k1 b u (nP b n) e) (by show _≤(h'.push _).objs.size;rw[Heap.size_push];omega) (Heap.get?_push_size _ rfl) hrec'
open PySem.W (Ky VKy bc Srt ltK)
noncomputable def KyV (H:Hp) (v:V):Ky→Prop
 | .s x=>v = .str x
 | .i n=>v = .int n
 | .r l=>∃a,v = .ref a∧H a=some (.tup (l.map V.int))
theorem KyV.same {v:V} (e:ao H H') : ∀{k:Ky},KyV H v k→KyV H' v k
 | .s _,h=>h
 | .i _,h=>h
 | .r _,⟨a,h1,h2⟩=>⟨a,h1,e _ _ h2⟩
theorem jq (s:Shared) (us:List Value):(∀b o,s.heap.get? b=some o→((s.heap.push (seqObj "list" #[] 0)).update s.heap.objs.size (Obj.mapSeq (· ++ us.toArray))).get? b=some o)∧s.heap.objs.size≤((s.heap.push (seqObj "list" #[] 0)).update s.heap.objs.size (Obj.mapSeq (· ++ us.toArray))).objs.size:=by
 refine⟨fun b o e=>?_,?_⟩
 ·have hlt:b < s.heap.objs.size:=Heap.lt_size e
  rw[Heap.get?_update_ne _ _ _ _ (ne_of_lt hlt),Heap.get?_push_ne _ _ _ (ne_of_lt hlt)];exact e
 ·rw[Heap.size_update,size_push'];omega
theorem vP (ht:s.heap.IsTuple t us.toArray) (hn:us.length≤1000) (Q':List Value→Shared→Prop)
  (k : ∀(h':Heap) (tk:Nat),(∀b o,s.heap.get? b=some o→h'.get? b=some o)→s.heap.objs.size≤h'.objs.size→Q' us { s with heap:=h',toks:=tk }):wpAny (model prog w) A (collect (.ref t)) Q' E s :=
 kO ht hn (k _ s.toks (jq s us).1 (jq s us).2)
theorem zZ (ht:s.heap.IsList t us.toArray) (hn:us.length≤1000) (Q':List Value→Shared→Prop)
  (k : ∀(h':Heap) (tk:Nat),(∀b o,s.heap.get? b=some o→h'.get? b=some o)→s.heap.objs.size≤h'.objs.size→Q' us { s with heap:=h',toks:=tk }):wpAny (model prog w) A (collect (.ref t)) Q' E s :=
 collect_list ht (k _ s.toks (jq s us).1 (jq s us).2) (by rw[sizeLine_eq];omega)
theorem vG : ∀{xs:List V} {us:List Value} (i:Nat),aT xs us→i < xs.length→aX (xs.getD i .non) (us.getD i .none)
 | _,_,i,.nil,h=>by simp at h
 | _,_,0,.cons r _,_=>by simpa using r
 | _,_,i+1,.cons _ t,h=>by simpa using vG i t (by simpa using h)
theorem ky {xs:List V} {us:List Value} (r:aT xs us) : ∀{l:List Nat},(∀i∈l,i < xs.length)→aT (l.map fun i=>xs.getD i .non) (l.map fun i=>us.getD i .none)
 | [],_=>.nil
 | i :: l,h=>.cons (vG i r (h i mem_cons_self)) (ky r fun j hj=>h j (mem_cons_of_mem _ hj))
theorem eD (h:bc n p) : ∀i∈p.toList,i < n:=fun i hi=>mem_range.mp (h.mem_iff.mp hi)
theorem lQ {zs:List α} {d:α} (h:bc zs.length p):(p.toList.map fun i=>zs.getD i d).Perm zs:=by
 have e:((range zs.length).map fun i=>zs.getD i d)=zs:=by
  apply ext_getElem?
  intro i
  by_cases hi:i < zs.length
  ·simp[hi]
  ·simp[hi]
 have:=h.map fun i=>zs.getD i d
 rwa [e] at this
theorem sr {f:α→Ky} {zs:List α} {d:α} (hp:bc zs.length p) (h:Srt (ltK (zs.map f)) p zs.length):((p.toList.map fun i=>zs.getD i d).map f).Pairwise Ky.le:=by
 rw[map_map,pairwise_map,List.pairwise_iff_getElem];intro i j hi hj hij;have hz:=hp.size;have hi':i < p.size:=by simpa using hi
 have hj':j < p.size:=by simpa using hj
 have q:=h i j hij (by omega)
 have e1:p.getD i 0=p[i]:=by simp[Array.getD,hi']
 have e2:p.getD j 0=p[j]:=by simp[Array.getD,hj']
 have l1:p[i] < zs.length:=eD hp _ (by simp)
 have l2:p[j] < zs.length:=eD hp _ (by simp)
 unfold ltK at q;rw[e1,e2] at q;simp only[getD_eq_getElem?_getD,List.getElem?_map,List.getElem?_eq_getElem l1,List.getElem?_eq_getElem l2,map_some,getD_some] at q;unfold Ky.le;simp only[Function.comp,Array.getElem_toList,getD_eq_getElem?_getD,List.getElem?_eq_getElem l1,List.getElem?_eq_getElem l2,getD_some];exact q
noncomputable def yS:List V→Hp→VK→Prop:=fun xs H Q=>∃p,xs=[.ref p]∧∃zs:List (V × Ky),(H p=some (.lst (zs.map (·.1)))∨H p=some (.tup (zs.map (·.1))))∧zs.length < 64∧(∀z∈zs,KyV H z.1 z.2)∧(∃t:Nat,∀z∈zs,z.2.tag=t∧z.2≠.r []) ∧
 ∀(q:Addr) (zs':List (V × Ky)),H q=none→zs'.Perm zs→(zs'.map (·.2)).Pairwise Ky.le→Q (.ref q) (upd H q (.lst (zs'.map (·.1))))
theorem tL {pins:List (Addr × Obj)} {σ:St} {H:Hp} {s:Shared} (I:Inv X pins σ H s) : ∀{zs:List (V × Ky)} {us:List Value},aT (zs.map (·.1)) us→(∀z∈zs,KyV H z.1 z.2)→Paired (VKy s.heap) us (zs.map (·.2))
 | [],_,r,_=>by cases r;exact .nil
 | (v, k) :: zs,_,r,h=>by
  cases r with
  | cons r1 r2 =>
   refine .cons ?_ (tL I r2 fun z hz=>h z (mem_cons_of_mem _ hz))
   have hk:=h (v,k) mem_cons_self;cases k with
   | s x=>cases (show v = .str x from hk);exact r1
   | i x=>cases (show v = .int x from hk);exact r1
   | r l =>
    obtain⟨a,e,ha⟩:=hk;have e:v = .ref a:=e
    subst e;obtain⟨its,rv,pl,_⟩:=I.tuple (SqT.of ha);exact⟨a,its,r1,pl,cQ rv⟩
theorem vm:bC X (.builtin "sorted") yS:=by
 intro pins s σ H xs us Q I r h;obtain⟨p,rfl,zs,hp,hl,hk,⟨t,ht⟩,q⟩:=h;obtain⟨u,rfl,ru⟩:=cS r;cases ru;have main : ∀its:List Value,aT (zs.map (·.1)) its→(∀Q':List Value→Shared→Prop,(∀(h':Heap) (tk:Nat),(∀b o,s.heap.get? b=some o→h'.get? b=some o)→s.heap.objs.size≤h'.objs.size→Q' its { s with heap:=h',toks:=tk })→wpAny (model X.prog X.w) X.A.in1 (collect (.ref p)) Q' X.xe s) →
   wpAny (model X.prog X.w) X.A (call (.builtin "sorted") [.ref p]) (EP X pins σ Q) X.xe s:=by
  intro its rv hcol;have hlen:=rv.length;rw[length_map] at hlen;refine PySem.W.sorted_ky (t:=t) (ks:=zs.map (·.2)) hcol (by omega) (tL I rv hk) (fun k hm=>?_) fun h' a tk c pm hpm hsr hz hold he=>?_
  ·obtain⟨z,hz,rfl⟩:=mem_map.mp hm
   exact ht z hz
  ·rw[← hlen] at hpm hsr
   have hpz:bc zs.length pm:=hpm
   have hpm':bc (zs.map (·.1)).length pm:=by rw[length_map];exact hpm
   have e1:(pm.toList.map fun i=>zs.getD i (V.non,Ky.i 0)).map (·.1)=pm.toList.map fun i=>(zs.map (·.1)).getD i .non:=by
    rw[map_map];refine map_congr_left fun i hi=>?_
    have:=eD hpz i hi
    simp[getD_eq_getElem?_getD,this]
   have new:be X.prog X.w (upd H a (.lst ((pm.toList.map fun i=>zs.getD i (V.non,Ky.i 0)).map (·.1)))) h' a (.lst ((pm.toList.map fun i=>zs.getD i (V.non,Ky.i 0)).map (·.1))):=by
    refine⟨?_,_,c,?_,he⟩
    ·rw[length_map,length_map,length_toList,hpz.size];exact le_of_lt (ax (by omega))
    ·rw[e1];exact ky rv (eD hpm')
   exact⟨.ref a,_,I.laid (t':=tk) hold hz new,rfl,q a _ (I.hok.fresh hz) (lQ hpz) (sr hpz hsr)⟩
 rcases hp with hp | hp
 ·obtain⟨its,rv,pl,_⟩:=I.list (SqL.of hp)
  have hlen:=rv.length;rw[length_map] at hlen;exact main its rv fun Q' k=>zZ pl.isList (by omega) Q' k
 ·obtain⟨its,rv,pl,_⟩:=I.tuple (SqT.of hp)
  have hlen:=rv.length;rw[length_map] at hlen;exact main its rv fun Q' k=>vP (show s.heap.IsTuple p its.toArray from pl) (by omega) Q' k
theorem rY {Ev:Value→Value→Prop} {h:Heap} : ∀{zs:List (V × Str)} {us:List Value},aT (zs.map (·.1)) us→(∀z∈zs,∀u,aX z.1 u→∃t,Ev u (.str z.2 t))→∃kvs:List Value,kvs.length=us.length∧Paired (VKy h) kvs (zs.map fun z=>Ky.s z.2)∧∀(i:Nat) x k,us[i]? = some x→kvs[i]? = some k→Ev x k
 | [],_,r,_=>by cases r;exact⟨[],rfl,.nil,fun i x k e=>by simp at e⟩
 | (v, x) :: zs,_,r,hE=>by
  cases r with
  | cons r1 r2 =>
   obtain⟨kvs,a,b,c⟩:=rY (h:=h) r2 fun z hz=>hE z (mem_cons_of_mem _ hz)
   obtain⟨t,ht⟩:=hE (v,x) mem_cons_self _ r1;refine⟨.str x t :: kvs,by simp[a],.cons ⟨t,rfl⟩ b,fun i y k e1 e2=>?_⟩
   cases i with
   | zero =>
    simp only[List.getElem?_cons_zero,Option.some.injEq] at e1 e2;rw[← e1,← e2];exact ht
   | succ i=>exact c i y k (by simpa using e1) (by simpa using e2)
theorem sE {Q:VK} {q:Str} {body:Expr}
  (I:Inv X pins σ H s) (hr:cu k X.A) (hl:zs.length < 64)
  (hcol : ∀Q':List Value→Shared→Prop,(∀(its:List Value) (h':Heap) (tk:Nat),aT (zs.map (·.1)) its→(∀b o,s.heap.get? b=some o→h'.get? b=some o)→s.heap.objs.size≤h'.objs.size→Q' its { s with heap:=h',toks:=tk })→wpAny (model X.prog X.w) X.A.in1 (collect u) Q' X.xe s)
  (ho:s.heap.get? f=some (PySem.W.kla_obj "<lambda>" q params body scope clos pm c' ctv)) (hcd:s.heap.CodeRec (.ref c') q)
  (hbind : ∀u,bindArgs (PySem.W.kla_fn "<lambda>" q params body scope clos pm (.ref c') ctv) ⟨[u],[]⟩=pure [(x,u)]) (hx:scope.names.lookup x=some .local) (hk:scope.kind = .function) (hco:scope.isCoroutine=false) (hgen:scope.isGenerator=false) (hcell : ∀y∈scope.names,y.2≠.cell)
  (hev : ∀z∈zs,∀u,aX z.1 u→∃t,PySem.W.LamEv X.prog X.w q scope clos body x s.heap u (.str z.2 t))
  (h : ∀(a:Addr) (zs':List (V × Str)),H a=none→zs'.Perm zs→(zs'.map fun z=>Ky.s z.2).Pairwise Ky.le→Q (.ref a) (upd H a (.lst (zs'.map (·.1))))) :
  wpAny (model X.prog X.w) X.A (call (.builtin "sorted") [u] [(Str.ofString "key",.ref f)]) (EP X pins σ Q) X.xe s:=by
 refine PySem.W.sorted_keyed (t:=0) (ks:=zs.map fun z=>Ky.s z.2) (G:=fun its=>aT (zs.map (·.1)) its) hcol (fun k hm=>?_) (fun its rv=>?_) fun its h' a tk c p rv hpm hsr hz hold he=>?_
 ·obtain⟨z,_,rfl⟩:=mem_map.mp hm
  exact⟨rfl,fun z=>nomatch z⟩
 ·have hlen:=rv.length
  rw[length_map] at hlen;obtain⟨kvs,k1,k2,k3⟩:=rY (h:=s.heap) rv hev;refine⟨by omega,kvs,k1,k2,fun i y k e1 e2 h' tk Q' hold hq=>?_⟩
  exact PySem.W.lam_call (s:={ s with heap:=h',toks:=tk }) (hold _ _ ho) (hcd.keeps hold) hr.depth (I.nolimit.keeps hold) (hbind y) hx hk hco hgen hcell (k3 i y k e1 e2) hold hq
 ·have hlen:=rv.length
  rw[length_map] at hlen;rw[← hlen] at hpm hsr;have hpm':bc (zs.map (·.1)).length p:=by rw[length_map];exact hpm
  have e1:(p.toList.map fun i=>zs.getD i (V.non,"")).map (·.1)=p.toList.map fun i=>(zs.map (·.1)).getD i .non:=by
   rw[map_map];refine map_congr_left fun i hi=>?_
   have:=eD hpm i hi
   simp[getD_eq_getElem?_getD,this]
  have new:be X.prog X.w (upd H a (.lst ((p.toList.map fun i=>zs.getD i (V.non,"")).map (·.1)))) h' a (.lst ((p.toList.map fun i=>zs.getD i (V.non,"")).map (·.1))):=by
   refine⟨?_,_,c,?_,he⟩
   ·rw[length_map,length_map,length_toList,hpm.size];exact le_of_lt (ax (by omega))
   ·rw[e1];exact ky rv (eD hpm')
  exact⟨.ref a,_,I.laid (t':=tk) hold hz new,rfl,h a _ (I.hok.fresh hz) (lQ hpm) (sr (f:=fun z:V × Str=>Ky.s z.2) hpm hsr)⟩
theorem rG {v:V} (r:aT xs us) (h:atI xs i=some v) : ∃u,atI us i=some u∧aX v u:=by
 unfold atI at h ⊢;rw[← r.length];obtain⟨j,h1,h2⟩:=Option.bind_eq_some_iff.mp h;obtain⟨u,e,q⟩:=r.get h2;exact⟨u,by rw[h1];exact e,q⟩
noncomputable def yH (pt:Addr) (q:Str) (i:Int) (te:TE):TE:=fun σ H Q=>te σ H fun x H1=>∃p,x = .ref p∧∃zs:List (V × Str),H1 p=some (.tup (zs.map (·.1)))∧zs.length < 64∧H1 pt=some (.tab q)∧(∀z∈zs,∃b ys,z.1 = .ref b∧H1 b=some (.tup ys)∧atI ys i=some (.str z.2)) ∧
 ∀(H2:Hp) (r:Addr) (zs':List (V × Str)),ao H1 H2→H2 r=none→zs'.Perm zs→(zs'.map fun z=>Ky.s z.2).Pairwise Ky.le→Q (.ref r) (upd H2 r (.lst (zs'.map (·.1))))
theorem yw {e0:Expr} {p lpos kp:Pos} {pt:Addr} {q:Str}
  (hr:cu k X.A) (hg:Gl X "sorted") (hm:X.mg "sorted" = none) (ha:PE X e0 te) (hcode:X.env.code = .ref c) (hc:codeHdIn X.K c pt=true) (bm:iH X.mg X.base)
  (hq:X.env.qual ++ "<lambda>" = q) (hdef:defaultsOf params X.env=([],[])) (hcl:closureFor scope X.env=pure clos)
  (hbind : ∀pm c' ctv u,bindArgs (PySem.W.kla_fn "<lambda>" q params (.Subscript (.Name x p1) (.Constant (.int i) kk p2) p3) scope clos pm (.ref c') ctv) ⟨[u],[]⟩=pure [(x,u)]) (hx:scope.names.lookup x=some .local) (hk:scope.kind = .function) (hco:scope.isCoroutine=false) (hgen:scope.isGenerator=false) (hcell : ∀y∈scope.names,y.2≠.cell)
  (hd:(x ==("__debug__" : Str))=false) (hs : ∀o u,subscripted (.Constant (.int i) kk p2) false o u=operate [o,u] (getItem o u))
  (he:starEach [e0] X.env=[(false,eval e0 X.env)]:=by rfl) :
  PE X (.Call (.Name "sorted" p) [e0] [⟨some "key",.Lambda params (.Subscript (.Name x p1) (.Constant (.int i) kk p2) p3) scope lpos,kp⟩] pos) (yH pt q i te):=by
 intro pins s σ H Q I h;refine wpAny_Call_Name_kw (eE I hg hm (by decide+kernel:bootBuiltins "sorted" = some (.builtin "sorted")) ?_)
 refine callWith_kw ?_ (by show backTo pos (starEach [e0] X.env)=_;rw[he];rfl) (by rw[he];rfl)
 rw[he];refine Calls.spliced_cons (thn (ha pins s σ H _ I h) fun u s1 ⟨v,H1,I1,r1,p0,ev,zs,hp,hl,hP,hz,hQ⟩=>Calls.spliced_nil ?_)
 subst ev;cases r1;refine kws_cons (ue (q:=q) I1 hP hq hcode hc bm hdef hcl fun f c' pm ctv s2 H2 I2 sm _ _ ho hcd=>kws_nil ?_)
 obtain⟨its,rv,pl,_⟩:=I2.tuple (SqT.of (sm _ _ hp));have hlen:=rv.length;rw[length_map] at hlen;refine sE (x:=x) (zs:=zs) I2 hr hl (fun Q' k=>vP (show s2.heap.IsTuple p0 its.toArray from pl) (by omega) Q' fun h' tk=>k its h' tk rv) ho hcd (hbind pm c' ctv) hx hk hco hgen hcell (fun z hzm u ru=>?_) fun a zs' hf hpm hsr=>hQ H2 a zs' sm hf hpm hsr
 obtain⟨b,ys,ez,hb,hat⟩:=hz z hzm;rw[ez] at ru;cases ru;obtain⟨jts,rj,pj,hzj⟩:=I2.tuple (SqT.of (sm _ _ hb));obtain⟨w',hw1,t,hw2⟩:=rG rj hat;subst hw2;exact⟨t,PySem.W.ev_item hk hx pj (by rw[← rj.length];exact hzj) hw1 hd hs⟩
noncomputable def zE (pt:Addr) (q:Str) (i:Int) (j:Nat) (ta:TA):TE:=fun σ H Q=>ta σ H fun vs H1=>∃n:Int,vs=[.int n]∧∃(pw:Addr) (xs:List V) (pn:Addr) (ys:List Str),σ[j]? = some (some (.ref pw))∧H1 pw=some (.tup xs)∧atI xs i=some (.ref pn)∧H1 pn=some (.tup (ys.map V.str))∧n=ys.length∧ys.length < 64∧H1 pt=some (.tab q) ∧
 ∀(H2:Hp) (r:Addr) (zs':List (Nat × Str)),ao H1 H2→H2 r=none→zs'.Perm ((range ys.length).zip ys)→(zs'.map fun z=>Ky.s z.2).Pairwise Ky.le→Q (.ref r) (upd H2 r (.lst (zs'.map fun z=>V.int z.1)))
theorem zu {ta:TA} {y:Str} {p p' p4 p5 lpos kp:Pos} {cy pt:Addr} {q:Str}
    (hr:cu k X.A) (hcm:X.calm=true) (hg:Gl X "sorted") (hm:X.mg "sorted" = none) (hg2:Gl X "range") (hm2:X.mg "range" = none) (ha:PA X [e1] ta) (hcode:X.env.code = .ref c) (hc:codeHdIn X.K c pt=true) (bm:iH X.mg X.base)
    (hq:X.env.qual ++ "<lambda>" = q) (hdef:defaultsOf params X.env=([],[])) (hcl:closureFor scope X.env=pure clos)
    (hN:X.N[j]? = some y) (hv:X.env.kindOf y=some .cell) (hcy:X.env.cells.lookup y=some cy) (hcl2:clos.lookup y=some cy)
    (hbind : ∀pm c' ctv u,bindArgs (PySem.W.kla_fn "<lambda>" q params (.Subscript (.Subscript (.Name y p1) (.Constant (.int i) kk p2) p3) (.Name x p4) p5) scope clos pm (.ref c') ctv) ⟨[u],[]⟩=pure [(x,u)]) (hx:scope.names.lookup x=some .local) (hy:scope.names.lookup y=some .free) (hk:scope.kind = .function) (hco:scope.isCoroutine=false) (hgen:scope.isGenerator=false) (hcell : ∀y∈scope.names,y.2≠.cell)
    (hd:(x ==("__debug__" : Str))=false) (hd2:(y ==("__debug__" : Str))=false) (hcd:(y ==("__classdict__" : Str))=false) (hs : ∀o u,subscripted (.Constant (.int i) kk p2) false o u=operate [o,u] (getItem o u)) (hs2 : ∀o u,subscripted (.Name x p4) false o u=operate [o,u] (getItem o u))
    (he:starEach [e1] X.env=[(false,eval e1 X.env)]:=by rfl) :
    PE X (.Call (.Name "sorted" p) [.Call (.Name "range" p') [e1] [] pos2] [⟨some "key",.Lambda params (.Subscript (.Subscript (.Name y p1) (.Constant (.int i) kk p2) p3) (.Name x p4) p5) scope lpos,kp⟩] pos) (zE pt q i j ta):=by
  intro pins s σ H Q I h;refine wpAny_Call_Name_kw (eE I hg hm (by decide+kernel:bootBuiltins "sorted" = some (.builtin "sorted")) ?_)
  refine callWith_kw (Calls.spliced_cons ?_) rfl rfl
  refine wpAny_Call_Name_kw (eE I hg2 hm2 boot_range ?_)
  refine PyProof.Rows.callWith_type1 (thn (ha pos2 pins s σ H _ I h) fun us s1 zr7393=>?_) he rfl
  obtain⟨vs,H1,I1,r1,n,ev,pw,xs,pn,ys,hsg,hpw,hat,hpn,hn,hl,hP,hQ⟩:=zr7393;subst ev;obtain⟨u,rfl,ru⟩:=cS r1;obtain⟨t,rfl⟩:=ru;refine call_range_1 (Calls.spliced_nil ?_)
  have hsz:Builtin.Range.rangeSize 0 n 1=((ys.length:Nat):Int):=by rw[rangeSize_one];split <;> omega
  refine kws_cons (ue (q:=q) (I1.kept fun b o e=>Heap.get?_push_of_some _ e) hP hq hcode hc bm hdef hcl fun f c' pm ctv s2 H2 I2 sm hkp _ ho hcd'=>kws_nil ?_)
  have hrg:=hkp _ _ (IsRange.new ..) (I1.hok.fresh (le_refl _));obtain⟨zs,hzs⟩ : ∃zs:List (V × Str),zs=((range ys.length).zip ys).map fun z=>(V.int z.1,z.2):=⟨_,rfl⟩
  have hzl:zs.length=ys.length:=by rw[hzs];simp
  have hz1:zs.map (·.1)=jP 0 ys.length:=by
    rw[hzs,map_map];unfold jP;have:((fun x:V × Str=>x.1) ∘ fun z:Nat × Str=>(V.int z.1,z.2))=(fun n:Nat=>V.int n) ∘ Prod.fst:=rfl
    rw[this,← map_map,map_fst_zip (by simp)]
    exact map_congr_left fun i _=>by simp
  obtain⟨m,_,hloc⟩:=I2.loc;obtain⟨uw,rw1,lw⟩:=hloc j y (.ref pw) hN hsg (.inr (.inl hv));cases rw1;have hcell2:s2.heap.IsCell cy (some (.ref pw)):=by
    rcases lw with⟨z,_⟩ | ⟨_,c0,z,hz⟩
    · rw[hv] at z;cases z
    · rw[hcy] at z;cases z;exact hz
  obtain⟨its,rv,pl,hz⟩:=I2.tuple (SqT.of (sm _ _ hpw));obtain⟨ub,hub,rub⟩:=rG rv hat;cases rub;obtain⟨jts,rj,pj,hzj⟩:=I2.tuple (SqT.of (sm _ _ hpn));exact
    sE (x := x) (zs:=zs) I2 hr (by omega) (fun Q' k=>ph (A:=X.A.in1) (I2.ok.hd hcm) hrg (small_one (by decide) (by decide) (by omega) (by omega)) hsz (by omega) fun h' tk acc hk hsz' hacc=>k acc.toList h' tk (by rw[hz1];exact sf hacc) hk (le_of_lt hsz')) ho hcd' (hbind pm c' ctv) hx hk hco hgen hcell (fun z hzm u ru=>by
      rw[hzs] at hzm;obtain⟨z',hz',rfl⟩:=mem_map.mp hzm;obtain⟨t',rfl⟩:=ru;obtain⟨k',hk1,hk2⟩:=List.getElem_of_mem hz';have hkl:k' < ys.length:=by simpa using hk1
      have ez:z'=(k',ys[k']):=by rw[← hk2];simp
      subst ez;have hat2:atI (ys.map V.str) ((k':Nat):Int)=some (.str ys[k']):=by
        unfold atI ixN;simp[hkl]
      obtain⟨uk,huk,t2,rfl⟩:=rG rj hat2;exact⟨t2,PySem.W.ev_place hk hx hy hcl2 hcell2 pl (by rw[← rv.length];exact hz) hub pj (by rw[← rj.length];exact hzj) huk hd hd2 hcd hs hs2⟩) fun a zs' hf hpm hsr=>by
      have hpm2:(zs'.map fun z=>((match z.1 with | .int n=>n.toNat | _=>0:Nat),z.2)).Perm ((range ys.length).zip ys):=by
        have:=hpm.map fun z:V × Str=>((match z.1 with | .int n=>n.toNat | _=>0:Nat),z.2)
        rw[hzs,map_map] at this;have e:((fun z:V × Str=>((match z.1 with | .int n=>n.toNat | _=>0:Nat),z.2)) ∘ fun z:Nat × Str=>(V.int z.1,z.2))=id:=by
          funext z
          simp
        rw[e,map_id] at this;exact this
      have:=hQ H2 a _ sm hf hpm2 (by rw[map_map];exact hsr)
      rw[map_map] at this;have e2:zs'.map ((fun z:Nat × Str=>V.int z.1) ∘ fun z:V × Str=>((match z.1 with | .int n=>n.toNat | _=>0:Nat),z.2))=zs'.map (·.1):=by
        refine map_congr_left fun z hzm=>?_
        have:=hpm.mem_iff.mp hzm
        rw[hzs] at this;obtain⟨z',_,rfl⟩:=mem_map.mp this;simp
      rw[e2] at this;exact this
end L2
namespace PySem.W
open PySem PySem.Calls PyProof.Rows
noncomputable def leB:List Int→List Int→Bool→Bool
 | a :: l,b :: m,f=>if a == b then leB l m f else decide (a≤b)
 | _,_,f=>f
theorem vz : ∀(l m:List Int) (f:Bool),leB l m f = !(jU m l (!f))
 | [],m,f=>by cases m <;> simp[leB,jU]
 | a :: l,[],f=>by simp[leB,jU]
 | a :: l,b :: m,f=>by
  have ih:=vz l m f;unfold leB jU
  by_cases h:a=b
  ·subst h
   rw[if_pos (by simp),if_pos (by simp),ih]
  ·rw[if_neg (by simpa using h),if_neg (by simpa using fun z=>h z.symm)]
   by_cases g:a≤b
   ·rw[decide_eq_true g,decide_eq_false (by omega)];rfl
   ·rw[decide_eq_false g,decide_eq_true (by omega)];rfl
theorem Cv (l m:List Int):leB l m (decide (l.length≤m.length)) = !decide (m < l):=by
 rw[vz,← qj]
 congr 2
 by_cases h:l.length≤m.length
 ·rw[decide_eq_true h,decide_eq_false (by omega)];rfl
 ·rw[decide_eq_false h,decide_eq_true (by omega)];rfl
theorem oF {vs:List Value} {l m:List Int} {P:PySem.Fin→Shared→Prop} (hx:IsTup s.heap a us.toArray) (hy:IsTup s.heap b vs.toArray) (hu:IntsAre us l) (hv:IntsAre vs m) (h:P (.done (.ret (.bool (!decide (m < l))))) s) :
  wpAny (model prog w) A (Builtin.«tuple.__le__» ⟨[.ref a,.ref b],[]⟩) P E s:=by
 have hTb:=hy.typeIs;obtain⟨oa,hoa,_,na,hda⟩:=hx;obtain⟨ob,hob,_,nb,hdb⟩:=hy
 show wpAny _ _ (isInstance (.ref b) (.type "tuple") >>= _) _ _ s
 refine wpAny_bind (wpAny_isInstance hTb isSubtype_tuple_tuple ?_)
 simp only[Bool.not_true,Bool.false_eq_true,if_false];refine wpAny_bind (wpAny_tupleItemsOf hoa hda ?_)
 refine wpAny_bind (wpAny_tupleItemsOf hob hdb ?_)
 refine wpAny_bind ?_
 refine wpAny_forIn_list _
  (fun rest r s'=>r.1=none∧s'=s∧∃us' vs' l' m',rest=List.zip us' vs'∧IntsAre us' l'∧IntsAre vs' m'∧leB l' m' (decide (l.length≤m.length)) = !decide (m < l))
  _ ?_ ?_ _ _ ⟨rfl,rfl,us,vs,l,m,by simp,hu,hv,Cv l m⟩
 ·rintro⟨x,y⟩ rest r s' ⟨hr,rfl,us',vs',l',m',hz,hx',hy',hdec⟩
  cases hx' with
  | nil=>simp at hz
  | cons p t hx'' =>
   cases hy' with
   | nil=>simp at hz
   | cons q t' hy'' =>
    simp only[List.zip_cons_cons,List.cons.injEq,Prod.mk.injEq] at hz;obtain⟨⟨rfl,rfl⟩,rfl⟩:=hz;refine wpAny_bind (wpAny_eqBool_int ?_)
    unfold leB at hdec
    by_cases hk:p=q
    ·subst hk
     rw[if_pos (by simp)] at hdec
     have e:(p == p)=true:=by simp
     rw[e];simp only[Bool.not_true,Bool.false_eq_true,if_false];exact wpAny_pure ⟨rfl,rfl,_,_,_,_,rfl,hx'',hy'',hdec⟩
    ·rw[if_neg (by simpa using hk)] at hdec
     have e:(p == q)=false:=by simpa using hk
     rw[e];simp only[Bool.not_false,if_true];rw[← hdec] at h;refine wpAny_bind (wpAny_rule ?_)
     refine wpAny_bind (show wpAny (model prog w) A (compareOp .LtE (.int p t) (.int q t')) _ E _ from le_int ?_)
     exact wpAny_bind (wpAny_pure (wpAny_pure (wpAny_pure h)))
 ·rintro⟨r1,r2⟩ s' ⟨hr,rfl,us',vs',l',m',hz,hx',hy',hdec⟩
  simp only at hr;subst hr;refine wpAny_pure ?_
  have e:leB l' m' (decide (l.length≤m.length))=decide (l.length≤m.length):=by
   cases hx' with
   | nil=>cases m' <;> simp[leB]
   | cons _ _ _ =>
    cases hy' with
    | nil=>simp[leB]
    | cons _ _ _=>simp at hz
  rw[← hdec,e] at h;have e1:us.toArray.size=l.length:=by rw[size_toArray,hu.length]
  have e2:vs.toArray.size=m.length:=by rw[size_toArray,hv.length]
  rw[e1,e2];exact h
theorem le_rows {vs:List Value} {l m:List Int} (hc:A.units < cLine) (hx:IsTup s.heap a us.toArray) (hy:IsTup s.heap b vs.toArray) (hu:IntsAre us l) (hv:IntsAre vs m) (h:Q (.bool (!decide (m < l))) s) :
  wpAny (model prog w) A (compareOp .LtE (.ref a) (.ref b)) Q E s :=
 wpAny_richCompare_same_room (op:=.LtE) hx.typeIs hy.typeIs F.slot_tuple_le
  (wpAny_call_entry F.slot_tuple_le hx.typeIs F.entry_tuple_le (oF hx hy hu hv ⟨_,rfl,(fun e=>nomatch e),h⟩) (F.args_tuple_le_2 _ _)) hc
end PySem.W
namespace L2
open PySem PySem.Spec PyProof.Rows
open PySem.W (Ky VKy bc Srt ltK)
noncomputable def Df:R2:=fun x y H Q=>∃a b:Ky,KyV H x a∧KyV H y b∧a.tag=b.tag∧Q (.bl (!(b.lt a))) H
theorem BE (hu:X.A.units+1 < cLine):OpR X (compareOp .LtE) Df:=by
 intro pins s σ H x y v u Q I rx ry h;obtain⟨a,b,ha,hb,ht,q⟩:=h;cases a with
 | s p =>
  cases b <;> first | cases ht | skip
  cases (show x = .str p from ha)
  rename_i p'
  cases (show y = .str p' from hb)
  exact BB pins s σ H _ _ v u Q I rx ry ⟨p,rfl,p',rfl,q⟩
 | i p =>
  cases b <;> first | cases ht | skip
  cases (show x = .int p from ha)
  rename_i p'
  cases (show y = .int p' from hb)
  obtain⟨t,rfl⟩:=rx;obtain⟨t',rfl⟩:=ry;refine le_int ⟨.bl _,H,I,rfl,?_⟩
  have e:decide (p≤p') = !(Ky.i p').lt (Ky.i p):=by
   show _ = !decide (p' < p)
   by_cases g:p≤p'
   ·rw[decide_eq_true g,decide_eq_false (by omega)];rfl
   ·rw[decide_eq_false g,decide_eq_true (by omega)];rfl
  rw[e];exact q
 | r l =>
  cases b <;> first | cases ht | skip
  obtain⟨c,rfl,hc⟩:=ha;obtain⟨d,rfl,hd⟩:=hb;cases rx;cases ry;obtain⟨its,rv,pl,_⟩:=I.tuple (SqT.of hc);obtain⟨jts,rj,pj,_⟩:=I.tuple (SqT.of hd);exact PySem.W.le_rows (by omega) pl pj (cQ rv) (cQ rj) ⟨.bl _,H,I,rfl,q⟩
noncomputable def kH (tabs:List (Addr × Addr × Str)) (H:Hp):Prop:=∀t∈tabs,H t.2.1=some (.tab t.2.2)
theorem ye {α:Type} {f:α→Addr} {t t':α} : ∀{l:List α},(l.map f).Nodup→t∈l→t'∈l→f t=f t'→t=t'
 | [],_,h,_,_=>by simp at h
 | x :: l,hn,h,h',e=>by
  have hn:(f x :: l.map f).Nodup:=hn
  obtain⟨h1,h2⟩:=nodup_cons.mp hn;rcases mem_cons.mp h with rfl | h
  ·rcases mem_cons.mp h' with rfl | h'
   ·rfl
   ·exact absurd (mem_map.mpr ⟨t',h',e.symm⟩) h1
  ·rcases mem_cons.mp h' with h' | h'
   ·exact absurd (mem_map.mpr ⟨t,h,by rw[← h'];exact e⟩:f x∈l.map f) h1
   ·exact ye h2 h h' e
theorem xa {vs:List Value} {tabs:List (Addr × Addr × Str)}
  (KX:K.In s₁.heap) (hns:s₁.heap.Ns mainGlobals mg) (hb:s₁.heap.Ns builtinsNs mb) (hbb : ∀x:Str,x ≠ "__name__" → mb x=bootBuiltins x) (hlim:s₁.heap.NoLimit) (hg:s₁.gens = #[]) (hbm:iH mg s₁.heap)
  (hT : ∀t∈tabs,s₁.heap.get? t.2.1=some (tabObj #[])) (hC : ∀t∈tabs,codeHdIn K t.1 t.2.1=true) (hKt : ∀t∈tabs,K.lookup t.2.1=none) (hnd:(tabs.map (·.2.1)).Nodup)
  (ha:s₁.heap.get? a=some { cls:=.type "list",data:=.seq vs.toArray }) (hi:IntsAre vs ns) (hl:ns.length≤sizeLine) (hr:cu k callerA)
  (F : ∀base:Heap,K.In base→base.Ns mainGlobals mg→iH mg base→gY P w K mg base CX0 k fa fd [x] sp) (hbind : ∀(s:Shared) (u:Value),BindsTo s fd ⟨[u],[]⟩ [(x,u)])
  (hsp : ∀H:Hp,kH tabs H→SqL K H a (ns.map V.int)→sp [.ref a] H (fun v H'=>v = .bl true∧kH tabs H') fun _ _ _=>False) :
  codeAny (model P w) callerA (.call (.ref fa) ⟨[.ref a],[]⟩) (fun r s'=>r = .ok (.ret (.bool true))∧OldK s₁.heap s'.heap∧s'.os=s₁.os∧AllBare s'.gens) s₁:=by
 have rv:=ix hi;have lenV:=hi.length;have naT : ∀t∈tabs,t.2.1≠a:=fun t ht z=>by
  have:=hT t ht
  rw[z,ha] at this;cases this
 obtain⟨S,hS1,hS2⟩ : ∃S:Hp,(∀b u,S b=some u→b=a∧K.lookup a=none∧u = .frz { cls:=.type "list",data:=.seq vs.toArray } (.lst (ns.map V.int)))∧∀H:Hp,(∀b u,S b=some u→H b=some u)→SqL K H a (ns.map V.int):=by
  cases hk:K.lookup a with
  | some o =>
   have e:=KX a o hk;rw[ha] at e;cases e;refine⟨fun _=>none,fun b u z=>(nomatch (show(none:Option HO)=some u from z)),fun H _=>?_⟩
   exact .inr ⟨_,vs.toArray,_,hk,rfl,rfl,rfl,by rw[size_toArray,lenV];exact hl,by simpa using rv⟩
  | none =>
   refine⟨fun b=>if b=a then some (.frz { cls:=.type "list",data:=.seq vs.toArray } (.lst (ns.map V.int))) else none,fun b u z=>?_,fun H z=>.inl (.inr ⟨_,z a _ (if_pos rfl)⟩)⟩
   by_cases hb:b=a
   ·have z':=(if_pos hb).symm.trans z
    cases z';exact⟨hb,rfl,rfl⟩
   ·have z':=(if_neg hb).symm.trans z
    cases z'
 obtain⟨H,hH1,hH2,hH3⟩ : ∃H:Hp,(∀b u,H b=some u→S b=some u∨∃t∈tabs,b=t.2.1∧u = .tab t.2.2)∧kH tabs H∧∀b u,S b=some u→H b=some u:=by
  refine⟨fun b=>match tabs.find? (fun t=>t.2.1 == b) with | some t=>some (.tab t.2.2) | none=>S b,fun b u z=>?_,fun t ht=>?_,fun b u z=>?_⟩
  ·cases q:tabs.find? (fun t=>t.2.1 == b) with
   | some t =>
    simp only[q] at z;have e:=find?_some q;exact .inr ⟨t,List.mem_of_find?_eq_some q,(eq_of_beq e).symm,(Option.some.inj z).symm⟩
   | none =>
    simp only[q] at z;exact .inl z
  ·cases q:tabs.find? (fun t'=>t'.2.1 == t.2.1) with
   | some t' =>
    simp only[q];have e0:=find?_some q;have e:t'.2.1=t.2.1:=by simpa using e0
    have:t'=t:=by
     have hm:=List.mem_of_find?_eq_some q;exact ye hnd hm ht e
    rw[this]
   | none =>
    have:=List.find?_eq_none.mp q t ht
    simp at this
  ·have hb:=(hS1 b u z).1
   cases q:tabs.find? (fun t=>t.2.1 == b) with
   | some t =>
    have e0:=find?_some q;have e:t.2.1=b:=by simpa using e0
    exact absurd (e.trans hb) (naT t (List.mem_of_find?_eq_some q))
   | none =>
    simp only[q];exact z
 have hok:HOk P w H s₁.heap:=fun b u z=>by
  rcases hH1 b u z with z | ⟨t,ht,rfl,rfl⟩
  ·obtain⟨rfl,_,rfl⟩:=hS1 b u z
   exact⟨ha,by rw[length_map];exact hl,vs,_,rv,ha⟩
  ·exact⟨#[],hT t ht,trivial,fun pos cv z=>by simp[codeAmong] at z⟩
 have base_of : ∀{b:Addr} {o:Obj},s₁.heap.get? b=some o→H b=none→(oA s₁.heap H).get? b=some o:=fun e n=>yp e n
 have noA : ∀{b:Addr} {o:Obj},s₁.heap.get? b=some o→o.cls≠.type "list" → o.cls≠.none→H b=none:=fun {b o} e d d2=>by
  cases q:H b with
  | none=>rfl
  | some u =>
   rcases hH1 b u q with z | ⟨t,ht,rfl,rfl⟩
   ·obtain⟨rfl,_,_⟩:=hS1 b u z
    rw[ha] at e;cases e;exact absurd rfl d
   ·rw[hT t ht] at e;cases e
    exact absurd rfl d2
 have noD : ∀{b:Addr} {o:Obj} {es:Array DictEntry} {ep:Nat},s₁.heap.get? b=some o→o.data = .dict es ep→H b=none:=fun {b o es ep} e d=>by
  cases q:H b with
  | none=>rfl
  | some u =>
   rcases hH1 b u q with z | ⟨t,ht,rfl,rfl⟩
   ·obtain⟨rfl,_,_⟩:=hS1 b u z
    rw[ha] at e;cases e;have d':Data.seq vs.toArray _=Data.dict es ep:=d
    cases d'
   ·rw[hT t ht] at e;cases e
    have d':Data.fields #[]=Data.dict es ep:=d
    cases d'
 have nsK : ∀{b:Addr} {m:Str→Option Value},s₁.heap.Ns b m→(oA s₁.heap H).Ns b m:=fun {b m} zq32=>by obtain⟨o,es,ep,e,d,r⟩:=zq32;exact(⟨o,es,ep,base_of e (noD e d),d,r⟩)
 have hKb:K.In (oA s₁.heap H):=fun b o e=>base_of (KX b o e) (by
  cases q:H b with
  | none=>rfl
  | some u =>
   rcases hH1 b u q with z | ⟨t,ht,rfl,rfl⟩
   ·obtain⟨rfl,z2,_⟩:=hS1 b u z
    rw[z2] at e;cases e
   ·rw[hKt t ht] at e;cases e)
 have hBb:iH mg (oA s₁.heap H):=by
  obtain⟨bm,ob,h1,h2,h3,h4,h5,h6⟩:=hbm;exact⟨bm,ob,h1,h2,base_of h3 (noA h3 (by rw[h4];decide) (by rw[h4];decide)),h4,h5,h6⟩
 have hM:Mod K mg (oA s₁.heap H):=⟨hKb,nsK hns,⟨mb,nsK hb,hbb⟩,let ⟨mc,h1,h2⟩:=hlim;⟨mc,nsK h1,h2⟩⟩
 have e0:AG P w K mg (oA s₁.heap H) callerA [] s₁ H:=⟨rfl,hM,fun b o e=>zU e,le_of_eq (xo _ _),trivial,fun b hb=>absurd (show b∈([]:List Addr) from hb) (by simp),hok,.of_eq hg⟩
 refine codeAny_mono ((F _ hKb (nsK hns) hBb).run callerA [] s₁ H ⟨[.ref a],[]⟩ [.ref a] [.ref a] _ _ hr e0 (hbind s₁ (.ref a)) (.cons rfl .nil) (hsp H hH2 (hS2 H hH3))) fun r s' h=>?_
 cases r with
 | error e=>exact h.elim
 | ok fl =>
  cases fl with
  | next=>exact False.elim h
  | brk=>exact False.elim h
  | cont=>exact False.elim h
  | ret u =>
   obtain⟨v,H',os,bare,un,hok',r',q⟩:=h;obtain⟨q',qT⟩:=q;subst q';obtain rfl:u=Value.bool true:=r'
   have frz : ∀b u,S b=some u→∀o,s₁.heap.get? b=some o→s'.heap.get? b=some o:=fun b u z o e=>by
    obtain⟨rfl,_,rfl⟩:=hS1 b u z;have z2:=un.frzs b _ _ (hH3 _ _ z);obtain⟨e2,_⟩:=hok' b _ z2;rw[ha] at e;cases e;exact e2
   refine⟨rfl,⟨fun b o e=>?_,fun b o e=>un.there b o e (by simp)⟩,os,bare⟩
   cases q:H b with
   | none=>exact .inl (un.keep b o e q (by intro z;exact absurd (show b∈([]:List Addr) from z) (by simp)) (by simp))
   | some u =>
    rcases hH1 b u q with z | ⟨t,ht,rfl,rfl⟩
    ·exact .inl (frz b u z o e)
    ·obtain⟨ps,e2,_⟩:=hok' _ _ (qT t ht)
     rw[hT t ht] at e;cases e;exact .inr (.inl ⟨((codeHd_of_K KX (hC t ht)).tab (hT t ht)).isCodeTable,rfl,#[],ps,rfl,by rw[Array.empty_append];exact e2⟩)
theorem yA {l:PySem.W.OpenLaw} {d:DefRec} {K:Params→PySem.W.Frag} {sp:World→Sp} {tabs:List (Addr × Addr × Str)}
  (hn:l.most=some n) (hn2:n≤sizeLine) (hdf:d.params.defaults=[]) (hr:cu k callerA)
  (hY : ∀(w:World) (h:Heap),YP w h→(K w.params).In h) (hT : ∀(w:World) (h:Heap),YP w h→∀t∈tabs,h.get? t.2.1=some (tabObj #[]))
  (hC : ∀w:World,∀t∈tabs,codeHdIn (K w.params) t.1 t.2.1=true) (hKt : ∀w:World,∀t∈tabs,(K w.params).lookup t.2.1=none) (hnd:(tabs.map (·.2.1)).Nodup)
  (F : ∀(w:World) (mg:Str→Option Value) (fa:Addr) (h:Heap),(K w.params).In h→h.Ns mainGlobals mg→mg d.name=some (.ref fa) →
   ∃ fd:FuncData,(∀(s:Shared) (u:Value),BindsTo s fd ⟨[u],[]⟩ [(x,u)]) ∧
    ∀base:Heap,(K w.params).In base→base.Ns mainGlobals mg→iH mg base→gY l.prog w (K w.params) mg base CX0 k fa fd [x] (sp w))
  (hsp : ∀(w:World) (H:Hp) (a:Addr) (ns:List Int),ns.length≤n→kH tabs H→SqL (K w.params) H a (ns.map V.int)→sp w [.ref a] H (fun v H'=>v = .bl true∧kH tabs H') fun _ _ _=>False) :
  PySem.W.WalkO q loose XP YP l.row.toRowW d [] (fun f vs=>PySem.call f vs):=by
 refine Att.attach_call hn hdf fun w s₀ s₁ mg mb fa o pm cd doc a vs ns G Y ho hd hcd hmg hobj hints hlen hg=>?_
 have KX:=hY w _ Y;obtain⟨fd,hb,hF⟩:=F w mg fa _ KX G.T.g hmg;exact xa KX G.T.g G.T.b G.T.builtins G.T.nolimit hg G.T.bmain (hT w _ Y) (hC w) (hKt w) hnd hobj hints (le_trans hlen hn2) hr hF hb fun H hO hS=>hsp w H a ns hlen hO hS
noncomputable def qk (ta:TA):TE:=fun σ H Q=>ta σ H fun vs H1=>∃j:Int,vs=[.int j]∧0≤j∧j≤1000∧∀l,H1 l=none→Q (.ref l) (upd H1 l (.lst (jP 0 j.toNat)))
section
variable {ta:TA} {p:Pos}
theorem sw (hc:X.calm=true) (hg:Gl X "list") (hm:X.mg "list" = none) (hg2:Gl X "range") (hm2:X.mg "range" = none) (ha:PA X [e1] ta) (hs:starEach [e1] X.env=[(false,eval e1 X.env)]:=by rfl) :
  PE X (.Call (.Name "list" p) [.Call (.Name "range" p2) [e1] [] pos2] [] pos) (qk ta):=by
 intro pins s σ H Q I h;refine wpAny_Call_Name_kw (eE I hg hm (by decide+kernel:bootBuiltins "list" = some (.type "list")) ?_)
 refine PyProof.Rows.callWith_type1 (Calls.spliced_cons ?_) rfl rfl
 refine wpAny_Call_Name_kw (eE I hg2 hm2 boot_range ?_)
 refine PyProof.Rows.callWith_type1 (thn (ha pos2 pins s σ H _ I h) fun us s1 zr7753=>?_) hs rfl
 obtain⟨vs,H1,I1,r1,q1⟩:=zr7753;obtain⟨j,e,q1,q2,q⟩:=q1;subst e;obtain⟨u,rfl,ru⟩:=cS r1;obtain⟨t,rfl⟩:=ru;refine call_range_1 ?_
 refine Calls.spliced_nil ?_
 have hsz:Builtin.Range.rangeSize 0 j 1=((j.toNat:Nat):Int):=by rw[rangeSize_one];split <;> omega
 refine call_list_range (I.ok.hd hc) (IsRange.new ..) (small_one (by decide) (by decide) (by omega) (by omega)) hsz (by omega) fun h' tk acc c hk hg' hacc=>?_
 obtain⟨h1,eh1⟩ : ∃h1:Heap,h1=s1.heap.push { cls:=.type "range",data:=.fields #[.int 0 s1.toks,.int j t,.int 1 (s1.toks+1)] }:=⟨_,rfl⟩;have hks : ∀b o,s1.heap.get? b=some o→h'.get? b=some o:=fun b o e=>hk b o (Heap.get?_push_of_some _ e)
 have hz:s1.heap.objs.size≤(s1.heap.push { cls:=.type "range",data:=.fields #[.int 0 s1.toks,.int j t,.int 1 (s1.toks+1)] }).objs.size:=by rw[Heap.size_push];omega
 exact⟨.ref _,_,I1.laid (t':=tk) hks hz (show be X.prog X.w _ _ _ (.lst (jP 0 j.toNat)) from⟨by rw[aJ];exact le_of_lt (ax (by omega)),acc.toList,c,sf hacc,by rw[Array.toArray_toList];exact hg'⟩),rfl,q _ (I1.hok.fresh hz)⟩
end
end L2
namespace PySem
open L2 PyProof.Rows PySem.Calls
noncomputable def b01 (b:Bool):Int:=if b then 1 else 0
theorem sh {b:Bool} {Q:Int→Shared→Prop} (h:Q (hashInt (b01 b)) { s with toks:=s.toks+1 }):wpAny (model prog w) A (pyHash (.bool b)) Q E s:=by
 have hT:s.TypeIs (.bool b) "bool" := rfl
 show wpAny _ _ (pyHashByItsType (.bool b)) Q E s
 unfold pyHashByItsType;refine wpAny_bind ?_
 rw[cRoomFor,if_neg (by rw[show[Value.bool b].any Value.onHeap=false from rfl];exact Bool.false_ne_true)]
 refine wpAny_pure (wpAny_bind (wpAny_specialOf hT PySem.F.slot_bool_hash.lookup ?_))
 refine wpAny_ite_split (fun z=>by cases z) fun _=>?_
 refine wpAny_bind (wpAny_specialOf hT PySem.F.slot_bool_hash.lookup ?_)
 refine wpAny_ite_split (fun z=>by cases z) fun _=>?_
 refine wpAny_bind (wpAny_callSpecialIfBoundUnlessNone?_slot hT PySem.F.slot_bool_hash (wpAny_call_entry PySem.F.slot_bool_hash hT PySem.F.entry_int_hash ?_ (PySem.F.args_int_hash_1 _)))
 have hr:=rawHash_range (b01 b);cases b with
 | true =>
  refine(show wpAny _ _ (do ret (← mkInt (rawHash 1))) _ _ s from wpAny_ret_mkInt ?_)
  show wpAny _ _ (if (decide (-(2:Int) ^ 63≤rawHash 1) && decide (rawHash 1 < 2 ^ 63))=true then _ else _) Q E _
  rw[if_pos (by decide)]
  exact wpAny_pure h
 | false =>
  refine(show wpAny _ _ (do ret (← mkInt (rawHash 0))) _ _ s from wpAny_ret_mkInt ?_)
  show wpAny _ _ (if (decide (-(2:Int) ^ 63≤rawHash 0) && decide (rawHash 0 < 2 ^ 63))=true then _ else _) Q E _
  rw[if_pos (by decide)]
  exact wpAny_pure h
noncomputable def ml:Option Key→Value→Bool
 | none,.none=>true
 | some (.inl i),.bool b=>b01 b == i
 | some k,v=>kE k v
 | _,_=>false
theorem cw {k:Option Key} (h:ml k v=true):(k=none∧v = .none)∨(∃i t,k=some (.inl i)∧v = .int i t)∨(∃x t,k=some (.inr x)∧v = .str x t)∨∃b,k=some (.inl (b01 b))∧v = .bool b:=by
 cases k with
 | none=>cases v <;> first | exact .inl ⟨rfl,rfl⟩ | cases h
 | some k =>
  have main:kE k v=true→(some k=none∧v = .none)∨(∃i t,some k=some (.inl i)∧v = .int i t)∨(∃x t,some k=some (.inr x)∧v = .str x t)∨∃b,some k=some (.inl (b01 b))∧v = .bool b:=fun h=>by
   rcases bz h with⟨i,t,rfl,rfl⟩ | ⟨x,t,rfl,rfl⟩
   ·exact .inr (.inl ⟨i,t,rfl,rfl⟩)
   ·exact .inr (.inr (.inl ⟨x,t,rfl,rfl⟩))
  cases v with
  | bool b =>
   cases k with
   | inl i=>exact .inr (.inr (.inr ⟨b,by rw[eq_of_beq (show(b01 b == i)=true from h)],rfl⟩))
   | inr x=>exact main h
  | _=>exact main (by cases k <;> exact h)
noncomputable def EX (w:World):Option Key→Int | none=>gN | some k=>Dw w k
theorem DS {a b:Option Key} {Q:Bool→Shared→Prop} (hu:ml a u=true) (hv:ml b v=true) (h:Q (decide (a=b)) s):wpAny (model prog w) A (eqBool u v) Q E s:=by
 have ii : ∀i j:Int,decide (some (Sum.inl i:Key)=some (.inl j))=(i == j):=fun i j=>by rw[Bool.eq_iff_iff];simp
 rcases cw hu with⟨rfl,rfl⟩ | ⟨i,t,rfl,rfl⟩ | ⟨x,t,rfl,rfl⟩ | ⟨c,rfl,rfl⟩ <;> rcases cw hv with⟨rfl,rfl⟩ | ⟨j,t',rfl,rfl⟩ | ⟨y,t',rfl,rfl⟩ | ⟨d,rfl,rfl⟩
 ·exact sg (by simpa using h)
 ·exact SeqAt.EqAt.none_int j t' _ _ _ _ (by simpa using h)
 ·exact SeqAt.EqAt.none_str y t' _ _ _ _ (by simpa using h)
 ·exact SeqAt.EqAt.none_bool d _ _ _ _ (by simpa using h)
 ·exact SeqAt.EqAt.int_none i t _ _ _ _ (by simpa using h)
 ·rw[ii] at h;exact wpAny_eqBool_int h
 ·exact SeqAt.EqAt.int_str i t y t' _ _ _ _ (by simpa using h)
 ·rw[ii] at h;exact SeqAt.EqAt.int_bool i t d _ _ _ _ h
 ·exact SeqAt.EqAt.str_none x t _ _ _ _ (by simpa using h)
 ·exact SeqAt.EqAt.str_int x t j t' _ _ _ _ (by simpa using h)
 ·refine wpAny_eqBool_str ?_
  have e:decide (x=y)=decide (some (Sum.inr x:Key)=some (.inr y)):=decide_eq_decide.mpr ⟨fun e=>by rw[e],fun e=>Sum.inr.inj (Option.some.inj e)⟩
  rw[e];exact h
 ·exact SeqAt.EqAt.str_bool x t d _ _ _ _ (by simpa using h)
 ·exact SeqAt.EqAt.bool_none c _ _ _ _ (by simpa using h)
 ·rw[ii] at h;exact SeqAt.EqAt.bool_int c j t' _ _ _ _ h
 ·exact SeqAt.EqAt.bool_str c y t' _ _ _ _ (by simpa using h)
 ·rw[ii] at h
  refine SeqAt.EqAt.bool_bool c d _ _ _ _ ?_
  have e:(c == d)=(b01 c == b01 d):=by cases c <;> cases d <;> rfl
  rw[e];exact h
noncomputable def io (prog:Program) (w:World):KeyKind prog w (Option Key) where
 is:=ml
 hash:=EX w
 inj:=fun v a b ha hb=>by
  rcases cw ha with⟨rfl,rfl⟩ | ⟨i,t,rfl,rfl⟩ | ⟨x,t,rfl,rfl⟩ | ⟨c,rfl,rfl⟩ <;> rcases cw hb with⟨rfl,e⟩ | ⟨j,u,rfl,e⟩ | ⟨y,u,rfl,e⟩ | ⟨d,rfl,e⟩ <;> first | rfl | (cases e;rfl) | cases e
 byValue:=fun k v h=>by
  rcases cw h with⟨rfl,rfl⟩ | ⟨i,t,rfl,rfl⟩ | ⟨x,t,rfl,rfl⟩ | ⟨c,rfl,rfl⟩ <;> rfl
 pyHash:=fun hv h=>by
  rcases cw hv with⟨rfl,rfl⟩ | ⟨i,t,rfl,rfl⟩ | ⟨x,t,rfl,rfl⟩ | ⟨c,rfl,rfl⟩
  ·exact tE h
  ·exact wpAny_pyHash_int h
  ·exact wpAny_pyHash_str h
  ·exact sh h
 eqBool:=fun hu hv h=>DS hu hv h
 «strs» := fun k x t v h=>by
  rcases cw h with⟨rfl,e⟩ | ⟨i,u,rfl,e⟩ | ⟨y,u,rfl,e⟩ | ⟨c,rfl,e⟩
  ·cases e
  ·cases e
  ·cases e
   show ml (some (.inr x)) v=v.isStr x
   cases v <;> rfl
  ·cases e
end PySem
namespace L2
open PySem PySem.Spec PyProof.Rows
noncomputable def Ah (b:Bool):R2:=fun x y H Q=>∃a,x = .ref a∧∃c,y = .ref c∧∃d1 e1,H a=some (.tup [.ref d1,.ref e1])∧∃d2 e2,H c=some (.tup [.ref d2,.ref e2])∧∃kvs,H d1=some (.dK kvs)∧H d2=some (.dK kvs)∧(∀p∈kvs,dQ p.2=true)∧∃kws,H e1=some (.dK kws)∧H e2=some (.dK kws)∧(∀p∈kws,dQ p.2=true)∧Q (.bl b) H
theorem zP (hu:X.A.units+10 < cLine):OpR X (compareOp .NotEq) (Ah false):=by
 intro pins s σ H x y v u Q I rx ry h;obtain⟨a,rfl,c,rfl,d1,n1,ha,d2,n2,hc,kvs,h1,h2,hp,kws,h3,h4,hp2,q⟩:=h;cases rx;cases ry;obtain⟨ia,ra,pa,_⟩:=I.tuple (SqT.of ha);obtain⟨ib,rb,pb,_⟩:=I.tuple (SqT.of hc);obtain⟨u1,u2,rfl,e1,e2⟩:=mM ra;obtain⟨w1,w2,rfl,f1,f2⟩:=mM rb;cases e1;cases e2;cases f1;cases f2;exact SeqAt.ne_pairIn pa pb (by omega) (sJ I hu h1 h2 hp) (sJ I hu h3 h4 hp2) ⟨.bl false,H,I,rfl,q⟩
section
variable {t:TA}
theorem ao.putN {p:Addr} (s:ao H H1) (hp:H p=none):ao H (upd H1 p o):=fun b u e=>by
 rw[ag (aj e hp)];exact s b u e
end
end L2
namespace PySem
noncomputable instance decPD:DecidableEq PyData:=fun a b=>Classical.propDecidable (a=b)
mutual
noncomputable def dW:PyData→Bool
 | .none=>true
 | .int _=>true
 | .str x=>PyData.strOk x
 | .tuple l=>bJ l
 | _=>false
noncomputable def bJ:List PyData→Bool
 | []=>true
 | d :: l=>dW d && bJ l
end
mutual
theorem eI : ∀d:PyData,dW d=true→d.canLay0=true
 | .none,_=>rfl
 | .int _,_=>rfl
 | .str x,h=>h
 | .tuple l,h=>by
  unfold PyData.canLay0;exact qa l h
 | .bool _,h | .list _,h | .dict _,h=>by cases h
theorem qa : ∀l:List PyData,bJ l=true→PyData.canLayAll0 l=true
 | [],_=>rfl
 | d :: l,h=>by
  simp only[bJ,Bool.and_eq_true] at h;simp only[PyData.canLayAll0,eI d h.1,qa l h.2,Bool.and_self]
end
mutual
theorem iz : ∀a b:PyData,dW a=true→dW b=true→(PyData.eqv a b=true↔a=b)
 | .none,b,_,hb=>by cases b <;> simp_all [dW,PyData.eqv]
 | .int i,b,_,hb=>by cases b <;> simp_all [dW,PyData.eqv]
 | .str x,b,_,hb=>by cases b <;> simp_all [dW,PyData.eqv]
 | .tuple l,.tuple m,ha,hb=>by
  simp only[PyData.eqv,PyData.tuple.injEq];exact tN l m ha hb
 | .tuple l,.none,_,_ | .tuple l,.int _,_,_ | .tuple l,.str _,_,_=>by simp[PyData.eqv]
 | .tuple l,.bool _,_,hb | .tuple l,.list _,_,hb | .tuple l,.dict _,_,hb=>by cases hb
 | .bool _,_,h,_ | .list _,_,h,_ | .dict _,_,h,_=>by cases h
theorem tN : ∀a b:List PyData,bJ a=true→bJ b=true→(PyData.eqvAll a b=true↔a=b)
 | [],[],_,_=>by simp[PyData.eqvAll]
 | [],_ :: _,_,_=>by simp[PyData.eqvAll]
 | _ :: _,[],_,_=>by simp[PyData.eqvAll]
 | x :: a,y :: b,ha,hb=>by
  simp only[bJ,Bool.and_eq_true] at ha hb;simp only[PyData.eqvAll,Bool.and_eq_true,iz x y ha.1 hb.1,tN a b ha.2 hb.2,List.cons.injEq]
end
section
variable (prog:Program) (w:World)
mutual
noncomputable def vZ:PyData→Int
 | .none=>(io prog w).hash none
 | .int i=>(io prog w).hash (some (.inl i))
 | .str x=>(io prog w).hash (some (.inr x))
 | .tuple l=>reduceHash (Builtin.Tuple.tupleHashOf (nE l))
 | _=>0
noncomputable def nE:List PyData→List Int
 | []=>[]
 | d :: l=>vZ d :: nE l
end
end
mutual
noncomputable def wI:PyData→Nat
 | .tuple l=>ql l+1
 | _=>1
noncomputable def ql:List PyData→Nat
 | []=>0
 | d :: l=>wI d+ql l
end
mutual
theorem vV : ∀(d:PyData) (v:Value) (as:List Addr) (A:Around) (s:Shared) (Q:Int→Shared→Prop),dW d=true→Reads s.heap v d as→A.units+d.depth < cLine →
  Q (vZ prog w d) { s with toks:=s.toks+wI d }→wpAny (model prog w) A (pyHash v) Q E s
 | .none,_,_,A,s,Q,_,r,hu,h=>by
  cases r;exact(io prog w).pyHash (k:=none) rfl h
 | .int i,_,_,A,s,Q,_,r,hu,h=>by
  cases r
  rename_i t
  exact(io prog w).pyHash (k:=some (.inl i)) (show ml (some (.inl i)) (.int i t)=true from(by show(i == i)=true;simp)) h
 | .str x,_,_,A,s,Q,_,r,hu,h=>by
  cases r
  rename_i t
  exact(io prog w).pyHash (k:=some (.inr x)) (show ml (some (.inr x)) (.str x t)=true from(by show(x == x)=true;simp)) h
 | .tuple xs,_,_,A,s,Q,hk,r,hu,h=>by
  cases r with
  | @tuple a o vs n _ as ho hc hd ra =>
   refine W.pyHash_slot (T := "tuple") ⟨_,ho,hc⟩ F.slot_tuple_hash F.entry_tuple_hash (F.args_tuple_hash_1 _) (beq_builtin_none _) (.inr (by omega)) ?_
   show wpAny _ _ (Builtin.Tuple.tupleItemsOf (.ref a) >>= _) _ _ s
   refine wpAny_bind (wpAny_tupleItemsOf ho hd ?_)
   refine wpAny_bind ?_
   rw[← Array.forIn_toList];refine pA xs vs.toList _ A.in1 s #[] _ hk ra (by simp only[PyData.depth,Around.in1_units] at hu ⊢;omega) fun b hb=>?_
   show wpAny _ _ (retInt (Builtin.Tuple.tupleHashOf b.toList)) _ _ _
   rw[hb];refine wpAny_bind (wpAny_mkInt (wpAny_pure ⟨_,_,rfl,?_⟩))
   simpa [wI,vZ,Nat.add_assoc] using h
 | .bool _,_,_,_,_,_,h,_,_,_ | .list _,_,_,_,_,_,h,_,_,_ | .dict _,_,_,_,_,_,h,_,_,_=>by cases h
theorem pA : ∀(xs:List PyData) (vs:List Value) (as:List Addr) (A:Around) (s:Shared) (b:Array Int) (Q:Array Int→Shared→Prop),bJ xs=true→ReadsAll s.heap vs xs as→A.units+PyData.depthAll xs < cLine →
  (∀b',b'.toList=b.toList++nE prog w xs→Q b' { s with toks:=s.toks+ql xs }) →
  wpAny (model prog w) A (forIn vs b fun x r=>do let h ← pyHash x;pure PUnit.unit;pure (ForInStep.yield (r.push h))) Q E s
 | [],_,_,A,s,b,Q,_,x,_,h=>by cases x;exact wpAny_pure (h b (by simp[nE]))
 | k :: xs,_,_,A,s,b,Q,hk,x,hu,h=>by
  cases x with
  | cons x1 x2 =>
   simp only[bJ,Bool.and_eq_true,PyData.depthAll] at hk hu;rw[forIn_cons];refine wpAny_bind (wpAny_bind (vV k _ _ A s _ hk.1 x1 (by omega) ?_))
   refine wpAny_bind (wpAny_pure (wpAny_pure ?_))
   refine pA xs _ _ A _ _ Q hk.2 x2 (by omega) fun b' hb=>?_
   have:=h b' (by simp[hb,nE])
   simpa [ql,Nat.add_assoc] using this
end
mutual
theorem uh : ∀(d:PyData) (v:Value) (as:List Addr) (n:Nat) (A:Around) (s:Shared) (Q:Bool→Shared→Prop),dW d=true→Reads s.heap v d as→d.depth≤n→Q true s→wpAny (model prog w) A (eqIsQuiet n v) Q E s
 | .none,_,_,n,A,s,Q,_,r,_,h=>by cases r;rw[eqIsQuiet_byValue n rfl];exact wpAny_pure h
 | .int i,_,_,n,A,s,Q,_,r,_,h=>by cases r;rw[eqIsQuiet_byValue n rfl];exact wpAny_pure h
 | .str x,_,_,n,A,s,Q,_,r,_,h=>by cases r;rw[eqIsQuiet_byValue n rfl];exact wpAny_pure h
 | .tuple xs,_,_,n,A,s,Q,hk,r,hn,h=>by
  cases r with
  | @tuple a o vs m _ as ho hc hd ra =>
   have hT:s.TypeIs (.ref a) "tuple" :=⟨_,ho,hc⟩
   simp only[PyData.depth] at hn;obtain⟨n,rfl⟩ : ∃k,n=k+1:=⟨n - 1,by omega⟩
   unfold eqIsQuiet;refine wpAny_bind (wpAny_specialOf hT F.slot_tuple_eq.lookup ?_)
   show wpAny _ _ (isInstance (.ref a) (.type "tuple") >>= _) _ _ s
   refine wpAny_bind (wpAny_isInstance hT isSubtype_tuple_tuple ?_)
   simp only[Bool.not_true,Bool.false_eq_true,if_false];refine wpAny_bind (wpAny_seqItems ho hd ?_)
   refine wpAny_bind ?_
   show wpAny _ _ (forIn vs _ _) _ _ s
   rw[← Array.forIn_toList];refine wpAny_mono (mQ xs vs.toList _ n A s (fun r s'=>r.1=none∧s'=s) hk ra (by omega) (wpAny_pure ⟨rfl,rfl⟩)) ?_ fun _ _ x=>x
   rintro⟨r1,r2⟩ s' ⟨hr,rfl⟩
   simp only at hr;subst hr;exact wpAny_pure h
 | .bool _,_,_,_,_,_,_,h,_,_,_ | .list _,_,_,_,_,_,_,h,_,_,_ | .dict _,_,_,_,_,_,_,h,_,_,_=>by cases h
theorem mQ : ∀(xs:List PyData) (vs:List Value) (as:List Addr) (n:Nat) (A:Around) (s:Shared) (Q:Option Bool × Unit→Shared→Prop),bJ xs=true→ReadsAll s.heap vs xs as→PyData.depthAll xs≤n →
  wpAny (model prog w) A (pure (none,())) Q E s →
  wpAny (model prog w) A (forIn vs (none,()) fun y (_:Option Bool × Unit)=>do
   let b ← eqIsQuiet n y
   if (!b)=true then pure (ForInStep.done (some false,())) else pure (ForInStep.yield (none,()))) Q E s
 | [],_,_,n,A,s,Q,_,x,_,h=>by cases x;exact h
 | k :: xs,_,_,n,A,s,Q,hk,x,hn,h=>by
  cases x with
  | cons x1 x2 =>
   simp only[bJ,Bool.and_eq_true,PyData.depthAll] at hk hn;rw[forIn_cons];refine wpAny_bind (wpAny_bind (uh k _ _ n A s _ hk.1 x1 (by omega) ?_))
   simp only[Bool.not_true,Bool.false_eq_true,if_false];refine wpAny_pure ?_
   exact mQ xs _ _ n A s Q hk.2 x2 (by omega) h
end
mutual
theorem yB {h h':Heap} {d:Addr} {o:Obj} {es:Array DictEntry} {ep:Nat} (ho:h.get? d=some o) (hd:o.data = .dict es ep) (hs:Heap.SameBut d h h') : ∀(x:PyData) {v:Value} {as:List Addr},dW x=true→Reads h v x as→Reads h' v x as
 | .none,_,_,_,r=>by cases r;exact .none
 | .int i,_,_,_,r=>by cases r;exact .int _ _
 | .str i,_,_,_,r=>by cases r;exact .str _ _
 | .tuple l,_,_,hk,r=>by
  cases r with
  | @tuple a o' vs m _ as ho' hc' hd' ra =>
   have hne:a≠d:=by
    rintro rfl
    obtain rfl:o'=o:=Option.some.inj (ho'.symm.trans ho)
    rw[hd] at hd';exact nomatch hd'
   exact .tuple ((hs.2 a hne).trans ho') hc' hd' (wQ ho hd hs l hk ra)
 | .bool _,_,_,h,_ | .list _,_,_,h,_ | .dict _,_,_,h,_=>by cases h
theorem wQ {h h':Heap} {d:Addr} {o:Obj} {es:Array DictEntry} {ep:Nat} (ho:h.get? d=some o) (hd:o.data = .dict es ep) (hs:Heap.SameBut d h h') : ∀(xs:List PyData) {vs:List Value} {as:List Addr},bJ xs=true→ReadsAll h vs xs as→ReadsAll h' vs xs as
 | [],_,_,_,r=>by cases r;exact .nil
 | x :: xs,_,_,hk,r=>by
  cases r with
  | cons a b =>
   simp only[bJ,Bool.and_eq_true] at hk;exact .cons (yB ho hd hs x hk.1 a) (wQ ho hd hs xs hk.2 b)
end
noncomputable def jX (d:PyData):Prop:=dW d=true∧d.depth≤8
noncomputable def jy (prog:Program) (w:World):HeapKind prog w PyData where
 is:=fun h d a=>jX d∧∃as,Reads h (.ref a) d as
 hash:=vZ prog w
 draws:=wI
 room:=fun A=>A.units+8 < cLine
 inj:=fun hx hy=>by
  obtain⟨k1,as,r1⟩:=hx
  obtain⟨k2,bs,r2⟩:=hy
  exact SeqAt.Reads.unique _ _ _ _ _ (eI _ k1.1) r1 r2
 keeps:=fun x ho hd hs=>let ⟨k,as,r⟩:=x;⟨k,as,yB ho hd hs _ k.1 r⟩
 pyHash:=fun {A E s k a Q} hu hk h=>by
  obtain⟨k1,as,r⟩:=hk
  have:=k1.2
  exact vV k _ as A s Q k1.1 r (by omega) h
 eqBool:=fun {A E s x y a b Q} hu hx hy h=>by
  obtain⟨k1,as,r1⟩:=hx
  obtain⟨k2,bs,r2⟩:=hy
  have e:PyData.eqv x y=decide (x=y):=by rw[Bool.eq_iff_iff,decide_eq_true_eq];exact iz x y k1.1 k2.1
  rw[← e] at h
  have:=k1.2
  exact SeqAt.eqAt_reads x y A s _ _ as bs r1 r2 (eI _ k1.1) (eI _ k2.1) (by omega) prog w E Q h
 quiet:=fun {A E s k a Q} hk h=>by
  obtain⟨k1,as,r⟩:=hk
  exact uh k _ as 8 A s Q k1.1 r k1.2 h
end PySem
namespace L2
open PySem PySem.Spec PyProof.Rows
noncomputable abbrev CT:=PyData × Addr × Int
noncomputable def xf (x:CT) (y:PyData × Addr × Value):Prop:=x.1=y.1∧x.2.1=y.2.1∧∃t,y.2.2 = .int x.2.2 t
noncomputable def sX (P:Program) (w:World) (a:Addr) (o:Obj) (kvs:List CT) (h:Heap):Prop:=h.get? a=some o∧(a == sysModules)=false∧kvs.length≤1000∧o.ExactDict ∧
 ∃(xs:List (PyData × Addr × Value)) (es:Array DictEntry) (ep:Nat),Paired xf kvs xs∧o.data = .dict es ep∧es.toList=xs.map (entryOfKey (jy P w))∧(xs.map (·.1)).Nodup
noncomputable def cR (P:Program) (w:World) (a:Addr) (o:Obj) (kvs:List CT):HO:=.ext (sX P w a o kvs)
theorem sX.ok {o:Obj} {kvs:List CT} (x:sX P w a o kvs h):be P w H h a (cR P w a o kvs) :=
 ⟨x,⟨o,x.1⟩,fun h1 h2 z k=>⟨k _ z.1,z.2⟩⟩
noncomputable def atC (kvs:List CT) (d:PyData):Option Int:=(kvs.find? fun x=>decide (x.1=d)).map (·.2.2)
noncomputable def gD (kvs:List CT) (d:PyData) (a:Addr) (n:Int):List CT:=if (atC kvs d).isSome then kvs.map (fun x=>if x.1=d then(x.1,x.2.1,n) else x) else kvs++[(d,a,n)]
theorem lU (kvs:List CT) (d:PyData) (a:Addr) (n:Int):(gD kvs d a n).length≤kvs.length+1:=by
 unfold gD;split <;> simp
theorem vB {d e:PyData} {n:Int} : ∀kvs:List CT,atC (kvs.map (fun x=>if x.1=d then(x.1,x.2.1,n) else x)) e=if e=d then(atC kvs d).map (fun _=>n) else atC kvs e
 | []=>by unfold atC;split <;> rfl
 | x :: kvs=>by
  have ih:=vB (d:=d) (e:=e) (n:=n) kvs;unfold atC at ih ⊢;rw[map_cons,find?_cons,find?_cons,find?_cons]
  by_cases hx:x.1=d
  ·rw[if_pos hx]
   by_cases he:e=d
   ·subst he
    simp[hx]
   ·have : ¬ x.1=e:=fun z=>he (by rw[← z,hx])
    simp only[if_neg he] at ih ⊢;simp only[this,decide_false,ih]
  ·rw[if_neg hx]
   by_cases he:e=d
   ·subst he
    simp only[hx,decide_false,if_true] at ih ⊢;exact ih
   ·simp only[if_neg he] at ih ⊢
    by_cases hxe:x.1=e
    ·simp[hxe]
    ·simp only[hxe,decide_false,ih]
theorem wc (kvs:List CT) (d e:PyData) (a:Addr) (n:Int):atC (gD kvs d a n) e=if e=d then some n else atC kvs e:=by
 unfold gD;cases h:atC kvs d with
 | some m =>
  rw[if_pos (by rfl),vB,h];rfl
 | none =>
  rw[if_neg (by simp)]
  have hn:(kvs.find? fun x=>decide (x.1=d))=none:=by
   unfold atC at h;cases hf:kvs.find? fun x=>decide (x.1=d) with
   | none=>rfl
   | some z=>rw[hf] at h;cases h
  unfold atC at h ⊢;rw[List.find?_append]
  by_cases he:e=d
  ·subst he
   rw[hn];simp
  ·have : ¬ d=e:=fun z=>he z.symm
   rw[if_neg he];cases hf:kvs.find? fun x=>decide (x.1=e) with
   | none=>simp[this]
   | some z=>simp
noncomputable def km (K:PySem.W.Frag) (H:Hp) (kvs:List CT):Prop:=∀x∈kvs,jX x.1∧Rep K H (.ref x.2.1) x.1
theorem lE {d:PyData} : ∀{kvs:List CT} {xs:List (PyData × Addr × Value)},Paired xf kvs xs→(∀n,atC kvs d=some n→∃p t,atKey xs d=some p∧p.2 = .int n t)∧(atC kvs d=none→atKey xs d=none)
 | _,_,.nil=>⟨fun n h=>absurd h (by simp[atC]),fun _=>rfl⟩
 | x :: kvs,y :: xs,.cons h r=>by
  obtain⟨a,b⟩:=lE (d:=d) r;obtain⟨h1,h2,t,h3⟩:=h;unfold atC atKey at a b ⊢;rw[find?_cons,find?_cons,← h1]
  by_cases hx:x.1=d
  ·simp only[hx,decide_true,map_some,Option.some.injEq]
   exact⟨fun n e=>⟨_,t,rfl,by rw[← e];exact h3⟩,fun z=>by cases z⟩
  ·simp only[hx,decide_false]
   exact⟨a,b⟩
theorem yl {d:PyData} {n:Int} {t:Tok} {kvs:List CT} {xs:List (PyData × Addr × Value)} (r:Paired xf kvs xs):Paired xf (gD kvs d b n) (storedH xs d b (.int n t)):=by
 obtain⟨h1,h2⟩:=lE (d:=d) r;unfold gD;cases h:atC kvs d with
 | some m =>
  obtain⟨p,u,e,_⟩:=h1 m h;rw[if_pos (by rfl),storedH_old e]
  clear h h1 h2 e
  induction r with
  | nil=>exact .nil
  | @cons x y l l' q _ ih =>
   refine .cons ?_ ih
   unfold putAt;rw[← q.1]
   show xf (if x.1=d then(x.1,x.2.1,n) else x) _
   by_cases z:x.1=d
   ·rw[if_pos z,if_pos z];exact⟨rfl,q.2.1,t,rfl⟩
   ·rw[if_neg z,if_neg z];exact q
 | none =>
  rw[if_neg (by simp),storedH_new (h2 h)]
  exact Paired.snoc r ⟨rfl,rfl,t,rfl⟩
section
variable {o:Obj} {kvs:List CT}
theorem qQ (I:Inv X pins σ H s) {d:PyData} {b:Addr} (hd:jX d) (hb:Rep X.K H (.ref b) d):(jy X.prog X.w).is s.heap d b:=by
 obtain⟨as,r⟩:=I.reads hb (u:=.ref b) rfl;exact⟨hd,as,r⟩
theorem lD (I:Inv X pins σ H s) (ha:H a=some (cR X.prog X.w a o kvs)) (hk:km X.K H kvs):(a == sysModules)=false∧kvs.length≤1000∧∃xs,Paired xf kvs xs∧s.heap.DictOfH (jy X.prog X.w) a xs:=by
 obtain⟨⟨ho,hd,hz,hx,xs,es,ep,r,h1,h2,h3⟩,hxx⟩:=(show be X.prog X.w H s.heap a (cR X.prog X.w a o kvs) from I.hok a _ ha)
 refine⟨hd,hz,xs,r,o,es,ep,ho,hx,h1,h2,?_,h3⟩
 clear h1 h2 h3 ha ho hz hxx
 induction r with
 | nil=>intro x hx;cases hx
 | @cons x y l l' q _ ih =>
  intro z hz;rcases mem_cons.mp hz with e | e
  ·subst e
   have:=hk x (by simp)
   rw[q.1,q.2.1] at this;exact qQ I this.1 this.2
  ·exact ih (fun x hx=>hk x (by simp[hx])) z e
noncomputable def re (P:Program) (w:World):TE:=fun _ H Q=>∀p o H2,H p=none→ao H H2→H2 p=some (cR P w p o [])→Q (.ref p) H2
theorem xh:PE X (.Dict [] [] pos) (re X.prog X.w):=fun pins s σ H Q I h=>by
 have hf:=I.hok.fresh (le_refl s.heap.objs.size);refine wpAny_Dict_empty ⟨.ref s.heap.objs.size,_,I.laid (a:=s.heap.objs.size) (o:=cR X.prog X.w s.heap.objs.size { cls:=.type "dict",data:=.dict #[] } []) (t':=s.toks) (fun _ _ q=>Heap.get?_push_of_some _ q) (le_refl _) (sX.ok ⟨Heap.get?_push_size _ rfl,beq_eq_false_iff_ne.mpr (Ne.symm (ne_of_lt I.big)),zero_le _,⟨rfl,rfl,rfl⟩,[],#[],0,.nil,rfl,rfl,List.nodup_nil⟩),rfl,?_⟩
 exact h _ _ _ hf (ao.upd0 hf) ab
variable {f ie:Expr} {tx:TE}
noncomputable def vL (P:Program) (w:World) (K:PySem.W.Frag) (td ty tx:TE):TE:=fun σ H Q=>td σ H fun x H1=>∃a,x = .ref a∧(∃o kvs,H1 a=some (cR P w a o kvs)∧km K H1 kvs)∧ty σ H1 fun y H2=>tx σ H2 fun z H3=>∃b,y = .ref b∧∃n,z = .int n∧∃o kvs,H3 a=some (cR P w a o kvs)∧km K H3 kvs∧∃d,jX d∧Rep K H3 (.ref b) d∧Q (.int ((atC kvs d).getD n)) H3
theorem ym (hu:X.A.units+9 < cLine) (ho:PE X oe td) (he:PE X e ty) (hf:PE X f tx) (m:M2 X oe "get" apos e f cpos):PE X (.Call (.Attribute oe "get" apos) [e,f] [] cpos) (vL X.prog X.w X.K td ty tx):=by
 intro pins s σ H Q I h;refine wpAny_Call_method m.base m.few m.line PySem.F.plainAttrs_dict PySem.F.slot_dict_get PySem.F.type_dict_get (thn (ho pins s σ H _ I h) fun u s1 ⟨x,H1,I1,rx,a,ex,⟨o,kvs,ha,hk⟩,q1⟩=>?_)
 subst ex;obtain rfl:u=Value.ref a:=rx
 obtain⟨_,_,xs,_,dd⟩:=lD I1 ha hk;refine⟨dd.typeIs,fun b q=>?_,?_⟩
 ·cases q
  obtain⟨ob,_,_,h1,h2,_⟩:=dd;exact⟨ob,h1,h2.2.1⟩
 rw[m.trees];refine Calls.callWith_builtin rfl (Calls.evalArgs_plain (Calls.spliced_cons (thn (he pins s1 σ H1 _ I1 q1) fun iv s2 ⟨y,H2,I2,ry,q2⟩ =>
  Calls.spliced_cons (thn (hf pins s2 σ H2 _ I2 q2) fun fv s3 ⟨z,H3,I3,rz,b,ey,n,ez,o3,kvs3,ha3,hk3,d,hd,hb,q3⟩=>Calls.spliced_nil ?_))))
 subst ey ez;obtain rfl:iv=Value.ref b:=ry
 obtain⟨t,rfl⟩:=rz;obtain⟨hs,_,ys,rel,dd3⟩:=lD I3 ha3 hk3;refine call_meetsIn PySem.F.slot_dict_get dd3.typeIs PySem.F.entry_dict_get (PySem.F.args_dict_get_3 _ _ _) (meetsH_dict_get_default (jy X.prog X.w) a b hs (.int n t)) ⟨by show X.A.in1.units+8 < cLine;simp only[Around.in1_units];omega,d,ys,qQ I3 hd hb,dd3,?_⟩
 obtain⟨r1,r2⟩:=lE (d:=d) rel;cases hc:atC kvs3 d with
 | some m =>
  obtain⟨p,u,e1,e2⟩:=r1 m hc;rw[hc] at q3;rw[e1];exact⟨.int m,H3,I3.tok _,⟨u,e2⟩,q3⟩
 | none =>
  rw[hc] at q3;rw[r2 hc];exact⟨.int n,H3,I3.tok _,⟨t,rfl⟩,q3⟩
noncomputable def zT (P:Program) (w:World) (K:PySem.W.Frag) (td ty:TE):TE:=fun σ H Q=>td σ H fun x H1=>ty σ H1 fun y H2=>∃a,x = .ref a∧∃b,y = .ref b∧∃o kvs,H2 a=some (cR P w a o kvs)∧km K H2 kvs∧∃d,jX d∧Rep K H2 (.ref b) d∧∃n,atC kvs d=some n∧Q (.int n) H2
theorem Ae (hu:X.A.units+9 < cLine) (ha:PE X oe td) (hb:PE X ie ty) (hs:lB ie):PE X (.Subscript oe ie pos) (zT X.prog X.w X.K td ty):=by
 intro pins s σ H Q I h;refine Subscript_ (thn (ha pins s σ H _ I h) fun v s1 ⟨x,H1,I1,r1,q1⟩=>thn (hb pins s1 σ H1 _ I1 q1) fun u s2 zr8247=>?_)
 obtain⟨y,H2,I2,r2,c,ex,b,ey,o,kvs,hc,hk,d,hd,hbd,n,hn,q⟩:=zr8247;subst ex ey;cases r1;cases r2;obtain⟨_,_,xs,rel,dd⟩:=lD I2 hc hk;obtain⟨p,t,e1,e2⟩:=(lE (d:=d) rel).1 n hn;exact subscriptTail_builtinR (x:=.int n t) dd.typeIs PySem.F.slot_dict_getitem.lookup (wpAny_getItem_heap (by show X.A.in1.units+8 < cLine;simp only[Around.in1_units];omega) (qQ I2 hd hbd) dd e1 ⟨e2,.int n,H2,I2.tok _,⟨t,e2⟩,q⟩) (hs _ _)
noncomputable def wN (P:Program) (w:World) (K:PySem.W.Frag) (td ty tv:TE):TS:=fun D σ H=>tv σ H fun v H1=>td σ H1 fun x H2=>ty σ H2 fun y H3=>∃n,v = .int n∧∃a,x = .ref a∧∃b,y = .ref b∧∃o kvs,H3 a=some (cR P w a o kvs)∧km K H3 kvs∧kvs.length < 1000∧∃d,jX d∧Rep K H3 (.ref b) d∧∀o',D.nx σ (upd H3 a (cR P w a o' (gD kvs d b n)))
theorem yJ (hu:X.A.units+9 < cLine) (ho:PE X oe td) (hi:PE X ie ty) (hv:PE X value tv) (hs:swapsWith value (some (.Subscript oe ie pos')) pos.line X.env=pure false) :
  PS X (.Assign [.Subscript oe ie pos'] value pos) (wN X.prog X.w X.K td ty tv):=by
 intro pins s σ H D I h;refine wpAny_Assign_Subscript (thn (hv pins s σ H _ I h) fun r s1 ⟨v,H1,I1,rv,q1⟩=>thn (ho pins s1 σ H1 _ I1 q1) fun u s2 ⟨x,H2,I2,rx,q2⟩=>thn (hi pins s2 σ H2 _ I2 q2) fun iv s3 zr8258=>?_) hs
 obtain⟨y,H3,I3,ry,n,ev,a,ex,b,ey,o,kvs,ha,hk,hl,d,hd,hb,q3⟩:=zr8258;subst ev ex ey;obtain rfl:u=Value.ref a:=rx
 obtain rfl:iv=Value.ref b:=ry
 obtain⟨t,rfl⟩:=rv;obtain⟨hsm,hz,xs,rel,dd⟩:=lD I3 ha hk;have hlen:=Paired.length rel;refine wpAny_setItem_heap (hsz:=by rw[← hlen];exact le_of_lt (ax hz)) (by show X.A.in1.units+8 < cLine;simp only[Around.in1_units];omega) (qQ I3 hd hb) dd fun h' dd' hsb=>?_
 obtain⟨q,es,ep,hq,h2,h3,h4,_,h5⟩:=dd';have hpl:=lU kvs d b n;exact⟨σ,_,lH (ob:=cR X.prog X.w a q (gD kvs d b n)) I3 (by rw[ha];exact True.intro) hsb ⟨q,hq⟩ (sX.ok ⟨hq,hsm,by omega,h2,_,es,ep,yl rel,h3,h4,h5⟩),q3 q⟩
variable (hP:X.prog=P) (hw:X.w=w) (hK:X.K=K)
include hP hw in
theorem sF:PE X (.Dict [] [] pos) (re P w):=by subst hP hw;exact xh
include hP hw hK
theorem qD (hu:X.A.units+9 < cLine) (ho:PE X oe td) (he:PE X e ty) (hf:PE X f tx) (m:M2 X oe "get" apos e f cpos):PE X (.Call (.Attribute oe "get" apos) [e,f] [] cpos) (vL P w K td ty tx):=by subst hP hw hK;exact ym hu ho he hf m
theorem BW (hu:X.A.units+9 < cLine) (ha:PE X oe td) (hb:PE X ie ty) (hs:lB ie):PE X (.Subscript oe ie pos) (zT P w K td ty):=by subst hP hw hK;exact Ae hu ha hb hs
theorem wP (hu:X.A.units+9 < cLine) (ho:PE X oe td) (hi:PE X ie ty) (hv:PE X value tv) (hs:swapsWith value (some (.Subscript oe ie pos')) pos.line X.env=pure false) :
  PS X (.Assign [.Subscript oe ie pos'] value pos) (wN P w K td ty tv):=by subst hP hw hK;exact yJ hu ho hi hv hs
end
end L2
namespace PySem.SeqAt
open AutoSeq1 (wpAny_loadPart')
open MeetsSeq MeetsSeq2 MeetsSeq3 SeqRoads2
theorem oT (l:Addr) (items:Array Value) (n:Nat) (x:Value) (e:Value→Bool) (j:Nat) (hj:j < items.size) (hit:e items[j]=true) (k:Nat) (hs1:items.size≤sizeLine) :
  ∀ i:Nat,j - i=k→i≤j→(∀m (hm:m < items.size),i≤m→m < j→e items[m]=false)→Meets (Builtin.«list.remove.loop» ⟨[.ref l,x,rawInt i],[]⟩)
   (fun A R s=>s.heap.get? l=some { cls:=.type "list",dict:=none,data:=.seq items n,slots := #[] }∧(∀y,y∈items→EqAt A.in1 s y x (e y))∧R (.ok (.ret .none)) { s with heap:=s.heap.update l (Obj.mapSeq fun xs=>xs.eraseIdxIfInBounds j) }):=by
 induction k with
 | zero =>
  intro i hk hij hno prog w A R s h;obtain⟨hp,g,d,tk,os⟩:=s;obtain⟨hl,he,h⟩:=h;have hij':i=j:=by omega
  subst hij'
  wp_walk using wpAny_loadPart' hl
  have hi:items[((i:Nat):Int).toNat]? = some items[i]:=by simp[hj]
  rw[hi];refine wpAny_bind (he _ (Array.getElem_mem hj) prog w _ _ ?_)
  rw[hit];have hz':(items.eraseIdxIfInBounds i).size≤sizeLine+1:=le_trans (size_erased items _) (Nat.le_succ_of_le hs1)
  wp_walk using (wpAny_updateSeq hl rfl (hz:=hs1) (_hz':=hz')),wpAny_loadPart' hl
  simpa using h
 | succ k ih =>
  intro i hk hij hno prog w A R s h;obtain⟨hp,g,d,tk,os⟩:=s;obtain⟨hl,he,h⟩:=h;have hlt:i < items.size:=by omega
  wp_walk using wpAny_loadPart' hl
  have hi:items[((i:Nat):Int).toNat]? = some items[i]:=by simp[hlt]
  have hc:((i:Int)+1)=((i+1:Nat):Int):=by push_cast;rfl
  rw[hi];refine wpAny_bind (he _ (Array.getElem_mem hlt) prog w _ _ ?_)
  rw[hno i hlt (le_refl _) (by omega)]
  wp_walk
  rw[hc];exact⟨plainId_quiet plain_remove_loop _,codeAny_builtin entry_remove_loop (by
   rw[Around.under_plainId plain_remove_loop _];exact ih (i+1) (by omega) (by omega) (fun m hm h1 h2=>hno m hm (by omega) h2) prog w A R _ ⟨hl,he,h⟩)⟩
theorem list_removeAt (l:Addr) (items:Array Value) (n:Nat) (x:Value) (e:Value→Bool) (j:Nat) (hj:j < items.size)
  (hit:e items[j]=true) (hno : ∀m (hm:m < items.size),m < j→e items[m]=false) (hs1:items.size≤sizeLine) :
  Meets (Builtin.«list.remove» ⟨[.ref l,x],[]⟩)
   (fun A R s=>s.heap.get? l=some { cls:=.type "list",dict:=none,data:=.seq items n,slots := #[] }∧(∀y,y∈items→EqAt A.in1 s y x (e y))∧R (.ok (.ret .none)) { s with heap:=s.heap.update l (Obj.mapSeq fun xs=>xs.eraseIdxIfInBounds j) }):=by
 intro prog w A R s h;obtain⟨hp,g,d,tk,os⟩:=s;obtain⟨hl,he,h⟩:=h
 wp_walk using wpAny_loadPart' hl
 exact⟨plainId_quiet plain_remove_loop _,codeAny_builtin entry_remove_loop (by
  rw[Around.under_plainId plain_remove_loop _];exact oT l items n x e j hj hit _ hs1 0 rfl (zero_le _) (fun m hm _ h2=>hno m hm h2) prog w A R _ ⟨hl,he,h⟩)⟩
end PySem.SeqAt
namespace L2
open PySem PySem.Spec PyProof.Rows
noncomputable def zi (K:PySem.W.Frag):RM:=fun p vs H Q=>∃b,vs=[.ref b]∧∃xs ds d,H p=some (.lst xs)∧cp K H xs ds∧PyData.canLayAll0 ds=true∧Rep K H (.ref b) d∧d.canLay0=true∧d.depth≤50 ∧
 ∃j,j < ds.length∧(∀e,ds[j]? = some e→PyData.eqv e d=true)∧(∀m e,m < j→ds[m]? = some e→PyData.eqv e d=false)∧Q .non (upd H p (.lst (xs.eraseIdx j)))
theorem kF {h:Heap} : ∀{us:List Value} {ds:List PyData} {as:List Addr} {m:Nat} {u:Value},ReadsAll h us ds as→us[m]? = some u→∃d bs,ds[m]? = some d∧Reads h u d bs
 | _,_,_,m,u,.nil,e=>by simp at e
 | _,_,_,0,u,.cons a _,e=>by simp at e;subst e;exact⟨_,_,rfl,a⟩
 | _,_,_,m+1,u,.cons _ b,e=>by simpa using kF b (by simpa using e)
theorem kr : ∀{ds:List PyData} {m:Nat} {d:PyData},PyData.canLayAll0 ds=true→ds[m]? = some d→d.canLay0=true
 | [],m,d,_,e=>by simp at e
 | x :: ds,0,d,h,e=>by
  simp only[PyData.canLayAll0,Bool.and_eq_true] at h;simp at e;subst e;exact h.1
 | x :: ds,m+1,d,h,e=>by
  simp only[PyData.canLayAll0,Bool.and_eq_true] at h;exact kr h.2 (by simpa using e)
theorem xK (hu:X.A.units+102 < cLine):MtL X "list.remove" (zi X.K):=by
 intro pins s σ H x vs v us Q I rx rv h;obtain⟨p,rfl,b,rfl,xs,ds,d,hH,hr,hl0,hb,hd,hdep,j,hj,hit,hno,q⟩:=h;cases rx;obtain⟨u,rfl,ru⟩:=rv.one;cases ru;obtain⟨z,its,n,rr,hl,e⟩:=I.lstM hH;obtain⟨as,ra⟩:=I.readsAll hr rr;obtain⟨bs,rb⟩:=I.reads hb (u:=.ref b) rfl;have hlen:its.length=ds.length:=SeqAt.ReadsAll.length _ _ _ ra
 classical
 have key : ∀(m:Nat) (y:Value),its[m]? = some y→∃dm cs,ds[m]? = some dm∧Reads s.heap y dm cs:=fun m y hy=>kF ra hy
 let ev:Value→Bool:=fun y=>decide (∃dm cs,Reads s.heap y dm cs∧dm.canLay0=true∧PyData.eqv dm d=true)
 have evm : ∀(m:Nat) (y:Value) (dm:PyData),its[m]? = some y→ds[m]? = some dm→ev y=PyData.eqv dm d:=fun m y dm hy hm=>by
  obtain⟨d',cs,e1,e2⟩:=key m y hy;rw[hm] at e1;cases e1;have hlay:=kr hl0 hm
  show decide _=_
  rw[Bool.eq_iff_iff,decide_eq_true_eq]
  constructor
  ·rintro⟨d2,c2,r2,l2,q2⟩
   rwa [SeqAt.Reads.unique _ _ _ _ _ l2 r2 e2] at q2
  ·exact fun z=>⟨_,_,e2,hlay,z⟩
 have hjs:j < its.toArray.size:=by rw[size_toArray];omega
 refine call_meets F.slot_list_remove ⟨_,e,rfl⟩ F.entry_list_remove (F.args_list_remove_2 _ _) (SeqAt.list_removeAt p its.toArray n (.ref b) ev j hjs ?_ ?_ (by rw[size_toArray];omega)) ⟨e,?_,?_⟩
 ·rw[evm j _ ds[j] (by simp[show j < its.length by omega]) (by simp[hj])]
  exact hit _ (by simp[hj])
 ·intro m hm hmj
  rw[size_toArray] at hm;rw[evm m _ ds[m] (by simp[hm]) (by simp[show m < ds.length by omega])]
  exact hno m _ hmj (by simp[show m < ds.length by omega])
 ·intro y hy
  obtain⟨m,hm,em⟩:=List.getElem_of_mem (show y∈its by simpa using hy)
  have hym:its[m]? = some y:=by simp[hm,em]
  obtain⟨dm,cs,e1,e2⟩:=key m y hym;rw[evm m y dm hym e1];exact SeqAt.eqAt_reads dm d _ s _ _ cs bs e2 rb (kr hl0 e1) hd (by simp only[Around.in1_units];omega)
 ·refine⟨.non,_,I.lset (its':=its.eraseIdx j) hH e ?_ (rr.eraseIdx j) ?_,rfl,q⟩
  ·show its.toArray.eraseIdxIfInBounds j=(its.eraseIdx j).toArray
   rw[List.eraseIdxIfInBounds_toArray]
  ·have:=kA xs j
   omega
theorem hu9 (hr:cu k A):A.units+9 < cLine:=by have:=hr.un;omega
noncomputable def Bj:R2:=fun x y H Q=>∃a,x = .ref a∧∃c,y = .ref c∧∃l kvs,H a=some (.dK l)∧H c=some (.dK kvs)∧((l.length≠kvs.length∧Q (.bl false) H)∨(l.length=kvs.length∧∃ra rb,zx H l kvs ra rb∧Q (.bl (l.all fun p=>decide (ra p.1=rb p.1))) H))
theorem zX (hu:X.A.units+102 < cLine):OpR X (compareOp .Eq) Bj:=by
 intro pins s σ H x y v u Q I rx ry h;obtain⟨a,rfl,b,rfl,l,kvs,ha,hb,h⟩:=h;cases rx;cases ry;obtain⟨z,hd,vs,rel,dd⟩:=jG I.hok ha;obtain⟨z2,hd2,vs2,rel2,dd2⟩:=jG I.hok hb;rcases h with⟨hne,q⟩ | ⟨hlen,ra,rb,hr,q⟩
 ·refine keq_eq (r:=true) hd hd2 dd dd2 (by omega) (fun e=>absurd e (by rw[← rel.length,← rel2.length];exact hne)) ?_
  rw[← rel.length,← rel2.length,beq_eq_false_iff_ne.mpr hne];exact⟨.bl false,H,I,rfl,q⟩
 ·refine keq_eq hd hd2 dd dd2 (by omega) (fun _=>xq I (by show X.A.units+1+50 < cLine;omega) rel2 rel hr) ?_
  rw[← rel.length,← rel2.length,hlen,beq_self_eq_true,Bool.true_and];exact⟨.bl _,H,I,rfl,q⟩
section
variable {g:TG}
theorem qd {Q:VK}
  (hca:X.calm=true) (S:jI X scope N nt js) (hi:PI X tg iter wi)
  (hg : ∀{cl C fp s H xe},PG (ce X scope N cl C fp s H xe) tg g) (hgo:zC g nt)
  (hc : ∀{cl C fp s H xe},PTs (ce X scope N cl C fp s H xe) ifs tc)
  (he : ∀{cl C fp s H xe},PE (ce X scope N cl C fp s H xe) elt te)
  (hs : ∀x,foldedSetIterable iter X.env x=pure x) (I:Inv X pins σ H s) (h:vM nt js wi g tc te σ H Q)
  (fin : ∀{cl C fp s2 H2 xe H3 s4 D},Inv X pins σ H2 s2→(∀b∈fp,oP X pins H2 b)→s2.heap.objs.size < C→Inv (ce X scope N cl C fp s2 H2 xe) [] (dB nt js σ) H3 s4→Q (.ref D) H3 →
   compPost (model X.prog X.w) X.A X.xe use Qf (.ref D) C (.ok .next) s4) :
  wpAny (model X.prog X.w) X.A (comprehension (.ListComp elt [⟨tg,iter,ifs,0⟩] scope pos) scope X.env pos' (newList []) false (eval iter X.env) use) Qf X.xe s:=by
 obtain⟨cl,hclos,hcl1,_,hcl2⟩:=jd (env:=X.env) scope.names [] (fun x hx hk=>I.ok.has x.1 (S.free x hx hk))
 have hcl : ∀x c,cl.lookup x=some c→X.env.cells.lookup x=some c:=fun x c e=>(hcl1 x c e).elim (fun z=>by simp at z) fun z=>z
 have hclos':closureFor scope X.env=pure cl:=by
  unfold closureFor;simp only[];rw[hclos];rfl
 refine wpAny_comprehension_free rfl hs hclos' S.kind S.loc (thn (hi pins s σ H _ I h) fun v s1 h1=>thn h1 fun itv s2 h2=>?_)
 obtain⟨it,fp,tn,J,H2,e,I2,T,st2,f2,q2⟩:=h2;subst e;have hfresh:H2 s2.heap.objs.size=none:=I2.hok.fresh (le_refl _)
 obtain⟨W,⟨m0,w0⟩,turn⟩:=q2 s2.heap.objs.size hfresh;refine wpAny_newObj_type (eB (fun hns₁=>?_))
 dsimp only at hns₁ ⊢;generalize hG:s2.heap.push { cls:=.type "list",dict:=none,data:=.seq ([]:List Value).toArray }=G at hns₁ ⊢;have hGs:G.objs.size=s2.heap.objs.size+1:=by rw[← hG,Heap.size_push]
 have ckk:=cellsFrom_ok scope.names (G.push { cls:=.type "dict",data:=.dict #[] }) (G.objs.size+1) [] ⟨fun _ _ hm=>(nomatch hm),List.Pairwise.nil⟩ (by rw[Heap.size_push];exact le_refl _)
 rw[Heap.size_push] at ckk;have kp : ∀b o,G.get? b=some o→(pushCells (G.push { cls:=.type "dict",data:=.dict #[] }) scope.names).get? b=some o:=fun b o e=>pushCells_keeps _ _ _ _ (Heap.get?_push_of_some _ e)
 generalize hh₁:pushCells (G.push { cls:=.type "dict",data:=.dict #[] }) scope.names=h₁ at hns₁ ckk kp ⊢;have kold : ∀b o,s2.heap.get? b=some o→h₁.get? b=some o:=fun b o e=>kp b o (hG ▸ Heap.get?_push_of_some _ e)
 have hok1:HOk X.prog X.w (upd H2 s2.heap.objs.size (.lst [])) h₁:=I2.hok.laid kold (le_refl _) ⟨zero_le _,[],0,.nil,kp _ _ (hG ▸ Heap.get?_push_size _ rfl)⟩
 have hfpl : ∀b∈fp,b < s2.heap.objs.size:=fun b hb=>by
  obtain⟨o,e,_⟩:=T.obj _ _ st2 b hb;exact Heap.lt_size e
 have hC0 : ∀c,G.objs.size≤c→(upd H2 s2.heap.objs.size (.lst [])) c=none:=fun c hc=>by
  rw[ag (ne_of_gt (by omega))]
  exact I2.hok.fresh (by omega)
 have fin':=fun xe H3 s4=>@fin (cellsFrom (G.objs.size+1) scope.names cl) G.objs.size fp s2 H2 xe H3 s4 s2.heap.objs.size I2 f2 (by rw[hGs];exact Nat.lt_succ_self _)
 generalize hRR:compPost (model X.prog X.w) X.A X.xe use Qf (.ref s2.heap.objs.size) G.objs.size=RR at fin'
 let Y:=ce X scope N (cellsFrom (G.objs.size+1) scope.names cl) G.objs.size fp s2 H2 (notedBy (model X.prog X.w) X.A (compEnvC scope (cellsFrom (G.objs.size+1) scope.names cl) G.objs.size X.env) fun e s'=>RR (.error e) s')
 have stat : ∀{H':Hp},(∀b∈fp,H' b=none)→∀b∈fp,oP Y [] H' b:=fun {H'} hn b hb=>by
  obtain⟨f0,f1,f2',f3,f4,f5⟩:=f2 b hb;have h1:=hfpl b hb;refine⟨hn b hb,ne_of_lt (lt_of_lt_of_le h1 (by show _≤G.objs.size;omega)),fun z=>?_,.inl hb,fun x c e=>?_,fun p hp=>absurd (show p∈([]:List (Addr × Obj)) from hp) (by simp)⟩
  ·rcases mem_cons.mp (I2.stkSub b z) with q | q
   ·exact f1 q
   ·exact f2' q
  ·have e:(cellsFrom (G.objs.size+1) scope.names cl).lookup x=some c:=e
   rw[bp] at e;rcases mX e with q | q
   ·have:=(ckk.empty x c (mem_of_lookup q)).2
    exact ne_of_gt (lt_of_lt_of_le h1 (by omega))
   ·exact f4 x c (hcl x c q.2)
 have loop:codeAny (model X.prog X.w) X.A (.compLoop (.ListComp elt [⟨tg,iter,ifs,0⟩] scope pos) 0 (.ref it) (.ref s2.heap.objs.size) (compEnvC scope (cellsFrom (G.objs.size+1) scope.names cl) G.objs.size X.env)) RR { s2 with heap:=h₁,toks:=s2.toks }:=by
  refine qh (fun n s'=>∃i ys H',Inv Y [] (dB nt js σ) H' s'∧tn i s'.heap∧(∀b∈fp,H' b=none)∧W i n ys H') ?_ m0
   ⟨0,[],_,sR S I2 f2 hcl hcl2 (fun x c hm=>ckk.empty x c hm) ckk.apart hC0 hfpl (by omega) kold (fun b o e=>by rw[ag (aj e hfresh)];exact e) (fun b n hb=>by rw[ag (ne_of_lt hb)];exact n) hok1 hns₁ (fun _=>rfl),T.keep _ _ _ st2 fun b hb o e=>kold b o e,fun b hb=>by rw[ag (ne_of_lt (hfpl b hb))];exact(f2 b hb).1,w0⟩
  rintro n s3 ⟨i,ys,H3,J3,st3,fr3,w3⟩
  rcases turn i n ys H3 w3 with⟨stop,qn⟩ | ⟨go,NN,hN,step⟩
  ·refine thn (T.done Y rfl rfl rfl hca i [] s3 (dB nt js σ) H3 _ J3 (stat fr3) st3 stop) fun r s4 zr8473=>?_
   obtain⟨hr,I4⟩:=zr8473;subst hr;exact fin' _ _ _ I4 qn
  ·refine thn (T.item Y rfl rfl rfl hca i [] s3 (dB nt js σ) H3 _ J3 (stat fr3) st3 go) fun r s4 zr8476=>?_
   obtain⟨u,hr,h4⟩:=zr8476;subst hr;refine thn h4 fun _ s5 zr8478=>?_
   obtain⟨x,H5,I5,r5,y5,st5,fr5⟩:=zr8478;have g5:=hgo x (dB nt js σ) H5 _ mh (step x H5 y5);refine thn (hg _ s5 _ H5 x u _ (I5.pinned (stat fr5) (T.obj _ _ st5)) r5 g5) fun _ s6 zr8480=>?_
   obtain⟨σ6,H6,I6,wk6,q6⟩:=zr8480;refine thn (hc _ s6 σ6 H6 _ I6 q6) fun ok s7 zr8481=>?_
   obtain⟨H7,I7,q7⟩:=zr8481;have again : ∀{s8:Shared} {H8:Hp} {ys':List V},Inv Y ([]++nG fp s5.heap) σ6 H8 s8→NN ys' H8 →
     ∃m,m < n∧∃i ys H',Inv Y [] (dB nt js σ) H' s8∧tn i s8.heap∧(∀b∈fp,H' b=none)∧W i m ys H':=fun {s8 H8 ys'} I8 n8=>by
    obtain⟨m',hm,w8⟩:=hN ys' H8 n8;have k8:=fun b hb o e=>I8.pin (b,o) (mem_append_right _ (mem_append_right _ (jg hb e)))
    refine⟨m',hm,i+1,ys',H8,(I8.unpinned).wk wk6,T.keep _ _ _ st5 fun b hb o e=>(k8 b hb o e).1,fun b hb=>?_,w8⟩
    obtain⟨o,e,d⟩:=T.obj _ _ st5 b hb;exact(k8 b hb o e).2.1
   cases ok with
   | false =>
    rw[if_neg Bool.false_ne_true] at q7 ⊢;exact again I7 q7
   | true =>
    rw[if_pos rfl] at q7 ⊢;refine thn (he _ s7 σ6 H7 _ I7 q7) fun y s8 zr8495=>?_
    obtain⟨yv,H8,I8,r8,hD8,hl8,q8⟩:=zr8495;refine thn (pN (X:=Y) _ s8 σ6 H8 (.ref s2.heap.objs.size) [yv] (.ref s2.heap.objs.size) [y] (fun _ H9=>NN (ys++[yv]) H9) I8 rfl (.cons r8 .nil) ⟨_,ys,yv,rfl,rfl,hD8,hl8,q8⟩) fun v9 s9 zr8496=>?_
    obtain⟨x9,H9,I9,r9,q9⟩:=zr8496;exact again I9 q9
 subst hRR;exact codeAny_compStart_list loop (T.self _ 0 _ _ _ (T.keep _ _ _ st2 fun b hb o e=>kold b o e) loop)
theorem bn (S:jI X scope N nt js) (hi:PI X tg iter wi)
  (hg : ∀{cl C fp s H xe},PG (ce X scope N cl C fp s H xe) tg g) (hgo:zC g nt)
  (hc : ∀{cl C fp s H xe},PTs (ce X scope N cl C fp s H xe) ifs tc)
  (he : ∀{cl C fp s H xe},PE (ce X scope N cl C fp s H xe) elt te)
  (hs : ∀x,foldedSetIterable iter X.env x=pure x:=by intro _;rfl) (hca:X.calm=true:=by exact rfl) :
  PE X (.ListComp elt [⟨tg,iter,ifs,0⟩] scope pos) (vM nt js wi g tc te):=by
 intro pins s σ H Q I h;rw[eval_ListComp];refine qd hca S hi hg hgo hc he hs I h fun {cl C fp s2 H2 xe H3 s4 D} I2 f2 hC I4 qn=>?_
 obtain⟨mC,hnC,_⟩:=id I4.loc;refine⟨mC,hnC,fun h'' hs''=>?_⟩
 have keepC : ∀b o,b≠C→s4.heap.get? b=some o→h''.get? b=some o:=fun b o hb e=>hs''.extBut b o hb e
 have lC : ∀{b o},s2.heap.get? b=some o→b≠C:=fun e=>ne_of_lt (lt_trans (Heap.lt_size e) hC)
 have un:Un (frs X.stack) fp H2 H3 s2.heap h'':=by
  have u:=I4.base;refine⟨fun b o e n hb hx=>keepC b o (lC e) (u.keep b o e n hb hx),fun b o e n hb hx=>?_,u.free,fun b o e hx=>?_,u.tups,u.frzs,u.tbls⟩
  ·obtain⟨sl,e1⟩:=u.slot b o e n hb hx
   exact⟨sl,keepC b _ (lC e) e1⟩
  ·obtain⟨o',e1⟩:=u.there b o e hx
   exact⟨o',keepC b _ (lC e) e1⟩
 have hok':HOk X.prog X.w H3 h'':=fun b u e=>(I4.hok b u e).stay (fun c v hc q=>keepC c v (by
   have cf:H3 C=none:=I4.free
   rintro rfl
   rcases hc with z | z
   ·rw[z] at cf;rw[cf] at e;cases e
   ·rw[cf] at z;cases z) q) (fun _ q=>q) fun _ _ q=>q
 exact⟨.ref D,H3,I2.call' (s':={ s4 with heap:=h'' }) I4.os un hok' I4.bare (fun b hb=>by
  obtain⟨f0,f1,f2',f3,f4,f5⟩:=f2 b hb;exact⟨f3,f1,f4,f5⟩),rfl,qn⟩
theorem cg (i:Nat) {y:Str} {py spos:Pos} (S:jI X scope N nt js) (hi:PI X tg iter wi)
  (hg : ∀{cl C fp s H xe},PG (ce X scope N cl C fp s H xe) tg g) (hgo:zC g nt)
  (hc : ∀{cl C fp s H xe},PTs (ce X scope N cl C fp s H xe) ifs tc)
  (he : ∀{cl C fp s H xe},PE (ce X scope N cl C fp s H xe) elt te)
  (hs : ∀x,foldedSetIterable iter X.env x=pure x:=by intro _;rfl) (hca:X.calm=true:=by exact rfl) (hN:X.N.Nodup:=by assumption) (hi0:X.N[i]? = some y:=by exact rfl) (hy:Loc X.env.scope y:=by first | exact Or.inl rfl | exact Or.inr rfl)
  (hsw:swapsWith (.ListComp elt [⟨tg,iter,ifs,0⟩] scope pos) (some (.Name y py)) spos.line X.env=pure true:=by rfl)
  (hf:X.fn y=true∨X.env.scope.names.lookup y=some .local:=by first | exact .inl rfl | exact .inr rfl | assumption) :
  PS X (.Assign [.Name y py] (.ListComp elt [⟨tg,iter,ifs,0⟩] scope pos) spos) (vh (vM nt js wi g tc te) (eV i)):=by
 intro pins s σ H D I h;rw[exec_Assign_Name_used _ _ _ _ hsw];refine wpAny_bind (wpAny_standAt (wpAny_bind ?_))
 show wpAny _ X.A (do let _ ← comprehension (.ListComp elt [⟨tg,iter,ifs,0⟩] scope pos) scope X.env _ (newList []) false (eval iter X.env) (some (assign (.Name y py) X.env))) _ _ s
 refine wpAny_bind (wpAny_mono (qd (Qf:=fun _ s'=>SP X pins D .next s') hca S hi hg hgo hc he hs I h fun {cl C fp s2 H2 xe H3 s4 D'} I2 f2 hC I4 qn=>?_) (fun _ s' hq=>wpAny_pure (wpAny_pure hq)) fun _ _ e=>e)
 obtain⟨mC,hnC,_⟩:=id I4.loc;have I5:Inv X pins σ H3 s4:=I2.call' (s':=s4) I4.os I4.base I4.hok I4.bare (fun b hb=>by
  obtain⟨f0,f1,f2',f3,f4,f5⟩:=f2 b hb;exact⟨f3,f1,f4,f5⟩)
 show wpAny _ X.A (assign (.Name y py) X.env (.ref D')) _ _ s4
 have hCL:C≠X.env.locals:=ne_of_gt (lt_trans I2.lt hC)
 have hCc : ∀x c,X.env.cells.lookup x=some c→c≠C:=fun x c e z=>by
  obtain⟨v,q⟩:=I2.cell x c e;exact lt_irrefl _ (lt_trans (z ▸ q.lt) hC)
 refine wpAny_assign_Name (pH I5 hN hi0 hy (v:=.ref D') rfl (fun s6 I6 zr8551=>?_) hf)
 obtain⟨ad,sb,had⟩:=zr8551;have hadC:C≠ad:=by
  rcases had with z | z
  ·rw[z];exact hCL
  ·exact fun e=>hCc _ _ z e.symm
 refine⟨mC,hnC.sameBut sb hadC,fun h'' hs''=>⟨_,H3,Inv.turned (t':=s6.toks) (it:=C) I6 (fun b o hb e=>hs''.extBut b o hb e) I4.free hCL (.inr (le_trans I2.sz (le_of_lt hC))) hCc (fun p hp z=>?_),qn⟩⟩
 exact lt_irrefl _ (lt_trans (z ▸ Heap.lt_size (I2.pin p hp).1) hC)
end
section
variable {l:Expr}
noncomputable def Ab:R2:=fun x y H Q=>match x,y with
 | .ref p,.int i=>∃xs,H p=some (.tup xs)∧∃v,atI xs i=some v∧Q v H
 | _,_=>False
theorem ap:IxR X Ab:=uK.imp fun x y H Q h=>by
 unfold Ab at h
 split at h
 ·exact⟨_,rfl,_,rfl,h⟩
 ·exact h.elim
noncomputable def r1m (P:Addr→Hp→VK→Prop):List V→Hp→VK→Prop:=fun xs H Q=>match xs with
 | [.ref p]=>P p H Q
 | _=>False
theorem zj {P:Addr→Hp→VK→Prop} {Q:VK} (h:r1m P xs H Q) : ∃p,xs=[.ref p]∧P p H Q:=by
 unfold r1m at h
 split at h
 ·exact⟨_,rfl,h⟩
 ·exact h.elim
theorem bj:bC X (.builtin "len") (r1m fun p H Q=>∃ys,H p=some (.lst ys)∧Q (.int ys.length) H):=pT.imp fun _ _ _ h=>zj h
theorem fW:bC X (.builtin "len") (r1m fun p H Q=>∃ys,H p=some (.tup ys)∧Q (.int ys.length) H):=bZ.imp fun _ _ _ h=>zj h
noncomputable def iTm (K:PySem.W.Frag) (tl:TE):TI:=fun σ H R=>tl σ H fun x H1=>match x with
 | .ref a=>∃xs,H1 a=some (.tup xs)∧R (Itt K a) H1
 | _=>False
noncomputable def iLm (K:PySem.W.Frag) (tl:TE):TI:=fun σ H R=>tl σ H fun x H1=>match x with
 | .ref a=>∃xs,H1 a=some (.lst xs)∧R (Itl K a) H1
 | _=>False
theorem je (hK:X.K=K) (hl:PE X l tl):PI X tg l (iTm K tl):=by
 subst hK;intro pins s σ H R I h;refine thn (hl pins s σ H _ I h) fun v s1 zr8594=>?_
 obtain⟨x,H1,I1,r1,hm⟩:=zr8594
 try dsimp only at hm
 split at hm
 ·obtain⟨xs,hq,q⟩:=hm
  cases r1;obtain⟨its,rv,p,hz⟩:=I1.tuple (SqT.of hq);refine wpAny_pyIter_tuple (show s1.heap.IsTuple _ its.toArray from p) ?_
  refine⟨s1.heap.objs.size,[s1.heap.objs.size],_,_,H1,rfl,I1.kept (t':=s1.toks) fun b o e=>Heap.get?_push_of_some _ e,nW _ _,⟨_,Heap.get?_push_size _ rfl,rfl,rfl⟩,fun b hb=>?_,q⟩
  have e:b=s1.heap.objs.size:=by simpa using hb
  subst e;exact I1.fpOk (le_refl _) (I1.hok.fresh (le_refl _))
 ·exact hm.elim
theorem eY (hK:X.K=K) (hl:PE X l tl):PI X tg l (iLm K tl):=by
 subst hK;intro pins s σ H R I h;refine thn (hl pins s σ H _ I h) fun v s1 zr8609=>?_
 obtain⟨x,H1,I1,r1,hm⟩:=zr8609
 try dsimp only at hm
 split at hm
 ·obtain⟨xs,hq,q⟩:=hm
  cases r1;obtain⟨its,rv,p,hz⟩:=I1.list (SqL.of hq);refine wpAny_pyIter_list p.isList ?_
  refine⟨s1.heap.objs.size,[s1.heap.objs.size],_,_,H1,rfl,I1.kept (t':=s1.toks) fun b o e=>Heap.get?_push_of_some _ e,px _ _,⟨_,Heap.get?_push_size _ rfl,rfl,rfl⟩,fun b hb=>?_,q⟩
  have e:b=s1.heap.objs.size:=by simpa using hb
  subst e;exact I1.fpOk (le_refl _) (I1.hok.fresh (le_refl _))
 ·exact hm.elim
end
end L2
namespace Lw
open PySem L2
local macro_rules | `(tactic| ctx_has c) => `(tactic| exact ⟨rfl, rfl, rfl, by decide +kernel, rfl, by decide +kernel, by decide +kernel⟩)
local macro_rules | `(tactic| ctx_has z $S:ident) => do
  let i:=Lean.mkIdent
  let nd:=i `nd
  let hu:=i `hu
  let L:=i `L
  let vs:=i `vs
  let H:=i `H
  let Q:=i `Q
  let E:=i `E
  let h:=i `h
  let f:=i `f
  let cdv:=i `cdv
  let A:=i `A
  let outer:=i `outer
  let s:=i `s
  let hr:=i `hr
  `(tactic| (have $nd:ident:=aH.nd $S;refine FnL.ok $L $S (fun $vs $H $Q $E $h=>?_) (fun $f $cdv $A $outer $s $H $vs $Q $E $hr $h=>?_);rotate_left;have $hu:ident:=sV $hr;rotate_left))
local macro_rules | `(tactic| ctx_has v $ids*) => `(tactic| ((try dsimp only [Ab, r1m, iTm, iLm, eP, List.map, List.append_eq, List.set, L2.fM, List.length_cons, List.length_nil, List.replicate, List.cons_append, List.nil_append, Nat.reduceAdd, Nat.reduceSub, Nat.zero_add, Nat.add_zero, uO, tP, yU, C5, IsB, CD, CM, AL, jk, wH, BG, CA, yf, vh, eV, zY, tC, tOp, tUn, tG, tB, BS, tOr, CH, zF, tCB, rW, jK, uq, Aj, A5, tDG, sDP, rI0, rI, rU, rEq, rNe, zD, xS, rIL, rIT, rIS, rSL, rSQ, rST, An, iL, iT, tML, tMS, vo, lz, rCT, C4, Cr, uI, qG, qV, vt, nh, zJ, zA, qx, iD, BI, tDI, BD, wR, rV, AO, lO, zm, nJ, rCL, zp, BT, uH, yt, rCS, yP, BX, mY, yL, nA, re, vL, zT, wN, zi, yC, yo, tSl, lA, wx, wU, List.set_cons_zero, List.set_cons_succ, List.getElem?_cons_zero, List.getElem?_cons_succ, List.map_cons, List.map_nil]); (try simp only [true_and,eP, Ab, r1m, iTm, iLm, uO, cxK, ES, yX, Ax, BN, C3, CY, BV, Option.join_some, tP, yU, C5, IsB, CD, CM, AL, jk, wH, BG, CA, yf, vh, eV, zY, tC, tOp, tUn, tG, tB, BS, tOr, CH, zF, tCB, rW, jK, uq, Aj, A5, tDG, sDP, Ed, C9, rI0, rI, rU, rEq, rNe, Ai, AA, AF, A1, Ak, AM, zD, xS, rIL, rIT, rIS, rSL, rSQ, rST, An, iL, iT, tML, tMS, vo, lz, rCT, C4, Cr, uI, qG, qV, vt, nh, zJ, zA, qx, iD, BI, tDI, BD, wR, rV, AO, F8, EB, Gk, Gf, ET, Ay, lO, zm, nJ, rCL, zp, BT, uH, yt, rCS, yP, BX, mY, yL, nA, HO.dK.injEq, HO.lst.injEq, HO.tup.injEq, HO.ins.injEq, re, vL, zT, wN, zi, yC, yo, tSl, lA, wx, L2.fM, List.map_cons, List.map_nil, List.length_cons, List.length_nil, List.replicate, List.cons_append, List.nil_append, List.append_nil, List.getElem?_cons_zero, List.getElem?_cons_succ, List.set_cons_zero, List.set_cons_succ, Option.some.injEq, V.int.injEq, V.ref.injEq, V.str.injEq, V.bl.injEq, V.ty.injEq, List.cons.injEq, and_assoc, and_true, true_and, and_self, exists_eq_left, exists_eq_left', exists_eq_right, exists_eq_right', exists_and_left, exists_eq, exists_eq', reduceCtorEq, false_and, and_false, false_or, or_false, exists_false, decide_eq_true_eq, String.reduceEq, String.reduceBEq, Bool.or_true, Bool.true_or, Bool.or_false, Bool.false_or, or_true, true_or, if_true, if_false, Bool.not_eq_true', Nat.reduceAdd, Nat.reduceSub, Nat.zero_add, $[$ids:ident],*]))) | `(tactic| kpf_say ($H:ident, $q:ident, $hq:ident, $hh:ident, $ss:ident) al $G:ident $o) => `(tactic| (refine ⟨by decide, fun $q $hq => ?_⟩; have $hh : upd $H $q $o $q = some $o := ab; have $ss : ao $H (upd $H $q $o) := ao.upd0 $hq; generalize upd $H $q $o = $G at $hh:ident $ss:ident ⊢))
local macro_rules | `(tactic| ctx_has o) => `(tactic| first | exact Or.inl rfl | exact Or.inr rfl)
local macro_rules | `(tactic| ctx_has m) => `(tactic| first | decide | omega)
variable {P:Program} {w:World} {K:PySem.W.Frag} {mg:Str→Option Value} {base:Heap}
noncomputable abbrev fk:Stmt:=top 1
noncomputable abbrev yG:Stmt:=top 3
noncomputable abbrev iy:Stmt:=top 4
noncomputable abbrev di:Stmt:=top 5
noncomputable abbrev dO:Stmt:=top 6
noncomputable abbrev eZ:Stmt:=top 7
noncomputable abbrev dg:Stmt:=top 8
noncomputable abbrev eu:Stmt:=top 9
noncomputable abbrev dk:Stmt:=top 10
noncomputable abbrev dZ:Stmt:=top 11
noncomputable abbrev dL:Stmt:=top 12
noncomputable abbrev fz:Stmt:=top 13
noncomputable abbrev cG:Stmt:=top 15
noncomputable abbrev iY:Stmt:=top 16
noncomputable abbrev bK:Stmt:=top 17
noncomputable abbrev dj:Stmt:=top 18
noncomputable abbrev eX:Stmt:=top 19
noncomputable abbrev ci:Stmt:=top 20
noncomputable abbrev cx:Stmt:=top 21
noncomputable abbrev iU:Stmt:=top 22
noncomputable abbrev eW:Stmt:=top 24
noncomputable abbrev gZ:Stmt:=top 25
noncomputable abbrev eA:Stmt:=top 26
noncomputable abbrev gK:Stmt:=top 27
noncomputable abbrev eC:Stmt:=top 28
noncomputable abbrev gV:Stmt:=top 29
noncomputable abbrev fj:Stmt:=top 30
noncomputable abbrev eK:Stmt:=top 31
noncomputable abbrev eQ:Stmt:=top 32
noncomputable abbrev gl:Stmt:=top 33
noncomputable abbrev dG:Stmt:=top 34
noncomputable abbrev fV:Stmt:=top 35
noncomputable abbrev eh:Stmt:=top 36
noncomputable abbrev bf:Stmt:=top 37
noncomputable abbrev fc:Stmt:=top 38
noncomputable abbrev dz:Stmt:=top 39
noncomputable abbrev fb:Stmt:=top 40
noncomputable abbrev bR:Stmt:=top 41
noncomputable abbrev bi:Stmt:=top 42
noncomputable abbrev fX:Stmt:=top 43
noncomputable abbrev df:Stmt:=top 44
noncomputable abbrev cM:Stmt:=top 45
noncomputable abbrev cz:Stmt:=top 46
noncomputable abbrev cJ:Stmt:=top 47
noncomputable abbrev gm:Stmt:=top 48
noncomputable abbrev gO:Stmt:=top 49
noncomputable abbrev mK:Stmt:=top 50
theorem mE:aH ["hall","rooms","cell"] ["hall"] (am fk):=by ctx_has c
theorem CV:aH ["leads","thing"] ["leads","thing"] (am yG):=by ctx_has c
theorem vj:aH ["leads","things"] ["leads","things"] (am iy):=by ctx_has c
theorem kR:aH ["turning","rooms"] ["turning","rooms"] (am di):=by ctx_has c
theorem kz:aH ["turning","wish"] ["turning","wish"] (am dO):=by ctx_has c
theorem ou:aH ["turning","wish"] ["turning","wish"] (am eZ):=by ctx_has c
theorem kZ:aH ["turning"] ["turning"] (am dg):=by ctx_has c
theorem oE:aH ["turning","wish"] ["turning","wish"] (am eu):=by ctx_has c
theorem lm:aH ["turning","wish"] ["turning","wish"] (am dk):=by ctx_has c
theorem oB:aH ["turning","wish","steps"] ["turning","wish"] (am dZ):=by ctx_has c
theorem kh:aH ["turning","wish"] ["turning","wish"] (am dL):=by ctx_has c
theorem nU:aH ["turning","wish","inner"] ["turning","wish"] (am fz):=by ctx_has c
theorem gI:aH ["turning","wish"] ["turning","wish"] (am cG):=by ctx_has c
theorem sQ:aH ["things"] ["things"] (am iY):=by ctx_has c
theorem gS:aH ["wish","places","rows"] ["wish"] (am bK):=by ctx_has c
theorem dv:aH ["wish"] ["wish"] (am dj):=by ctx_has c
theorem nM:aH ["wishes","told","wish","plain"] ["wishes"] (am eX):=by ctx_has c
theorem gx:aH ["turning","wishes","forms","found","wish","turned","plain"] ["turning","wishes","forms"] (am ci):=by ctx_has c
theorem jR:aH ["turning","rooms"] ["turning","rooms"] (am cx):=by ctx_has c
theorem um:aH ["hall","turning"] ["hall","turning"] (am iU):=by ctx_has c
theorem rc:aH ["_law_script","_law_start","_law_cells","_law_number","_law_cell"] ["_law_script","_law_start"] (am eW):=by ctx_has c
theorem rK:aH ["_law_deal_here","_law_many","_law_number","_law_one","_law_other"] ["_law_deal_here","_law_many"] (am gZ):=by ctx_has c
theorem pe:aH ["_law_deal_here","_law_many","_law_letters","_law_names_here","_law_k","_law_word","_law_place"] ["_law_deal_here","_law_many"] (am eA):=by ctx_has c
theorem qP:aH ["_law_deal_here","_law_value","_law_pool_here","_law_k"] ["_law_deal_here"] (am gK):=by ctx_has c
theorem oZ:aH ["_law_deal_here","_law_names_here","_law_pool_here","_law_most","_law_rooms_here","_law_name","_law_some_here"] ["_law_deal_here","_law_names_here","_law_pool_here","_law_most"] (am eC):=by ctx_has c
theorem qg:aH ["_law_deal_here","_law_things","_law_least","_law_left","_law_found","_law_k"] ["_law_deal_here","_law_things","_law_least"] (am gV):=by ctx_has c
theorem oo:aH ["_law_deal_here","_law_low","_law_high","_law_one","_law_other"] ["_law_deal_here","_law_low","_law_high"] (am fj):=by ctx_has c
theorem sH:aH ["_law_deal_here","_law_some_here","_law_rooms_here","_law_terms","_law_low","_law_high","_law_name","_law_a"] ["_law_deal_here","_law_some_here","_law_rooms_here"] (am eK):=by ctx_has c
theorem qq:aH ["_law_deal_here","_law_some_here","_law_pool_here","_law_rows_here","_law_k","_law_row"] ["_law_deal_here","_law_some_here","_law_pool_here"] (am eQ):=by ctx_has c
theorem tm:aH ["_law_deal_here","_law_some_here","_law_pool_here","_law_many","_law_steps","_law_state","_law_value","_law_ends"] ["_law_deal_here","_law_some_here","_law_pool_here"] (am gl):=by ctx_has c
theorem qz:aH ["_law_deal_here","_law_names_here","_law_rooms_here","_law_pool_here","_law_sorts","_law_sort","_law_some_here","_law_low","_law_rest","_law_inner"] ["_law_deal_here","_law_names_here","_law_rooms_here","_law_pool_here","_law_sorts"] (am dG):=by ctx_has c
theorem oN:aH ["_law_deal_here","_law_things","_law_some_here","_law_others","_law_found","_law_k"] ["_law_deal_here","_law_things"] (am fV):=by ctx_has c
theorem oO:aH ["_law_leads_here","_law_things"] ["_law_leads_here","_law_things"] (am eh):=by ctx_has c
theorem fE:aH ["_law_turning","_law_wish_here","_law_names_here","_law_values","_law_inner","_law_found","_law_steps"] ["_law_turning","_law_wish_here"] (am bf):=by ctx_has c
theorem no:aH ["_law_found","_law_thing","_law_key","_law_at"] ["_law_found","_law_thing","_law_key"] (am fc):=by ctx_has c
theorem nF:aH ["_law_things","_law_keys","_law_found","_law_k"] ["_law_things","_law_keys"] (am dz):=by ctx_has c
theorem lZ:aH ["_law_things"] ["_law_things"] (am fb):=by ctx_has c
theorem iM:aH ["_law_wish_here","_law_rows_here"] ["_law_wish_here"] (am bR):=by ctx_has c
theorem fH:aH ["_law_deal_here","_law_wish_here","_law_cells","_law_steps","_law_places","_law_rows_here"] ["_law_deal_here","_law_wish_here"] (am bi):=by ctx_has c
theorem oV:aH ["_law_leads_here","_law_thing","_law_found"] ["_law_leads_here","_law_thing"] (am fX):=by ctx_has c
theorem iW:aH ["_law_deal_here","_law_names_here","_law_pool_here","_law_turning","_law_rooms_here","_law_name","_law_ring","_law_room","_law_after","_law_other","_law_found","_law_value"] ["_law_deal_here","_law_names_here","_law_pool_here","_law_turning"] (am df):=by ctx_has c
theorem iE:aH ["_law_deal_here","_law_names_here","_law_rooms_here","_law_pool_here","_law_turning","_law_sorts","_law_wishes","_law_k","_law_wish_here","_law_forms"] ["_law_deal_here","_law_names_here","_law_rooms_here","_law_pool_here","_law_turning"] (am cM):=by ctx_has c
theorem jx:aH ["_law_deal_here","_law_most","_law_names_here","_law_pool_here","_law_turning","_law_rooms_here","_law_wishes","_law_way_here","_law_cells"] ["_law_deal_here","_law_most"] (am cz):=by ctx_has c
theorem kn:aH ["_law_hall","_law_turning","_law_rooms_here","_law_name","_law_room","_law_left","_law_wish_here","_law_other"] ["_law_hall","_law_turning"] (am cJ):=by ctx_has c
theorem oD:aH ["_law_found","_law_due"] ["_law_found","_law_due"] (am gm):=by ctx_has c
theorem qY:aH ["_law_leads_here","_law_found","_law_key"] ["_law_leads_here"] (am gO):=by ctx_has c
theorem zG:aH ["_law_script","_law_deal_here","_law_hall","_law_turning","_law_pool_here","_law_names_here","_law_fresh","_law_other","_law_back_here","_law_handed","_law_due"] ["_law_script"] (am mK):=by ctx_has c
structure Txt (w:World) (K:PySem.W.Frag) (mg:Str→Option Value) (base:Heap):Prop where
 b_len:mg "len" = none
 b_max:mg "max" = none
 b_min:mg "min" = none
 b_sum:mg "sum" = none
 b_list:mg "list" = none
 b_reversed:mg "reversed" = none
 b_range:mg "range" = none
 b_isinstance:mg "isinstance" = none
 b_all:mg "all" = none
 b_any:mg "any" = none
 b_dict:mg "dict" = none
 b_tuple:mg "tuple" = none
 b_set:mg "set" = none
 b_int:mg "int" = none
 b_sorted:mg "sorted" = none
 b_bool:mg "bool" = none
 bm:iH mg base
 at_TURNERS:mg "TURNERS" = some (.ref (pz mg "TURNERS"))
 tb_TURNERS:Bx w K (pz mg "TURNERS")
noncomputable def qL (x:Str):Str:=x ++ ".<locals>." ++ "<lambda>"
noncomputable def tabs:List (Addr × Addr × Str):=[(105,103,qL "plain_table"),(112,108,qL "plain_form")]
noncomputable def bg (m sd n:Int) (l:Addr):List (Key × V):=[(Sum.inr "mixed",.int m),(Sum.inr "seed",.int sd),(Sum.inr "number",.int n),(Sum.inr "left",.ref l)]
structure aD (H:Hp) (d l:Addr):Prop where
 ex : ∃(m sd n:Int) (xs:List Int),H d=some (.dK (bg m sd n l))∧H l=some (.lst (xs.map V.int))∧0≤n∧(∀x∈xs,0≤x)∧0≤sd∧sd < 2147483648∧xs.length≤63
noncomputable def But (d l:Addr) (H H':Hp):Prop:=∀b o,b≠d→b≠l→H b=some o→H' b=some o
theorem BC : ¬ ((Sum.inr (Str.ofString "mixed"):Key)=Sum.inr (Str.ofString "seed")):=by decide+kernel
theorem CL : ¬ ((Sum.inr (Str.ofString "mixed"):Key)=Sum.inr (Str.ofString "number")):=by decide+kernel
theorem Di : ¬ ((Sum.inr (Str.ofString "mixed"):Key)=Sum.inr (Str.ofString "left")):=by decide+kernel
theorem Af : ¬ ((Sum.inr (Str.ofString "seed"):Key)=Sum.inr (Str.ofString "number")):=by decide+kernel
theorem C7 : ¬ ((Sum.inr (Str.ofString "seed"):Key)=Sum.inr (Str.ofString "left")):=by decide+kernel
theorem C2 : ¬ ((Sum.inr (Str.ofString "number"):Key)=Sum.inr (Str.ofString "left")):=by decide+kernel
theorem pW (m sd n:Int) (l:Addr):bu (bg m sd n l) (Sum.inr "mixed")=some (.int m):=by unfold bg;rw[aZ rfl]
theorem rT (m sd n:Int) (l:Addr):bu (bg m sd n l) (Sum.inr "seed")=some (.int sd):=by unfold bg;rw[aP BC,aZ rfl]
theorem jf (m sd n:Int) (l:Addr):bu (bg m sd n l) (Sum.inr "number")=some (.int n):=by unfold bg;rw[aP CL,aP Af,aZ rfl]
theorem tV (m sd n:Int) (l:Addr):bu (bg m sd n l) (Sum.inr "left")=some (.ref l):=by unfold bg;rw[aP Di,aP C7,aP C2,aZ rfl]
theorem ox (m sd n y:Int) (l:Addr):br (bg m sd n l) (Sum.inr "number") (.int y)=bg m sd y l:=by
 unfold br;rw[dC,jf];simp only[isSome_some,if_true,bg,map_cons,map_nil,if_neg CL,if_neg Af,if_neg (Ne.symm C2)]
theorem zt (m sd n y:Int) (l:Addr):br (bg m sd n l) (Sum.inr "seed") (.int y)=bg m y n l:=by
 unfold br;rw[dC,rT];simp only[isSome_some,if_true,bg,map_cons,map_nil,if_neg BC,if_neg (Ne.symm Af),if_neg (Ne.symm C7)]
theorem tI (m sd n:Int) (l:Addr):(bg m sd n l).length < sizeLine:=by show 4 < sizeLine;decide
theorem dr {j:Int} (h0:0≤i) (h1:i < 4294967296):zI i j:=.inl ⟨by omega,by omega⟩
noncomputable def uA:Sp:=fun vs H Q _=>∃(d l:Addr) (m:Int),vs=[.ref d,.int m]∧aD H d l∧0 < m∧m < 18446744073709551616∧∀(r:Int) (H':Hp),0≤r→r < m→aD H' d l→But d l H H'→Q (.int r) H'
theorem ux (m sd n:Int) (l:Addr):dh [] (bg m sd n l)=bg m sd n l:=by
 have e1:br ([]:List (Key × V)) (Sum.inr (Str.ofString "mixed")) (.int m)=[(Sum.inr (Str.ofString "mixed"),.int m)]:=dE _ jV
 have e2:br [((Sum.inr (Str.ofString "mixed"):Key),V.int m)] (Sum.inr (Str.ofString "seed")) (.int sd)=[(Sum.inr (Str.ofString "mixed"),.int m),(Sum.inr (Str.ofString "seed"),.int sd)]:=dE _ (by rw[aP BC,jV])
 have e3:br [((Sum.inr (Str.ofString "mixed"):Key),V.int m),(Sum.inr (Str.ofString "seed"),.int sd)] (Sum.inr (Str.ofString "number")) (.int n)=[(Sum.inr (Str.ofString "mixed"),.int m),(Sum.inr (Str.ofString "seed"),.int sd),(Sum.inr (Str.ofString "number"),.int n)]:=dE _ (by rw[aP CL,aP Af,jV])
 have e4:br [((Sum.inr (Str.ofString "mixed"):Key),V.int m),(Sum.inr (Str.ofString "seed"),.int sd),(Sum.inr (Str.ofString "number"),.int n)] (Sum.inr (Str.ofString "left")) (.ref l)=bg m sd n l:=dE _ (by rw[aP Di,aP C7,aP C2,jV])
 show br (br (br (br ([]:List (Key × V)) (Sum.inr (Str.ofString "mixed")) (.int m)) (Sum.inr (Str.ofString "seed")) (.int sd)) (Sum.inr (Str.ofString "number")) (.int n)) (Sum.inr (Str.ofString "left")) (.ref l)=_
 rw[e1,e2,e3,e4]
theorem sD (ns:List Int) (lo hi:Option Int) : ∃ms:List Int,dN (ns.map V.int) lo hi=ms.map V.int∧ms.length≤ns.length:=by
 unfold dN;refine⟨(ns.drop (HT.sIx (ns.map V.int).length 0 lo)).take (HT.sIx (ns.map V.int).length (ns.map V.int).length hi - HT.sIx (ns.map V.int).length 0 lo),by simp[map_take,map_drop],?_⟩
 rw[length_take,length_drop];omega
theorem zH {i:Nat} {x:V} (h:(ms.map V.int)[i]? = some x) : ∃v,x = .int v:=by
 rw[List.getElem?_map] at h;cases e:ms[i]? with
 | none=>rw[e] at h;cases h
 | some z=>rw[e] at h;exact⟨z,(Option.some.inj h).symm⟩
noncomputable def Cm (K:PySem.W.Frag):Sp:=fun vs H Q _=>∃(a:Addr) (ns:List Int) (st:Int),vs=[.ref a,.int st]∧SqL K H a (ns.map V.int)∧ns.length≤63∧0≤st∧st≤63∧∀(d l:Addr) (H':Hp),H d=none→H l=none→aD H' d l→ao H H'→Q (.ref d) H'
theorem aS {m:Int} {Q:VK} {E:XK} (D:aD H d l) (m0:0 < m) (m1:m < 18446744073709551616) (h : ∀(r:Int) (H':Hp),0≤r→r < m→aD H' d l→But d l H H'→Q (.int r) H'):uA [.ref d,.int m] H Q E:=⟨d,l,m,rfl,D,m0,m1,h⟩
theorem But.refl (H:Hp):But d l H H:=fun _ _ _ _ e=>e
theorem But.trans (a:But d l H H1) (b:But d l H1 H2):But d l H H2:=fun c o h1 h2 e=>b c o h1 h2 (a c o h1 h2 e)
theorem But.new {p:Addr} (a:But d l H H1) (hp:H1 p=none):But d l H (upd H1 p o):=fun c u h1 h2 e=>by
 have e1:=a c u h1 h2 e;rw[ag (aj e1 hp)];exact e1
theorem But.same (a:But d l H H1) (s:ao H1 H2):But d l H H2:=fun c u h1 h2 e=>s c u (a c u h1 h2 e)
theorem aD.ne {p:Addr} (D:aD H d l) (hp:H p=none):p≠d∧p≠l:=by
 obtain⟨m,sd,n,xs,hd,hl,_⟩:=D.ex;exact⟨(aj hd hp).symm,(aj hl hp).symm⟩
theorem aD.same (D:aD H d l) (s:ao H H'):aD H' d l:=by
 obtain⟨m,sd,n,xs,hd,hl,r⟩:=D.ex;exact⟨m,sd,n,xs,s _ _ hd,s _ _ hl,r⟩
theorem aD.new {p:Addr} (D:aD H d l) (hp:H p=none):aD (upd H p o) d l:=D.same (ao.upd0 hp)
theorem aD.put {p:Addr} (D:aD H d l) (h1:p≠d) (h2:p≠l):aD (upd H p o) d l:=by
 obtain⟨m,sd,n,xs,hd,hl,r⟩:=D.ex;exact⟨m,sd,n,xs,by rw[ag h1.symm];exact hd,by rw[ag h2.symm];exact hl,r⟩
theorem But.put {p:Addr} (a:But d l H H1) (hp:H p=none):But d l H (upd H1 p o):=fun c u h1 h2 e=>by
 rw[ag (aj e hp)];exact a c u h1 h2 e
theorem But.free {p:Addr} (a:But d l H H1) (D:aD H1 d l) (hp:H1 p=none):H p=none:=by
 obtain⟨h1,h2⟩:=D.ne hp;cases e:H p with
 | none=>rfl
 | some o=>rw[a p o h1 h2 e] at hp;cases hp
theorem jz {xs:List α} (h0:0≤i) (h1:i < (xs.length:Int)) : ∃v,atI xs i=some v∧v∈xs:=by
 obtain⟨n,rfl⟩:=Int.eq_ofNat_of_zero_le h0;have hn:n < xs.length:=by omega
 exact⟨xs[n],aO (by simp[hn]),List.getElem_mem hn⟩
theorem jO {p:Addr} {m:Int} {Q:VK} {E:XK} (D:aD H d l) (hp:H p=none) (m0:0 < m) (m1:m < 18446744073709551616) (hm:m=(vs.length:Int)) (h : ∀(r:Int) (v:V) (H':Hp),v∈vs→atI vs r=some v→aD H' d l→But d l H H'→H' p=some (.lst vs)→Q (.int r) H'):uA [.ref d,.int m] (upd H p (.lst vs)) Q E :=
 aS (D.new hp) m0 m1 fun r H' r0 r1 D' B'=>by
  obtain⟨v,e,hv⟩:=jz (xs:=vs) r0 (by omega)
  exact h r v H' hv e D' (((But.refl H).new hp).trans B') (B' p _ (D.ne hp).1 (D.ne hp).2 ab)
abbrev Dz0:=Fn P w K mg base "_law_draw" 1 ["_law_deal_here","_law_many"] (uA)
theorem qZ (T:Txt w K mg base) (L:FnL K mg "_law_draw" gZ ["_law_deal_here","_law_many"]) : @Dz0 P w K mg base:=by
 ctx_has z rK <;> obtain⟨d,l,m,rfl,D,m0,m1,k⟩:=h
 ·rfl
 refine⟨_,(af (fO PassesOwn.never (PW.pt (gh (ay aR (gw hu (pvM 0) au) ae) (gh (ay sP (aG pT T.b_len (aa (gw hu (pvM 0) au) ac)) ae) (gg (ay aR (gw hu (pvM 0) au) ae))))) (ai (gG hu (pvM 0) au (Cd PySem.F.slot_list_pop PySem.F.type_list_pop BL (gw hu (pvM 0) au)) rfl)))
  (af (aC 2 (gw hu (pvM 0) au))
  (af (aK (ay sP (pvM 2) ae) (af (gG hu (pvM 0) au (aN yk (pvM 2) (pvM 1)) rfl)
  (ai (aA (aN gu (pvM 2) (pvM 1))))) az)
  (af (aC 3 (aN gu (aN bw (aN gX (gw hu (pvM 0) au) ae) ae) ae))
  (af (gG hu (pvM 0) au (aN gu (aN bw (aN gX (pvM 3) ae) ae) ae) rfl)
  (af (aC 4 (aN gu (aN gX (gw hu (pvM 0) au) (gw hu (pvM 0) au)) ae))
  (ai (aA (aN gu (aN bw (aN gX (aN gu (aN gX (pvM 3) (pvM 3)) ae) ae) (pvM 4)) (pvM 1)))))))))),?_⟩
 obtain⟨mx,sd,n,xs,hd,hl,n0,hx,s0,s1,hlen⟩:=D.ex;have dl:d≠l:=bq hd hl (by intro z;cases z)
 refine fQ (fun μ σ H'=>∃(n:Int) (xs:List Int),σ=[some (.ref d),some (.int m),none,none,none]∧H' d=some (.dK (bg mx sd n l))∧H' l=some (.lst (xs.map V.int))∧0≤n∧(∀x∈xs,0≤x)∧xs.length≤63∧But d l H H'∧μ=xs.length)
  (fun σ H'=>∃(n:Int) (xs:List Int),σ=[some (.ref d),some (.int m),none,none,none]∧H' d=some (.dK (bg mx sd n l))∧H' l=some (.lst (xs.map V.int))∧0≤n∧(∀x∈xs,0≤x)∧xs.length≤63∧But d l H H')
  ⟨_,n,xs,rfl,hd,hl,n0,hx,hlen,fun b o _ _ e=>e,rfl⟩ ?_ ?_
 ·rintro R hR μ σ H1 ⟨n1,xs1,rfl,hd1,hl1,n01,hx1,hlen1,bt,rfl⟩
  have hr:=hR _ _ ⟨n1,xs1,rfl,hd1,hl1,n01,hx1,hlen1,bt⟩;ctx_has v hd1 hl1 jf tV pW
  refine cW (fun h1=>?_) (fun _=>hr)
  refine cW (fun h2=>?_) (fun _=>hr)
  refine cW (fun h3=>?_) (fun _=>hr)
  rcases List.eq_nil_or_concat xs1 with rfl | ⟨ys,z,rfl⟩
  ·simp at h2
  refine⟨fun σ' H'=>σ'=[some (.ref d),some (.int m),none,none,none]∧H'=upd (upd H1 l (.lst (ys.map V.int))) d (.dK (bg mx sd z l)),?_,V.int z,by simp,bg mx sd n1 l,by rw[ag dl];exact hd1,tI _ _ _ _,by rw[ox];simp⟩
  rintro _ _ ⟨rfl,rfl⟩
  refine⟨ys.length,by simp,rfl,z,ab,ys,by rw[ag dl.symm,ab],hx1 z (by simp),fun x hx=>hx1 x (by simp[hx]),by simp at hlen1;omega,fun b o h1 h2 e=>?_,rfl⟩
  rw[ag h1,ag h2];exact bt b o h1 h2 e
 ·rintro σ H1 ⟨n1,xs1,rfl,hd1,hl1,n01,hx1,hlen1,bt⟩
  ctx_has v hd1 hl1 jf tV pW rT tI ox zt ab
  have fin : ∀(r sd' n':Int),0≤r→r < m→0≤n'→0≤sd'→sd' < 2147483648→Q (.int r) (upd H1 d (HO.dK (bg mx sd' n' l))):=fun r sd' n' r0 r1 n'0 h0 h1 =>
   k r _ r0 r1 ⟨mx,sd',n',xs1,ab,by rw[ag dl.symm];exact hl1,n'0,hx1,h0,h1,hlen1⟩ fun b o h1 h2 e=>by rw[ag h1];exact bt b o h1 h2 e
  refine cW (fun h1=>?_) (fun h1=>?_)
  ·exact⟨⟨m0,m1⟩,m0,fin _ _ _ (Int.emod_nonneg _ (by omega)) (Int.emod_lt_of_pos _ m0) (Int.ediv_nonneg (by omega) (by omega)) s0 s1⟩
  ·generalize hone:(sd * 48271+7919) % 2147483647=one
   have o0:0≤one:=by omega
   have o1:one < 2147483647:=by omega
   generalize hsd2:(one * 40692+104729) % 2147483399=sd2;have p0:0≤sd2:=by omega
   have p1:sd2 < 2147483399:=by omega
   have q0:=Int.emod_nonneg (one * one) (show(2147483629:Int)≠0 by decide)
   have q1:=Int.emod_lt_of_pos (one * one) (show(0:Int) < 2147483629 by decide)
   exact⟨dr s0 (by omega),by decide,dr o0 (by omega),by decide,dr p0 (by omega),by decide,dr o0 (by omega),by decide,dr q0 (by omega),m0,
    fin _ _ _ (Int.emod_nonneg _ (by omega)) (Int.emod_lt_of_pos _ m0) n01 p0 (by omega)⟩
abbrev Dz1:=Fn P w K mg base "_law_deal" 1 ["_law_script","_law_start"] (Cm K)
theorem rA (T:Txt w K mg base) (L:FnL K mg "_law_deal" eW ["_law_script","_law_start"]) : @Dz1 P w K mg base:=by
 ctx_has z rc <;> obtain⟨a,ns,st,rfl,hS,hlen,st0,st1,k⟩:=h
 ·rfl
 refine⟨_,(af (cg 2 (N:=["_law_cell"]) (nt:=1) (js:=[]) (aI ["_law_script","_law_start","_law_cells","_law_number","_law_cell"] (am eW).names) (DB K (bI Du (pvM 0) (bQ (pvM 1)) (bQ ae))) (aB 0) aQ aV (aG (xJ rfl) T.b_max (aa (pvM 0) (aa (aN gH ae (pvM 0)) ac))))
  (af (aC 3 (aN bw ae (pvM 1)))
  (af (bE (eY (K:=K) rfl (pvM 2)) (aB 4) (ai (aC 3 (aN gu (aN bw (aN gX (pvM 3) ae) (pvM 4)) ae))))
  (ai (aA (vU (gM au (aN gu (aG (uN rfl) T.b_sum (aa (bI Du (pvM 0) cA (bQ ae)) ac)) ae) (gM au (pvM 3) (gM au ae (gM au (uZ rfl rfl T.b_list rfl T.b_reversed (pvM 2)) wB)))) rfl rfl (by nofun) (by decide))))))),?_⟩
 ctx_has v
 refine⟨_,hS,fun p hp=>⟨_,ab,fun D hD=>?_⟩⟩
 have pD:D≠p:=by rintro rfl;rw[ab] at hD;cases hD
 obtain⟨ms,hms,hml⟩:=sD ns (some st) (some 63);rw[hms] at hD ⊢;rw[ag pD] at hD;refine cP cq (fun i ys H2=>∃cs:List Int,ys=cs.map V.int∧cs.length=i∧(∀x∈cs,0≤x)∧H2 p=some (.lst (ms.map V.int))∧H2 D=some (.lst ys)∧ao H H2)
  ⟨[],rfl,rfl,by simp,by rw[ag pD.symm,ab],ab,(ao.upd0 hp).upd_new (by rw[ag pD];exact hD)⟩ (fun i ys H2 zq33=>by obtain⟨_,_,_,_,h,_⟩:=zq33;exact(.of h)) ?_ ?_
 ·rintro i x ys H2 hi hx ⟨cs,rfl,rfl,hc,h1,h2,sm⟩
  obtain⟨v,rfl⟩:=zH hx;ctx_has v h2
  have hi:cs.length < 63:=by simp at hi;omega
  refine⟨by simp;exact ax (by omega),cs++[if 0 - v > v then 0 - v else v],by simp,by simp,fun x hx=>?_,by rw[ag pD.symm];exact h1,ab,fun b o e=>?_⟩
  ·rcases mem_append.mp hx with q | q
   ·exact hc x q
   ·rw[mem_singleton.mp q];split <;> omega
  ·rw[ag (aj e hD)];exact sm b o e
 ·rintro ys H2 ⟨cs,rfl,hc,hpos,h1,h2,sm⟩
  have hcl:cs.length≤63:=by simp at hc;omega
  ctx_has v h2
  refine bW cq (fun i σ H3=>∃(z:Int) (v:Option V),σ=[some (.ref a),some (.int st),some (.ref D),some (.int z),v]∧0≤z∧z < 2147483648∧H3=H2)
   ⟨_,_,rfl,by omega,by omega,rfl⟩ (fun i σ H3 zq34=>by obtain⟨_,_,_,_,_,h⟩:=zq34;exact(by rw[h];exact .of h2)) ?_ ?_
  ·rintro i x σ H3 hi hx ⟨z,v,rfl,z0,z1,rfl⟩
   obtain⟨y,rfl⟩:=zH hx;ctx_has v
   exact⟨dr z0 (by omega),by decide,by omega,by omega⟩
  ·rintro σ H3 ⟨z,v,rfl,z0,z1,rfl⟩
   ctx_has v h2 AL
   intro d hd;refine⟨_,(sm.upd_new hd).seq hS,fun p2 hp2=>?_⟩
   have dp2:p2≠d:=by rintro rfl;rw[ab] at hp2;cases hp2
   have hp2':H3 p2=none:=by rwa [ag dp2] at hp2
   obtain⟨xs,hxs,_⟩:=sD ns none (some 1);rw[hxs];have nD2:D≠p2:=aj h2 hp2'
   have nDd:D≠d:=aj h2 hd
   refine⟨xs,.of ab,by decide,_,by rw[ag nD2,ag nDd];exact h2,fun l hl=>?_⟩
   have l1:l≠p2:=by rintro rfl;rw[ab] at hl;cases hl
   have l2:l≠d:=by rintro rfl;rw[ag dp2.symm,ab] at hl;cases hl
   have hl':H3 l=none:=by rwa [ag l1,ag l2] at hl
   refine⟨by rw[ag l2.symm,ag dp2.symm,ab],bg (xs.sum % 2) z 0 l,rfl,by show 4≤15;decide,?_⟩
   rw[ux];refine k d l _ (sm.free hd) (sm.free hl') ⟨_,z,0,cs.reverse,ab,by rw[ag l2,ab,List.map_reverse],by omega,fun x hx=>hpos x (List.mem_reverse.mp hx),z0,z1,by simpa using hcl⟩ fun b o e=>?_
   have e3:=sm b o e;rw[ag (aj e3 hd),ag (aj e3 hl'),ag (aj e3 hp2'),ag (aj e3 hd)];exact e3
noncomputable def AQ:Sp:=fun vs H Q _=>∃(d l:Addr) (m:Int),vs=[.ref d,.int m]∧aD H d l∧0≤m∧m≤20∧∀(p:Addr) (ws:List Str) (H':Hp),H p=none→el ws→ws.length=m.toNat→H' p=some (.lst (ws.map V.str))→aD H' d l→But d l H H'→Q (.ref p) H'
theorem zQ {w1:Str} (n1:cb w1) {P:Str→Prop} (h:P (mV w1)):w1.length≤sizeLine∧∃c,atI w1.cps.toList 0=some c∧∃i rest,Builtin.Str.occurrences (Str.ofString "abcdefghijklmnopqrstuvwxyz") { cps := #[c] } 0 (Str.ofString "abcdefghijklmnopqrstuvwxyz").length 1=i :: rest∧(0:Int) < 26 ∧
  (Str.ofString "abcdefghijklmnopqrstuvwxyz").length≤sizeLine∧∃c,atI (Str.ofString "abcdefghijklmnopqrstuvwxyz").cps.toList (((i:Nat)+1:Int) % 26)=some c∧w1.length≤sizeLine∧(Str.mk #[c]).length+(Txt.slice w1 (some 1) none).length≤sizeLine∧P ((Str.mk #[c])++Txt.slice w1 (some 1) none):=by
 obtain⟨c,cs,e,hc,hcs,hl⟩:=n1.cons;have hlw:w1.length≤sizeLine:=le_of_lt (ax (le_trans n1.le (by decide)))
 have hs:=Txt.slice_le w1 (some 1) none;have hw:=n1.le;refine⟨hlw,c,by rw[e];exact si _ _,_,_,pd hc,by decide,kN,_,nY (by omega) (by omega),hlw,le_of_lt (ax (by show 1+_≤1000;omega)),?_⟩
 have hc2:=hc;simp only[cC,Bool.and_eq_true,decide_eq_true_eq] at hc2;have hl1:w1.length=cs.length+1:=by rw[← ic,e];rfl
 have key:(Str.mk #[97+((((c - 97:Nat):Int)+1) % 26).toNat])++Txt.slice w1 (some 1) none=mV w1:=by
  apply vE
  rw[fU,ku,e,hl1];have e1:97+((((c - 97:Nat):Int)+1) % 26).toNat=rZ c:=by unfold rZ;omega
  have e2:HT.sIx (cs.length+1) 0 (some 1)=1:=by
   show(if (1:Int) < 0 then((1:Int)+((cs.length+1:Nat):Int)).toNat else min (1:Int).toNat (cs.length+1))=1
   rw[if_neg (by decide)]
   show min 1 (cs.length+1)=1
   omega
  rw[e1,e2,HT.sIx_none];simp[mV,e,AV]
 rw[key];exact h
theorem gW {Dn:ll} {p:Addr} {v1 vk vp:Option V} {wd:Str} (hw:cb wd) (hws:ws.length≤20) (hp:H p=some (.lst (ws.map V.str)))
  (fin : ∀(wd':Str) (H':Hp),cb wd'→wd'∉ws→wd'∉dM→ao H H'→Dn.nx [some (.ref d),v1,some (.str (Str.ofString "abcdefghijklmnopqrstuvwxyz")),some (.ref p),vk,some (.str wd'),vp] H') :
  uU
   (tOr (tG (tOp (zp false) (eP 5) (eP 3)))
    (tG (tOp (zp false) (eP 5) (Aj (jK (tC (V.str (Str.ofString "in"))) (jK (tC (V.str (Str.ofString "from"))) (jK (tC (V.str (Str.ofString "to"))) (jK (tC (V.str (Str.ofString "end"))) uq))))))))
   (vh (tOp rCS (tOp rIS (eP 2) (tOp (rI (fun x j=>0 < j) fun i j=>V.int (i % j)) (tOp (rI0 fun i j=>V.int (i+j)) (tMS lz (eP 2) (jK (tOp rIS (eP 5) (tC (V.int 0))) uq)) (tC (V.int 1))) (tC (V.int 26))))
     (tSl An (eP 5) (wx (tC (V.int 1))) lA)) (eV 5))
   Dn [some (.ref d),v1,some (.str (Str.ofString "abcdefghijklmnopqrstuvwxyz")),some (.ref p),vk,some (.str wd),vp] H:=by
 obtain⟨μ0,h0⟩:=xI hw (F:=ws++dM) (by simp[dM];omega)
 refine fQ (fun μ σ H'=>∃wd':Str,σ=[some (.ref d),v1,some (.str (Str.ofString "abcdefghijklmnopqrstuvwxyz")),some (.ref p),vk,some (.str wd'),vp]∧cb wd'∧mG μ wd'∉ws++dM∧ao H H')
  (fun σ H'=>∃wd':Str,σ=[some (.ref d),v1,some (.str (Str.ofString "abcdefghijklmnopqrstuvwxyz")),some (.ref p),vk,some (.str wd'),vp]∧cb wd'∧wd'∉ws∧wd'∉dM∧ao H H')
  ⟨μ0,wd,rfl,hw,h0,ao.refl _⟩ ?_ ?_
 ·rintro R hR μ σ H1 ⟨w1,rfl,n1,f1,sm⟩
  have hp1:=sm _ _ hp;have step : ∀H2,ao H H2→w1∈ws++dM→∀ σ' H',(σ'=[some (.ref d),v1,some (.str (Str.ofString "abcdefghijklmnopqrstuvwxyz")),some (.ref p),vk,some (.str (mV w1)),vp]∧H'=H2)→∃m',m' < μ∧∃wd':Str,σ'=[some (.ref d),v1,some (.str (Str.ofString "abcdefghijklmnopqrstuvwxyz")),some (.ref p),vk,some (.str wd'),vp]∧cb wd'∧mG m' wd'∉ws++dM∧ao H H':=fun H2 sm2 hin=>by
   rintro _ _ ⟨rfl,rfl⟩
   cases μ with
   | zero=>exact absurd hin f1
   | succ μ=>exact⟨μ,Nat.lt_succ_self _,mV w1,rfl,AY n1,f1,sm2⟩
  ctx_has v hp1
  refine⟨rfl,pJ _,?_⟩
  rw[oh];refine cW (fun h=>?_) (fun h=>?_)
  ·exact⟨_,step H1 sm (mem_append_left _ (by simpa using h)),zQ n1 (P:=fun z=>[some (V.ref d),v1,some (.str (Str.ofString "abcdefghijklmnopqrstuvwxyz")),some (.ref p),vk,some (.str z),vp]=[some (V.ref d),v1,some (.str (Str.ofString "abcdefghijklmnopqrstuvwxyz")),some (.ref p),vk,some (.str (mV w1)),vp]∧H1=H1) ⟨rfl,rfl⟩⟩
  ·refine⟨by decide,fun q hq=>⟨_,ab,rfl,by decide+kernel,?_⟩⟩
   have sm2:ao H (upd H1 q (.lst (dM.map V.str))):=sm.upd_new hq
   show(if inV (V.str w1) (dM.map V.str)=true then _ else _)
   rw[oh];refine cW (fun h2=>?_) (fun h2=>?_)
   ·exact⟨_,step _ sm2 (mem_append_right _ (by simpa using h2)),zQ n1 (P:=fun z=>[some (V.ref d),v1,some (.str (Str.ofString "abcdefghijklmnopqrstuvwxyz")),some (.ref p),vk,some (.str z),vp]=[some (V.ref d),v1,some (.str (Str.ofString "abcdefghijklmnopqrstuvwxyz")),some (.ref p),vk,some (.str (mV w1)),vp]∧_=_) ⟨rfl,rfl⟩⟩
   ·exact hR _ _ ⟨w1,rfl,n1,by simpa using h,by simpa using h2,sm2⟩
 ·rintro σ H1 ⟨w1,rfl,n1,f1,f2,sm⟩
  exact fin w1 H1 n1 f1 f2 sm
abbrev Dz2:=Fn P w K mg base "_law_names" 2 ["_law_deal_here","_law_many"] (AQ)
theorem oJ (T:Txt w K mg base) (L:FnL K mg "_law_names" eA ["_law_deal_here","_law_many"]) (Fa : @Dz0 P w K mg base) : @Dz2 P w K mg base:=by
 ctx_has z pe <;> obtain⟨d,l,m,rfl,D,m0,m1,k⟩:=h
 ·rfl
 refine⟨_,(af (aC 2 au)
  (af (aC 3 (bA ac))
  (af (bE (bY rfl T.b_range (aa (pvM 1) ac)) (aB 4) (af (aC 5 (Bt PySem.F.slot_str_join PySem.F.type_str_join AN au (aa (bn (N:=["_law_j","_law_letters","_law_deal_here"]) (nt:=1) (js:=[2,0]) (aI ["_law_deal_here","_law_many","_law_letters","_law_names_here","_law_k","_law_word","_law_place"] (am eA).names) (bY rfl T.b_range (aa (aN bw ae (ah Fa (aa (pvM 0) (aa ae ac)))) ac)) (aB 0) aQ aV (ak Aa (pvM 1) (ah Fa (aa (pvM 2) (aa ae ac))))) ac)))
  (af (aK (PW.pt (gh (ay sP (pvM 4) ae) (gg (ay aR (ah Fa (aa (pvM 0) (aa ae ac))) ae)))) (af (aC 6 (ah Fa (aa (pvM 0) (aa (aG xy T.b_len (aa (ak fI (pvM 3) (iK fB ae)) ac)) ac))))
  (ai (aC 5 (aN lu (aN lu (bI uE (ak fI (pvM 3) (iK fB ae)) cA (bQ (pvM 6))) (ak Aa (pvM 5) ae)) (bI uE (ak fI (pvM 3) (iK fB ae)) (bQ (aN bw (pvM 6) ae)) cA))))) az)
  (af (fO PassesOwn.never (PW.pt (pO (ay vn (pvM 5) (pvM 3)) (mL (ay vn (pvM 5) (bA (aa au (aa au (aa au (aa au ac))))))))) (ai (aC 5 (aN lu (ak Aa (pvM 2) (aN gu (aN bw (Bt PySem.F.slot_str_index PySem.F.type_str_index yz (pvM 2) (aa (ak Aa (pvM 5) ae) ac)) ae) ae)) (bI uE (pvM 5) (bQ ae) cA)))))
  (ai (bU (eG PySem.F.slot_list_append PySem.F.type_list_append bN (pvM 3) (aa (pvM 5) ac))))))))
  (ai (aA (pvM 3)))))),?_⟩
 ctx_has v
 refine⟨by decide,fun p hp=>⟨by omega,by omega,?_⟩⟩
 have np:=D.ne hp;refine bW bL (fun i σ H'=>∃(ws:List Str) (vk vw vp:Option V),σ=[some (.ref d),some (.int m),some (.str (Str.ofString "abcdefghijklmnopqrstuvwxyz")),some (.ref p),vk,vw,vp]∧el ws∧ws.length=i∧H' p=some (.lst (ws.map V.str))∧aD H' d l∧But d l H H')
  ⟨[],_,_,_,rfl,.nil,rfl,ab,D.new hp,(But.refl H).new hp⟩ (fun _ _ _ _=>True.intro) ?_ ?_
 ·rintro i x σ H2 hi hx ⟨ws,vk,vw,vp,rfl,ok,hlen,h2,D2,B2⟩
  rw[aJ] at hi;rw[fS hi] at hx;obtain rfl:=Option.some.inj hx
  ctx_has v
  refine aS D2 (by decide) (by decide) fun r H3 r0 r1 D3 B3=>?_
  ctx_has v
  refine⟨by omega,by omega,fun q hq=>?_⟩
  have h3:=B3 p _ np.1 np.2 h2;have nq:=D3.ne hq;have npq:p≠q:=aj h3 hq
  refine cP bL (fun j ys H4=>∃cs:List Nat,ys=cs.map (fun c=>V.str ⟨#[c]⟩)∧cs.length=j∧(∀c∈cs,cC c=true)∧H4 q=some (.lst ys)∧H4 p=some (.lst (ws.map V.str))∧aD H4 d l∧But d l H H4)
   ⟨[],rfl,rfl,by simp,ab,by rw[ag npq];exact h3,D3.new hq,(B2.trans B3).new hq⟩ (fun _ _ _ _=>True.intro) ?_ ?_
  ·rintro j x ys H4 hj hx ⟨cs,rfl,hcl,hcs,h4,h4p,D4,B4⟩
   ctx_has v
   rw[aJ] at hj;refine aS D4 (by decide) (by decide) fun r5 H5 r50 r51 D5 B5=>?_
   have h5:=B5 q _ nq.1 nq.2 h4;have h5p:=B5 p _ np.1 np.2 h4p;refine⟨r5,rfl,kN,_,nY r50 r51,h5,by simp;exact ax (by omega),cs++[97+r5.toNat],by simp,by simp;omega,fun c hc=>?_,ab,by rw[ag npq];exact h5p,D5.put nq.1 nq.2,(B4.trans B5).put (B2.free D2 ((B3.free D3 hq)))⟩
   rcases mem_append.mp hc with z | z
   ·exact hcs c z
   ·rw[mem_singleton.mp z]
    unfold cC;rw[Bool.and_eq_true,decide_eq_true_eq,decide_eq_true_eq];omega
  ·rintro ys H4 ⟨cs,rfl,hcl,hcs,h4,h4p,D4,B4⟩
   rw[aJ] at hcl;ctx_has v
   refine⟨cs.map fun c=>⟨#[c]⟩,by rw[h4];simp,by rw[xX,show(Str.ofString "").length=0 by decide+kernel];omega,?_⟩
   have hj:=ve cs;generalize Txt.join (Str.ofString "") (cs.map fun c=>Str.mk #[c])=wd at hj ⊢
   obtain⟨c0,cs',rfl⟩ : ∃c0 cs',cs=c0 :: cs':=by
    cases cs with
    | nil=>simp at hcl;omega
    | cons a b=>exact⟨a,b,rfl⟩
   have nwd:cb wd:=.of hj (hcs c0 (by simp)) (fun x hx=>hcs x (by simp[hx])) (by simp at hcl;omega)
   have hwl : ∀{w:Str},cb w→w.length≤sizeLine:=fun h=>le_of_lt (ax (le_trans h.le (by decide)))
   have hws:ws.length≤20:=by omega
   have fin : ∀(wd':Str) (H5 H6:Hp),aD H5 d l→But d l H H5→ao H5 H6→cb wd'→wd'∉ws→wd'∉dM→∃ws',el ws'∧ws'.length=i+1∧upd H6 p (HO.lst (ws.map V.str++[V.str wd'])) p=some (HO.lst (ws'.map V.str))∧aD (upd H6 p (HO.lst (ws.map V.str++[V.str wd']))) d l∧But d l H (upd H6 p (HO.lst (ws.map V.str++[V.str wd']))) :=
    fun wd' H5 H6 D5 B5 sm n f1 f2=>⟨ws++[wd'],ok.snoc n f1 f2,by simp[hlen],by rw[ab];simp,(D5.same sm).put np.1 np.2,(B5.same sm).put hp⟩
   refine cW (fun h=>?_) (fun h=>?_)
   ·refine aS D4 (by decide) (by decide) fun r5 H5 r50 r51 D5 B5=>?_
    ctx_has v
    have h5:=B5 p _ np.1 np.2 h4p;refine cW (fun h6=>?_) (fun h6=>?_)
    ·rcases List.eq_nil_or_concat ws with rfl | ⟨ws0,z,rfl⟩
     ·simp at hlen;omega
     have nz:cb z:=ok.nm z (by simp)
     refine⟨_,h5,_,by rw[List.concat_eq_append,map_append];exact lX _ _,z,rfl,hwl nz,?_⟩
     refine aS D5 (by have:=nz.pos;omega) (by have:=nz.le;omega) fun r7 H7 r70 r71 D7 B7=>?_
     have h7:=B7 p _ np.1 np.2 h5;ctx_has v h7
     have hla:atI (List.map V.str (ws0.concat z)) (-1)=some (V.str z):=by rw[List.concat_eq_append,map_append];exact lX _ _
     have l1:=Txt.slice_le z none (some r7);have l2:=Txt.slice_le z (some (r7+1)) none;have l3:=nz.le;refine⟨_,hla,z,rfl,hwl nz,hwl nwd,c0,by rw[hj];exact si _ _,le_of_lt (ax (by show _+1≤1000;omega)),_,hla,z,rfl,hwl nz,le_of_lt (ax (by rw[mW];show _+1+_≤1000;omega)),?_⟩
     refine gW (AD nz (hcs c0 (by simp)) r70 r71) hws h7 fun wd' H8 n f1 f2 sm=>?_
     have h8:=sm _ _ h7;ctx_has v h8
     exact⟨by simp only[length_map];exact ax (by omega),fin wd' H7 H8 D7 ((B4.trans B5).trans B7) sm n f1 f2⟩
    ·refine gW nwd hws h5 fun wd' H6 n f1 f2 sm=>?_
     have h6:=sm _ _ h5;ctx_has v h6
     exact⟨by simp;exact ax (by omega),fin wd' H5 H6 D5 (B4.trans B5) sm n f1 f2⟩
   ·refine gW nwd hws h4p fun wd' H6 n f1 f2 sm=>?_
    have h6:=sm _ _ h4p;ctx_has v h6
    exact⟨by simp;exact ax (by omega),fin wd' H4 H6 D4 B4 sm n f1 f2⟩
 ·rintro σ H2 ⟨ws,vk,vw,vp,rfl,ok,hlen,h2,D2,B2⟩
  ctx_has v
  rw[aJ] at hlen;exact k p ws H2 hp ok hlen h2 D2 B2
noncomputable def cm (H:Hp) (kvs:List (Key × V)) (cs:List Str) (rm:Str→List Int):Prop:=∀c∈cs,∃a,bu kvs (Sum.inr c)=some (.ref a)∧H a=some (.tup ((rm c).map V.int))
structure Cz (H H':Hp):Prop where
 tup : ∀a vs,H a=some (.tup vs)→H' a=some (.tup vs)
 ins : ∀a C dx fs,H a=some (.ins C dx fs)→H' a=some (.ins C dx fs)
theorem But.keepTI (B:But d l H H') (D:aD H d l):Cz H H':=by
 obtain⟨m,sd,n,xs,hd,hl,_⟩:=D.ex;exact⟨fun a vs e=>B a _ (bq e hd (by intro z;cases z)) (bq e hl (by intro z;cases z)) e,fun a C dx fs e=>B a _ (bq e hd (by intro z;cases z)) (bq e hl (by intro z;cases z)) e⟩
theorem pG {k:Key} {v:V} (h : ∀x∈kvs,dQ x.2=true) (hv:dQ v=true) : ∀x∈br kvs k v,dQ x.2=true:=by
 intro x hx;unfold br at hx
 split at hx
 ·obtain⟨y,hy,rfl⟩:=mem_map.mp hx
  split
  ·exact hv
  ·exact h y hy
 ·rcases mem_append.mp hx with q | q
  ·exact h x q
  ·rw[mem_singleton.mp q];exact hv
theorem cm.same {cs:List Str} (h:cm H kvs cs rm) (s : ∀a vs,H a=some (.tup vs)→H' a=some (.tup vs)):cm H' kvs cs rm:=fun c hc=>by
 obtain⟨a,e1,e2⟩:=h c hc;exact⟨a,e1,s _ _ e2⟩
noncomputable def lV {α:Type} (f:Str→α) (c:Str) (v:α):Str→α:=fun x=>if x=c then v else f x
noncomputable def wq:Sp:=fun vs H Q _=>∃(d l:Addr),vs=[.ref d]∧aD H d l∧∀(p:Addr) (ns:List Int) (H':Hp),H p=none→ns.length=5→ns.Pairwise (· < ·)→(∀x∈ns,-1000000≤x∧x≤1000000)→H' p=some (.lst (ns.map V.int))→aD H' d l→But d l H H'→Q (.ref p) H'
noncomputable def yq:Sp:=fun vs H Q _=>∃(d l a p:Addr) (ws:List Str) (ns:List Int) (m:Int),vs=[.ref d,.ref a,.ref p,.int m]∧aD H d l∧(a≠d∧a≠l)∧(p≠d∧p≠l)∧H a=some (.lst (ws.map V.str))∧ws.length≤45∧H p=some (.lst (ns.map V.int))∧ns.length=5∧ns.Pairwise (· < ·)∧1≤m∧m≤20 ∧
 ∀(r:Addr) (kvs:List (Key × V)) (rm:Str→List Int) (H':Hp),H r=none→H' r=some (.dK kvs)→cm H' kvs ws rm→(∀c∈ws,rm c≠[]∧((rm c).length:Int)≤m∧(rm c).Pairwise (· < ·)∧∀v∈rm c,v∈ns)→(∀x∈kvs,dQ x.2=true)→kvs.length≤2 * ws.length→aD H' d l→But d l H H'→Q (.ref r) H'
noncomputable def yx:Sp:=fun vs H Q _=>∃(d l a:Addr) (m:Int) (xs:List V),vs=[.ref d,.ref a,.int m]∧aD H d l∧uY H a xs∧0≤m∧m≤xs.length∧xs.length≤60 ∧
 ∀(p:Addr) (got rest:List V) (H':Hp),H p=none→(got++rest).Perm xs→m≤got.length→H' p=some (.tup got)→aD H' d l→But d l H H'→Q (.ref p) H'
theorem lay_ints : ∀ns:List Int,PyData.canLayAll0 (ns.map PyData.int)=true
 | []=>rfl
 | n :: ns=>by
  rw[map_cons];unfold PyData.canLayAll0;rw[lay_ints ns];rfl
theorem depth_ints : ∀ns:List Int,PyData.depthAll (ns.map PyData.int)=0
 | []=>rfl
 | n :: ns=>by
  rw[map_cons];unfold PyData.depthAll;rw[depth_ints ns];rfl
theorem tR (ns:List Int):PyData.eqv (.list (ns.map PyData.int)) (.list [])=decide (ns=[]):=by
 cases ns with
 | nil=>rfl
 | cons n ns=>simp[PyData.eqv,PyData.eqvAll]
theorem cm.putG {cs:List Str} {c:Str} (h:cm H kvs cs rm) (s : ∀a vs,H a=some (.tup vs)→H' a=some (.tup vs)) (ht:H' t=some (.tup (ns.map V.int))) (sub : ∀x∈cs',x=c∨x∈cs) :
  cm H' (br kvs (Sum.inr c) (.ref t)) cs' (lV rm c ns):=fun x hx=>by
 by_cases e:x=c
 ·subst e
  exact⟨t,by rw[nQ,if_pos rfl],by unfold lV;rw[if_pos rfl];exact ht⟩
 ·obtain⟨a,e1,e2⟩:=h x ((sub x hx).resolve_left e)
  exact⟨a,by rw[nQ,if_neg (fun z=>e (Sum.inr.inj z))];exact e1,by unfold lV;rw[if_neg e];exact s _ _ e2⟩
theorem gA (f:α→V) (inv:V→α) (hi : ∀x,inv (f x)=x) {got rest:List V} {xs:List α} (h:(got++rest).Perm (xs.map f)) : ∃ys zs:List α,got=ys.map f∧(ys++zs).Perm xs:=by
 refine⟨got.map inv,rest.map inv,?_,?_⟩
 ·rw[map_map]
  have : ∀v∈got,f (inv v)=v:=fun v hv=>by
   obtain⟨x,_,rfl⟩:=mem_map.mp (h.mem_iff.mp (mem_append_left _ hv));rw[hi]
  conv=>lhs;rw[← map_id got]
  exact map_congr_left fun v hv=>(this v hv).symm
 ·have:=h.map inv
  rw[map_append,map_map] at this;have e:xs.map (inv ∘ f)=xs:=by
   conv=>rhs;rw[← map_id xs]
   exact map_congr_left fun x _=>hi x
  rw[e] at this;exact this
noncomputable def EL:V→Str | .str s=>s | _ => ""
noncomputable def DO:V→Int | .int i=>i | _=>0
theorem qv (T:Txt w K mg base) (L:FnL K mg "_law_pool" gK ["_law_deal_here"]) (Fa : @Dz0 P w K mg base):Fn P w K mg base "_law_pool" 2 ["_law_deal_here"] (wq):=by
 ctx_has z qP <;> obtain⟨d,l,rfl,D,k⟩:=h
 ·rfl
 refine⟨_,(af (aC 1 (aN gH (ah Fa (aa (pvM 0) (aa ae ac))) ae))
  (af (aK (ay aR (ah Fa (aa (pvM 0) (aa ae ac))) ae) (ai (aC 1 (aN gH (ah Fa (aa (pvM 0) (aa ae ac))) ae))) az)
  (af (aC 2 (bA ac))
  (af (bE (bY rfl T.b_range (aa ae ac)) (aB 3) (af (bU (eG PySem.F.slot_list_append PySem.F.type_list_append bN (pvM 2) (aa (pvM 1) ac)))
  (ai (aC 1 (aN bw (aN bw (pvM 1) ae) (ak fI (bA (aa ae (aa (ah Fa (aa (pvM 0) (aa ae ac))) (aa ae ac)))) (ah Fa (aa (pvM 0) (aa ae ac)))))))))
  (ai (aA (pvM 2))))))),?_⟩
 ctx_has v
 refine aS D (by decide) (by decide) fun r H1 r0 r1 D1 B1=>?_
 ctx_has v
 refine aS D1 (by decide) (by decide) fun r2 H2 r20 r21 D2 B2=>?_
 ctx_has v
 refine cW (fun h=>?_) (fun h=>?_)
 ·refine aS D2 (by decide) (by decide) fun r3 H3 r30 r31 D3 B3=>?_
  have B3:=(B1.trans B2).trans B3;refine⟨_,rfl,by decide,fun p hp=>?_⟩
  have np:=D3.ne hp;have fp:H p=none:=B3.free D3 hp
  refine⟨by decide,by decide,?_⟩
  refine bW bL (fun i σ H'=>∃(ns:List Int) (low:Int) (vk:Option V),σ=[some (.ref d),some (.int low),some (.ref p),vk]∧ns.length=i∧ns.Pairwise (· < ·)∧(∀x∈ns,x < low∧-1000000≤x∧x≤1000000)∧-999500≤low∧low≤999500+98 * (i:Int)∧H' p=some (.lst (ns.map V.int))∧aD H' d l∧But d l H H')
   ⟨[],_,_,rfl,rfl,.nil,by simp,by omega,by omega,ab,D3.new hp,B3.new hp⟩ (fun _ _ _ _=>True.intro) ?_ ?_
  ·rintro i x σ H2 hi hx ⟨ns,low,vk,rfl,hlen,hpw,hall,lo0,lo1,h2,D2,B2⟩
   rw[aJ] at hi;have hi5:i < 5:=hi
   ctx_has v h2
   refine⟨by rw[length_map];exact ax (by omega),?_⟩
   refine aS (D2.put np.1 np.2) (by decide) (by decide) fun r3 H3 r30 r31 D3 B3=>?_
   refine⟨by decide,fun p2 hp2=>?_⟩
   refine jO D3 hp2 (by decide) (by decide) rfl fun r5 v H5 hv ha D5 B5 h5=>?_
   have h5p:=B5 p _ np.1 np.2 (B3 p _ np.1 np.2 ab);obtain⟨y,rfl,y0,y1⟩ : ∃y:Int,v = .int y∧0≤y∧y≤97:=by
    simp only[mem_cons,not_mem_nil,or_false] at hv;rcases hv with rfl | rfl | rfl
    ·exact⟨0,rfl,by decide,by decide⟩
    ·exact⟨r3,rfl,r30,by omega⟩
    ·exact⟨97,rfl,by decide,by decide⟩
   ctx_has v h5 ha
   refine⟨ns++[low],by simp;omega,?_,fun z hz=>?_,by omega,by omega,by rw[h5p];simp,D5,((B2.put fp).trans B3).trans B5⟩
   ·rw[List.pairwise_append]
    exact⟨hpw,List.pairwise_singleton _ _,fun x hx y hy=>by rw[mem_singleton.mp hy];exact(hall x hx).1⟩
   ·rcases mem_append.mp hz with q | q
    ·have:=hall z q;omega
    ·rw[mem_singleton.mp q];omega
  ·rintro σ H2 ⟨ns,low,vk,rfl,hlen,hpw,hall,lo0,lo1,h2,D2,B2⟩
   rw[aJ] at hlen;ctx_has v
   exact k p ns H2 fp hlen hpw (fun x hx=>(hall x hx).2) h2 D2 B2
 ·have B2:=B1.trans B2
  refine⟨by decide,fun p hp=>?_⟩
  have np:=D2.ne hp;have fp:H p=none:=B2.free D2 hp
  refine⟨by decide,by decide,?_⟩
  refine bW bL (fun i σ H'=>∃(ns:List Int) (low:Int) (vk:Option V),σ=[some (.ref d),some (.int low),some (.ref p),vk]∧ns.length=i∧ns.Pairwise (· < ·)∧(∀x∈ns,x < low∧-1000000≤x∧x≤1000000)∧-999500≤low∧low≤999500+98 * (i:Int)∧H' p=some (.lst (ns.map V.int))∧aD H' d l∧But d l H H')
   ⟨[],_,_,rfl,rfl,.nil,by simp,by omega,by omega,ab,D2.new hp,B2.new hp⟩ (fun _ _ _ _=>True.intro) ?_ ?_
  ·rintro i x σ H2 hi hx ⟨ns,low,vk,rfl,hlen,hpw,hall,lo0,lo1,h2,D2,B2⟩
   rw[aJ] at hi;have hi5:i < 5:=hi
   ctx_has v h2
   refine⟨by rw[length_map];exact ax (by omega),?_⟩
   refine aS (D2.put np.1 np.2) (by decide) (by decide) fun r3 H3 r30 r31 D3 B3=>?_
   refine⟨by decide,fun p2 hp2=>?_⟩
   refine jO D3 hp2 (by decide) (by decide) rfl fun r5 v H5 hv ha D5 B5 h5=>?_
   have h5p:=B5 p _ np.1 np.2 (B3 p _ np.1 np.2 ab);obtain⟨y,rfl,y0,y1⟩ : ∃y:Int,v = .int y∧0≤y∧y≤97:=by
    simp only[mem_cons,not_mem_nil,or_false] at hv;rcases hv with rfl | rfl | rfl
    ·exact⟨0,rfl,by decide,by decide⟩
    ·exact⟨r3,rfl,r30,by omega⟩
    ·exact⟨97,rfl,by decide,by decide⟩
   ctx_has v h5 ha
   refine⟨ns++[low],by simp;omega,?_,fun z hz=>?_,by omega,by omega,by rw[h5p];simp,D5,((B2.put fp).trans B3).trans B5⟩
   ·rw[List.pairwise_append]
    exact⟨hpw,List.pairwise_singleton _ _,fun x hx y hy=>by rw[mem_singleton.mp hy];exact(hall x hx).1⟩
   ·rcases mem_append.mp hz with q | q
    ·have:=hall z q;omega
    ·rw[mem_singleton.mp q];omega
  ·rintro σ H2 ⟨ns,low,vk,rfl,hlen,hpw,hall,lo0,lo1,h2,D2,B2⟩
   rw[aJ] at hlen;ctx_has v
   exact k p ns H2 fp hlen hpw (fun x hx=>(hall x hx).2) h2 D2 B2
abbrev Dz3:=Fn P w K mg base "_law_rooms" 2 ["_law_deal_here","_law_names_here","_law_pool_here","_law_most"] (yq)
theorem oI (T : Txt w K mg base) (L:FnL K mg "_law_rooms" eC ["_law_deal_here","_law_names_here","_law_pool_here","_law_most"]) (Fa : @Dz0 P w K mg base) : @Dz3 P w K mg base:=by
  ctx_has z oZ <;> obtain⟨d,l,a,p,ws,ns,m,rfl,D,na,np,ha,hwl,hp,hn5,hnp,m0,m1,k⟩:=h
  · rfl
  refine⟨_,(af (aC 4 cj)
    (af (bE (eY (K:=K) rfl (pvM 1)) (aB 5) (af (cg 6 (N:=["_law_value","_law_deal_here"]) (nt:=1) (js:=[0]) (aI ["_law_deal_here","_law_names_here","_law_pool_here","_law_most","_law_rooms_here","_law_name","_law_some_here"] (am eC).names) (eY (K:=K) rfl (pvM 2)) (aB 0) aQ (qX (ay aR (ah Fa (aa (pvM 1) (aa ae ac))) ae)) (pvM 0))
    (af (gG hu (pvM 4) (pvM 5) (aF aM T.b_tuple (aa (bI Dp (pvM 6) cA (bQ (pvM 3))) ac)) rfl)
    (ai (aK (ay (zk (pQ hr)) (pvM 6) (bA ac)) (ai (gG hu (pvM 4) (pvM 5) (aE (aa (ak fI (pvM 2) (ah Fa (aa (pvM 0) (aa ae ac)))) ac)) rfl)) az)))))
    (ai (aA (pvM 4))))),?_⟩
  ctx_has v
  intro q hq;have nq:=D.ne hq;have aq:a≠q:=aj ha hq
  have pq:p≠q:=aj hp hq
  refine⟨_,by rw[ag aq];exact ha,?_⟩
  refine bW cq (fun i σ H'=>∃(kvs:List (Key × V)) (rm:Str→List Int) (v5 v6:Option V),σ=[some (.ref d),some (.ref a),some (.ref p),some (.int m),some (.ref q),v5,v6]∧H' q=some (.dK kvs)∧cm H' kvs (ws.take i) rm ∧
      (∀c∈ws.take i,rm c≠[]∧((rm c).length:Int)≤m∧(rm c).Pairwise (· < ·)∧∀v∈rm c,v∈ns)∧(∀x∈kvs,dQ x.2=true)∧kvs.length≤2 * i∧H' a=some (.lst (ws.map V.str))∧H' p=some (.lst (ns.map V.int))∧aD H' d l∧But d l H H')
    ⟨[],fun _=>[],_,_,rfl,ab,fun c hc=>by simp at hc,fun c hc=>by simp at hc,by simp,zero_le _,by rw[ag aq];exact ha,by rw[ag pq];exact hp,D.new hq,(But.refl H).new hq⟩ (fun i σ H' zq35=>by obtain⟨_,_,_,_,_,_,_,_,_,_,h,_⟩:=zq35;exact(.of h)) ?_ ?_
  · rintro i x σ H2 hi hx ⟨kvs,rm,v5,v6,rfl,h2,hrf,hgd,hpl,hkl,h2a,h2p,D2,B2⟩
    rw[length_map] at hi;obtain⟨c,hcx,rfl⟩ : ∃c,ws[i]? = some c∧V.str c=x:=by
      rw[List.getElem?_map] at hx;cases e:ws[i]? with
      | none=>rw[e] at hx;cases hx
      | some nm=>rw[e] at hx;exact⟨nm,rfl,Option.some.inj hx⟩
    have etk:ws.take (i+1)=ws.take i++[c]:=by rw[take_add_one,hcx];rfl
    have hsub : ∀x∈ws.take (i+1),x=c∨x∈ws.take i:=fun x hx=>by
      rw[etk] at hx;rcases mem_append.mp hx with z | z
      · exact .inr z
      · exact .inl (mem_singleton.mp z)
    ctx_has v h2p
    intro g hg;have ng:=D2.ne hg;have fg:H g=none:=B2.free D2 hg
    refine cP cq (fun j ys H5=>∃got:List Int,ys=got.map V.int∧got.Sublist (ns.take j)∧H5 g=some (.lst ys)∧H5 p=some (.lst (ns.map V.int))∧(∀b o,b≠d→b≠l→H2 b=some o→H5 b=some o)∧aD H5 d l)
      ⟨[],rfl,by simp,ab,by rw[ag (aj h2p hg)];exact h2p,fun b o _ _ e=>by rw[ag (aj e hg)];exact e,D2.new hg⟩ (fun j ys H5 zq36=>by obtain⟨_,_,_,_,h,_⟩:=zq36;exact(.of h)) ?_ ?_
    · rintro j y ys H5 hj hy ⟨got,rfl,hgs,h5g,h5p,k5,D5⟩
      rw[length_map] at hj;obtain⟨z,hz,rfl⟩ : ∃z,ns[j]? = some z∧V.int z=y:=by
        rw[List.getElem?_map] at hy;cases e:ns[j]? with
        | none=>rw[e] at hy;cases hy
        | some nm=>rw[e] at hy;exact⟨nm,rfl,Option.some.inj hy⟩
      have en:ns.take (j+1)=ns.take j++[z]:=by rw[take_add_one,hz];rfl
      have hgl:got.length≤5:=le_trans hgs.length_le (by simp;omega)
      ctx_has v
      refine aS D5 (by decide) (by decide) fun r6 H6 r60 r61 D6 B6=>?_
      have h6g:=B6 g _ ng.1 ng.2 h5g;have h6p:=B6 p _ np.1 np.2 h5p;ctx_has v
      refine cW (fun hr1=>?_) (fun hr1=>?_)
      · refine⟨h6g,by rw[length_map];exact ax (by omega),got++[z],by simp,by rw[en];exact hgs.append_right [z],ab,by rw[ag (aj h2p hg)];exact h6p,fun b o h1 h2 e=>by rw[ag (aj e hg)];exact B6 b o h1 h2 (k5 b o h1 h2 e),D6.put ng.1 ng.2⟩
      · exact⟨got,rfl,by rw[en];exact hgs.trans (List.sublist_append_left _ _),h6g,h6p,fun b o h1 h2 e=>B6 b o h1 h2 (k5 b o h1 h2 e),D6⟩
    · rintro ys H5 ⟨got,rfl,hgs,h5g,h5p,k5,D5⟩
      rw[length_map] at hgs;rw[take_length] at hgs;ctx_has v h5g
      intro u hu1;refine⟨_,ab,fun t ht=>?_⟩
      obtain⟨mn,rfl⟩:=Int.eq_ofNat_of_zero_le (show 0≤m by omega)
      rw[lJ] at ht ⊢;have ut:u≠t:=by rintro rfl;rw[ab] at ht;cases ht
      have ht5:H5 t=none:=by rwa [ag ut.symm] at ht
      have s5:ao H5 (upd (upd H5 u (.lst ((got.take mn).map V.int))) t (.tup ((got.take mn).map V.int))):=(ao.upd0 hu1).upd_new ht
      have h5q:=k5 q _ nq.1 nq.2 h2;have h5a:=k5 a _ na.1 na.2 h2a;refine⟨kvs,s5 _ _ h5q,ax (by omega),?_⟩
      have tq:t≠q:=(aj h5q ht5).symm
      have ktup : ∀b vs,H2 b=some (.tup vs)→upd (upd (upd H5 u (.lst ((got.take mn).map V.int))) t (.tup ((got.take mn).map V.int))) q (.dK (br kvs (Sum.inr c) (.ref t))) b=some (.tup vs):=fun b vs e=>by
        obtain⟨m',sd,n',xs',hd',hl',_⟩:=D2.ex;rw[ag (bq e h2 (by intro z;cases z))]
        exact s5 _ _ (k5 b _ (bq e hd' (by intro z;cases z)) (bq e hl' (by intro z;cases z)) e)
      have hq6 : ∀b o,b≠q→H5 b=some o→upd (upd (upd H5 u (.lst ((got.take mn).map V.int))) t (.tup ((got.take mn).map V.int))) q (.dK (br kvs (Sum.inr c) (.ref t))) b=some o:=fun b o hb e=>by rw[ag hb];exact s5 _ _ e
      have gq:g≠q:=(aj h2 hg).symm
      have h6g:=hq6 g _ gq h5g;have h6a:=hq6 a _ aq h5a;have h6p:=hq6 p _ pq h5p;have D6:=(D5.same s5).put (o:=.dK (br kvs (Sum.inr c) (.ref t))) nq.1 nq.2;have B5:But d l H H5:=fun b o h1 h2 e=>k5 b o h1 h2 (B2 b o h1 h2 e)
      have B6:=(B5.same s5).put (o:=.dK (br kvs (Sum.inr c) (.ref t))) hq;have r6:cm (upd (upd (upd H5 u (.lst ((got.take mn).map V.int))) t (.tup ((got.take mn).map V.int))) q (.dK (br kvs (Sum.inr c) (.ref t)))) (br kvs (Sum.inr c) (.ref t)) (ws.take (i+1)) (lV rm c (got.take mn)):=hrf.putG ktup (by rw[ag tq];exact ab) hsub
      have h6q:upd (upd (upd H5 u (.lst ((got.take mn).map V.int))) t (.tup ((got.take mn).map V.int))) q (.dK (br kvs (Sum.inr c) (.ref t))) q=some (.dK (br kvs (Sum.inr c) (.ref t))):=ab
      have hk6:=cV kvs (Sum.inr c) (.ref t);have pl6:=pG (k:=Sum.inr c) (v:=V.ref t) hpl rfl;generalize hH6:upd (upd (upd H5 u (.lst ((got.take mn).map V.int))) t (.tup ((got.take mn).map V.int))) q (.dK (br kvs (Sum.inr c) (.ref t)))=H6 at h6g h6a h6p D6 B6 r6 h6q ⊢;generalize br kvs (Sum.inr c) (.ref t)=kv6 at r6 h6q hk6 pl6 ⊢;refine⟨by decide,fun e0 he0=>?_⟩
      have s7:ao H6 (upd H6 e0 (.lst [])):=ao.upd0 he0
      refine⟨.list (got.map PyData.int),.list [],.lst (.of (s7 _ _ h6g)) (cp.ints got),.lst (.of ab) .nil,by unfold PyData.canLay0;exact lay_ints got,rfl,by unfold PyData.depth;rw[depth_ints];decide,?_⟩
      rw[tR];have D7:=D6.new (o:=.lst []) he0;have B7:=B6.new (o:=.lst []) he0;refine⟨_,rfl,cW (fun hg0=>?_) (fun hg0=>?_)⟩
      · refine aS D7 (by decide) (by decide) fun r8 H8 r80 r81 D8 B8=>?_
        obtain⟨z,hz1,hz2⟩:=jz (xs:=ns) r80 (by omega)
        have hzV:atI (ns.map V.int) r8=some (V.int z):=by
          obtain⟨n,rfl⟩:=Int.eq_ofNat_of_zero_le r80;have hn:n < ns.length:=by omega
          have e1:ns[n]? = some z:=by
            have:=aO (xs:=ns) (j:=n) (v:=ns[n]) (by simp)
            rw[this] at hz1;rw[← hz1];simp
          exact aO (by rw[List.getElem?_map,e1];rfl)
        refine⟨r8,rfl,_,B8 p _ np.1 np.2 (s7 _ _ h6p),_,hzV,by decide,fun t2 ht2=>?_⟩
        have h8q:=B8 q _ nq.1 nq.2 (s7 _ _ h6q);have q2:t2≠q:=(aj h8q ht2).symm
        have s9:ao H8 (upd H8 t2 (.tup [V.int z])):=ao.upd0 ht2
        refine⟨kv6,s9 _ _ h8q,ax (by omega),?_⟩
        have kt : ∀b vs,H6 b=some (.tup vs)→upd (upd H8 t2 (.tup [V.int z])) q (.dK (br kv6 (Sum.inr c) (.ref t2))) b=some (.tup vs):=fun b vs e=>by
          rw[ag (bq e h6q (by intro z;cases z))]
          obtain⟨m',sd,n',xs',hd',hl',_⟩:=D6.ex;exact s9 _ _ (B8 b _ (bq e hd' (by intro z;cases z)) (bq e hl' (by intro z;cases z)) (s7 _ _ e))
        refine⟨_,ab,lV (lV rm c (got.take mn)) c [z],r6.putG (ns:=[z]) kt (by rw[ag q2];exact ab) (fun x hx=>.inr hx),fun x hx=>?_,pG pl6 rfl,le_trans (cV _ _ _) (by omega),?_,?_,(D8.new ht2).put nq.1 nq.2,((B7.trans B8).new ht2).put hq⟩
        · by_cases e:x=c
          · subst e
            unfold lV;rw[if_pos rfl];exact⟨by simp,by simp;omega,by simp,fun v hv=>by rw[mem_singleton.mp hv];exact hz2⟩
          · unfold lV
            rw[if_neg e,if_neg e];exact hgd x ((hsub x hx).resolve_left e)
        · rw[ag aq];exact s9 _ _ (B8 a _ na.1 na.2 (s7 _ _ h6a))
        · rw[ag pq];exact s9 _ _ (B8 p _ np.1 np.2 (s7 _ _ h6p))
      · refine⟨_,s7 _ _ h6q,lV rm c (got.take mn),r6.same (fun a vs e=>s7 _ _ e),fun x hx=>?_,pl6,by omega,s7 _ _ h6a,s7 _ _ h6p,D7,B7⟩
        by_cases e:x=c
        · subst e
          unfold lV;rw[if_pos rfl];have hne:got≠[]:=by simpa using hg0
          refine⟨?_,by simp;omega,?_,fun v hv=>hgs.subset (mem_of_mem_take hv)⟩
          · cases got with
            | nil=>exact absurd rfl hne
            | cons y ys =>
              obtain⟨k',rfl⟩ : ∃k',mn=k'+1:=⟨mn - 1,by omega⟩
              simp
          · exact(hnp.sublist hgs).sublist (take_sublist _ _)
        · unfold lV
          rw[if_neg e];exact hgd x ((hsub x hx).resolve_left e)
  · rintro σ H2 ⟨kvs,rm,v5,v6,rfl,h2,hrf,hgd,hpl,hkl,h2a,h2p,D2,B2⟩
    rw[length_map,take_length] at hrf hgd;rw[length_map] at hkl;ctx_has v
    exact k q kvs rm H2 hq h2 hrf hgd hpl hkl D2 B2
abbrev Dz4:=Fn P w K mg base "_law_some" 2 ["_law_deal_here","_law_things","_law_least"] (yx)
theorem ri (T:Txt w K mg base) (L:FnL K mg "_law_some" gV ["_law_deal_here","_law_things","_law_least"]) (Fa : @Dz0 P w K mg base) : @Dz4 P w K mg base:=by
 ctx_has z qg <;> obtain⟨d,l,a,m,xs,rfl,D,ha,m0,m1,hxl,k⟩:=h
 ·rfl
 refine⟨_,(af (aC 3 (aF iP T.b_list (aa (pvM 1) ac)))
  (af (aC 4 (bA ac))
  (af (bE (bY rfl T.b_range (aa (aN bw (pvM 2) (ah Fa (aa (pvM 0) (aa (aN bw (aN gH (aG bj T.b_len (aa (pvM 3) ac)) (pvM 2)) ae) ac)))) ac)) (aB 5) (ai (bU (eG PySem.F.slot_list_append PySem.F.type_list_append bN (pvM 4) (aa (eG PySem.F.slot_list_pop PySem.F.type_list_pop rX (pvM 3) (aa (ah Fa (aa (pvM 0) (aa (aG bj T.b_len (aa (pvM 3) ac)) ac))) ac)) ac)))))
  (ai (aA (aF aM T.b_tuple (aa (pvM 4) ac))))))),?_⟩
 ctx_has v
 refine⟨xs,ha,fun u hu1=>?_⟩
 have nu:=D.ne hu1;refine⟨by decide,fun g hg=>?_⟩
 have ug:u≠g:=by rintro rfl;rw[ab] at hg;cases hg
 have hg0:H g=none:=by rwa [ag ug.symm] at hg
 have ng:=D.ne hg0;have D1:=(D.new (o:=.lst xs) hu1).new (o:=.lst []) hg;have h1u:upd (upd H u (.lst xs)) g (.lst []) u=some (.lst xs):=by rw[ag ug];exact ab
 have h1g:upd (upd H u (.lst xs)) g (.lst []) g=some (.lst []):=ab
 have B1:But d l H (upd (upd H u (.lst xs)) g (.lst [])):=((But.refl H).new hu1).new hg
 generalize upd (upd H u (.lst xs)) g (.lst [])=H1 at D1 h1u h1g B1 ⊢;ctx_has v h1u
 refine aS D1 (by omega) (by omega) fun r H2 r0 r1 D2 B2=>?_
 refine⟨_,rfl,by omega,by omega,?_⟩
 refine bW bL (fun i σ H'=>∃(got rest:List V) (v5:Option V),σ=[some (.ref d),some (.ref a),some (.int m),some (.ref u),some (.ref g),v5]∧got.length=i∧(got++rest).Perm xs∧H' g=some (.lst got)∧H' u=some (.lst rest)∧aD H' d l∧But d l H H')
  ⟨[],xs,_,rfl,rfl,.refl _,B2 g _ ng.1 ng.2 h1g,B2 u _ nu.1 nu.2 h1u,D2,B1.trans B2⟩ (fun _ _ _ _=>True.intro) ?_ ?_
 ·rintro j y σ H5 hj hy ⟨got,rest,v5,rfl,hgl,hperm,h5g,h5u,D5,B5⟩
  rw[aJ] at hj;have hlr:got.length+rest.length=xs.length:=by rw[← length_append];exact hperm.length_eq
  ctx_has v h5g h5u
  refine aS D5 (by omega) (by omega) fun r6 H6 r60 r61 D6 B6=>?_
  have h6u:=B6 u _ nu.1 nu.2 h5u;have h6g:=B6 g _ ng.1 ng.2 h5g;ctx_has v h6u
  refine⟨r60,r61,by omega,fun z hz=>?_⟩
  have hlt:r6.toNat < rest.length:=(List.getElem?_eq_some_iff.mp hz).1
  refine⟨_,by rw[ag ug.symm];exact h6g,ax (by omega),got++[z],by simp;omega,rest.eraseIdx r6.toNat,?_,ab,by rw[ag ug];exact ab,(D6.put nu.1 nu.2).put ng.1 ng.2,((B5.trans B6).put hu1).put hg0⟩
  refine List.Perm.trans ?_ hperm
  rw[append_assoc];refine List.Perm.append_left got ?_
  rw[(List.getElem?_eq_some_iff.mp hz).2.symm];exact lP hlt
 ·rintro σ H5 ⟨got,rest,v5,rfl,hgl,hperm,h5g,h5u,D5,B5⟩
  rw[aJ] at hgl;ctx_has v h5g
  intro t ht;exact k t got rest _ (B5.free D5 ht) hperm (by omega) ab (D5.new ht) (B5.new ht)
noncomputable def bV:Option Int→V | none=>.non | some i=>.int i
noncomputable def lF (H:Hp) (t:Addr) (ts:List (Int × Str)):Prop:=∃as:List (Addr × Int × Str),H t=some (.tup (as.map fun x=>V.ref x.1))∧as.map (·.2)=ts∧∀x∈as,H x.1=some (.tup [.int x.2.1,.str x.2.2])
theorem lF.keep (h:lF H t ts) (k : ∀a xs,H a=some (.tup xs)→H' a=some (.tup xs)):lF H' t ts:=by
 obtain⟨as,h1,h2,h3⟩:=h;exact⟨as,k _ _ h1,h2,fun x hx=>k _ _ (h3 x hx)⟩
noncomputable def jM (H:Hp) (vs:List V) (ps:List (Int × Int × Int)):Prop:=∃as:List (Addr × Int × Int × Int),vs=as.map (fun x=>V.ref x.1)∧as.map (·.2)=ps∧∀x∈as,H x.1=some (.tup [.int x.2.1,.int x.2.2.1,.int x.2.2.2])
theorem jM.keep {ps:List (Int × Int × Int)} (h:jM H vs ps) (k : ∀a xs,H a=some (.tup xs)→H' a=some (.tup xs)):jM H' vs ps:=by
 obtain⟨as,h1,h2,h3⟩:=h;exact⟨as,h1,h2,fun x hx=>k _ _ (h3 x hx)⟩
inductive Wi | un (cs:List Str) | mn (av:List Int) (cs:List Str) (lo hi:Int) | sm (ts:List (Int × Str)) (lo hi:Option Int) | tb (cs:List Str) (rows:List (List Int)) | wy (cs:List Str) (ps:List (Int × Int × Int)) (es:List Int) | bh (cs:List Str) (gap:Int)
inductive Wx | pl (W:Wi) | sa (c:Str) (vs:List Int) (W:Wi)
noncomputable def WS (H:Hp) (w:Addr):Wi→Prop
 | .un cs=>∃c,H w=some (.tup [.str "unlike",.ref c])∧H c=some (.tup (cs.map V.str))
 | .mn av cs lo hi=>∃a c,H w=some (.tup [.str "many",.ref a,.ref c,.int lo,.int hi])∧H a=some (.tup (av.map V.int))∧H c=some (.tup (cs.map V.str))
 | .sm ts lo hi=>∃t,H w=some (.tup [.str "sum",.ref t,bV lo,bV hi])∧lF H t ts
 | .tb cs rows=>∃c t vs,H w=some (.tup [.str "table",.ref c,.ref t])∧H c=some (.tup (cs.map V.str))∧H t=some (.tup vs)∧dn H vs rows
 | .wy cs ps es=>∃c t e vs,H w=some (.tup [.str "way",.ref c,.ref t,.ref e])∧H c=some (.tup (cs.map V.str))∧H t=some (.tup vs)∧jM H vs ps∧H e=some (.tup (es.map V.int))
 | .bh cs gap=>∃c,H w=some (.tup [.str "behind",.ref c,.int gap])∧H c=some (.tup (cs.map V.str))
noncomputable def WX (H:Hp) (w:Addr):Wx→Prop
 | .pl W=>WS H w W
 | .sa c vs W=>∃t u,H w=some (.tup [.str "same",.str c,.ref t,.ref u])∧H t=some (.tup (vs.map V.int))∧WS H u W
theorem cK {w:Addr} {W:Wi} (h:WS H w W) (k : ∀a xs,H a=some (.tup xs)→H' a=some (.tup xs)):WS H' w W:=by
 cases W with
 | un cs=>obtain⟨c,h1,h2⟩:=h;exact⟨c,k _ _ h1,k _ _ h2⟩
 | mn av cs lo hi=>obtain⟨a,c,h1,h2,h3⟩:=h;exact⟨a,c,k _ _ h1,k _ _ h2,k _ _ h3⟩
 | sm ts lo hi=>obtain⟨t,h1,h2⟩:=h;exact⟨t,k _ _ h1,h2.keep k⟩
 | tb cs rows=>obtain⟨c,t,vs,h1,h2,h3,h4⟩:=h;exact⟨c,t,vs,k _ _ h1,k _ _ h2,k _ _ h3,h4.keep k⟩
 | wy cs ps es=>obtain⟨c,t,e,vs,h1,h2,h3,h4,h5⟩:=h;exact⟨c,t,e,vs,k _ _ h1,k _ _ h2,k _ _ h3,h4.keep k,k _ _ h5⟩
 | bh cs gap=>obtain⟨c,h1,h2⟩:=h;exact⟨c,k _ _ h1,k _ _ h2⟩
theorem bS {w:Addr} {W:Wx} (h:WX H w W) (k : ∀a xs,H a=some (.tup xs)→H' a=some (.tup xs)):WX H' w W:=by
 cases W with
 | pl W=>exact cK h k
 | sa c vs W=>obtain⟨t,u,h1,h2,h3⟩:=h;exact⟨t,u,k _ _ h1,k _ _ h2,cK h3 k⟩
noncomputable def ga:Wi→List Str
 | .un cs=>cs
 | .mn _ cs _ _=>cs
 | .sm ts _ _=>ts.map (·.2)
 | .tb cs _=>cs
 | .wy cs _ _=>cs
 | .bh cs _=>cs
noncomputable def yr:Wx→List Str
 | .pl W=>ga W
 | .sa c _ W=>c :: ga W
noncomputable def hZ:Wi→Str
 | .un _ => "unlike"
 | .mn _ _ _ _ => "many"
 | .sm _ _ _ => "sum"
 | .tb _ _ => "table"
 | .wy _ _ _ => "way"
 | .bh _ _ => "behind"
noncomputable def ja:List Str:=["unlike","many","sum","table","way","behind"]
noncomputable def qC:List Str := "same" :: ja
theorem om (W:Wi):hZ W∈ja:=by cases W <;> simp[ja,hZ]
theorem Gd {W:Wi} (h:hZ W = "unlike") : ∃cs,W = .un cs:=by
 cases W with
 | un cs=>exact⟨_,rfl⟩
 | _=>exact absurd h (show ¬ (Str.ofString _=Str.ofString _) by decide+kernel)
theorem Ez {W:Wi} (h:hZ W = "many") : ∃av cs lo hi,W = .mn av cs lo hi:=by
 cases W with
 | mn=>exact⟨_,_,_,_,rfl⟩
 | _=>exact absurd h (show ¬ (Str.ofString _=Str.ofString _) by decide+kernel)
theorem EH {W:Wi} (h:hZ W = "sum") : ∃ts lo hi,W = .sm ts lo hi:=by
 cases W with
 | sm=>exact⟨_,_,_,rfl⟩
 | _=>exact absurd h (show ¬ (Str.ofString _=Str.ofString _) by decide+kernel)
theorem EQ {W:Wi} (h:hZ W = "table") : ∃cs rows,W = .tb cs rows:=by
 cases W with
 | tb=>exact⟨_,_,rfl⟩
 | _=>exact absurd h (show ¬ (Str.ofString _=Str.ofString _) by decide+kernel)
theorem EO {W:Wi} (h:hZ W = "way") : ∃cs ps es,W = .wy cs ps es:=by
 cases W with
 | wy=>exact⟨_,_,_,rfl⟩
 | _=>exact absurd h (show ¬ (Str.ofString _=Str.ofString _) by decide+kernel)
theorem Eo {W:Wi} (h:hZ W = "behind") : ∃cs gap,W = .bh cs gap:=by
 cases W with
 | bh=>exact⟨_,_,rfl⟩
 | _=>exact absurd h (show ¬ (Str.ofString _=Str.ofString _) by decide+kernel)
section
variable {k2:Nat} {ps2:List Str} {sp2:Sp} {p:Pos} {t:TA}
theorem bX (F:Fn X.prog X.w X.K X.mg X.base x k ps sp) (G:Fn X.prog X.w X.K X.mg X.base x k2 ps2 sp2) (ha:PA X (e :: es) t) (hr:cu k X.A:=by exact cu.mono (by assumption) (by ctx_has m)) (hr2:cu k2 X.A:=by exact cu.mono (by assumption) (by ctx_has m)) (hg:Gl X x:=by exact rfl) (hdb:(x ==("__debug__" : Str))=false:=by decide)
  (he:starEach (e :: es) X.env=(false,eval e X.env) :: starEach es X.env:=by rfl) (hpl:(backTo pos (starEach es X.env)).any (·.1)=false:=by rfl) :
  PE X (.Call (.Name x p) (e :: es) [] pos) (rW (fun vs H Q E=>sp vs H Q E∨sp2 vs H Q E) [] E0 t):=by
 obtain⟨f,fd,F,m,kp,b⟩:=F;obtain⟨f2,fd2,G,m2,kp2,b2⟩:=G;have ef:f2=f:=by rw[m] at m2;cases m2;rfl
 subst ef;intro pins s σ H Q I h;refine wpAny_Call_Name_kw (qA I hg m ?_ hdb)
 refine callWith_K (h₀:=X.base) I.ok.mod.kin kp (thn (ha pos pins s σ H _ I h) fun us s1 ⟨vs,H1,I1,r,q⟩=>⟨I1.kIn,?_⟩) he hpl
 rcases q with q | q
 ·exact qM F hr b .nil wF I1 r q
 ·exact qM G hr2 b2 .nil wF I1 r q
theorem tF (L:FnL K mg x st ps):Fn P w K mg base x k ps (fun _ _ _ _=>False):=by
 obtain⟨f,fd,F,m,b⟩:=L;exact⟨f,fd,⟨fun _ _ _ _ h=>h.elim,fun _ _ _ _ _ _ _ _ _ _ _ _ _ h=>h.elim⟩,m,F.kp,b⟩
end
noncomputable def zO:Sp:=fun vs H Q _=>∃(d l:Addr) (lo hi:Int),vs=[.ref d,.int lo,.int hi]∧aD H d l∧lo≤hi∧-10000000000000≤lo∧hi≤10000000000000∧∀(p:Addr) (a b:Option Int) (H':Hp),H p=none→H' p=some (.tup [bV a,bV b])→aD H' d l→But d l H H'→Q (.ref p) H'
theorem Al {a v:Int} (a0 : -1000000≤a) (a1:a≤1000000) (v0 : -1000000≤v) (v1:v≤1000000) : -1000000000000≤a * v:=by
 have h1:a.natAbs≤1000000:=by omega
 have h2:v.natAbs≤1000000:=by omega
 have h3:(a * v).natAbs≤1000000 * 1000000:=by rw[Int.natAbs_mul];exact Nat.mul_le_mul h1 h2
 omega
theorem zg {a v:Int} (a0 : -1000000≤a) (a1:a≤1000000) (v0 : -1000000≤v) (v1:v≤1000000):a * v≤1000000000000:=by
 have h1:a.natAbs≤1000000:=by omega
 have h2:v.natAbs≤1000000:=by omega
 have h3:(a * v).natAbs≤1000000 * 1000000:=by rw[Int.natAbs_mul];exact Nat.mul_le_mul h1 h2
 omega
theorem md {D:Addr} {x:Int} {Q:VK} (h:H a=some (.tup (ns.map V.int))) (hx0 : -1000000≤x) (hx1:x≤1000000) (hl:ns.length≤20) (hD:H D=none) (q : ∀H',ao H H'→H' D=some (.lst ((ns.map fun v=>x * v).map V.int))→Q (.ref D) H') :
  my (Itt K a) [none,some (V.int x)] (eV 0) tP (tOp (rI zI fun i j=>V.int (i * j)) (eP 1) (eP 0)) Q H D:=by
 refine cT aW (fun v=>match v with | .int i=>.int (x * i) | _=>.non) hD (fun H' s=>.of (s _ _ h)) (by simp;omega) ?_ ?_
 ·intro y H2 Q2 hy sm q2
  obtain⟨z,hz,rfl⟩:=mem_map.mp hy;ctx_has v
  exact⟨.inl ⟨by omega,by omega⟩,q2 H2 (ao.refl _)⟩
 ·intro H2 sm e2
  refine q H2 sm ?_
  rw[e2,map_map,map_map];rfl
noncomputable def BF:Sp:=fun vs H Q _=>∃(d l sa ra:Addr) (cs:List Str) (kvs:List (Key × V)) (rm:Str→List Int),vs=[.ref d,.ref sa,.ref ra]∧aD H d l∧(ra≠d∧ra≠l)∧H sa=some (.tup (cs.map V.str))∧H ra=some (.dK kvs)∧cm H kvs cs rm∧cs.length≤12∧(∀c∈cs,rm c≠[]∧(rm c).length≤20∧∀v∈rm c,-1000000≤v∧v≤1000000) ∧
 ∀(w:Addr) (ts:List (Int × Str)) (lo hi:Option Int) (H':Hp),H w=none→WS H' w (.sm ts lo hi)→ts.map (·.2)=cs.take 4→(∀x∈ts,-1000000≤x.1∧x.1≤1000000∧x.1≠0)→aD H' d l→But d l H H'→Q (.ref w) H'
theorem aD.tupN (D:aD H d l) (h:H a=some (.tup vs)):a≠d∧a≠l:=by
 obtain⟨m',sd,n',xs',hd',hl',_⟩:=D.ex;exact⟨bq h hd' (by intro z;cases z),bq h hl' (by intro z;cases z)⟩
theorem But.tup {H H':Hp} {d l a:Addr} {vs:List V} (B:But d l H H') (D:aD H d l) (h:H a=some (.tup vs)):H' a=some (.tup vs):=B a _ (D.tupN h).1 (D.tupN h).2 h
abbrev Dz5:=Fn P w K mg base "_law_bounds" 2 ["_law_deal_here","_law_low","_law_high"] (zO)
theorem mj (T:Txt w K mg base) (L:FnL K mg "_law_bounds" fj ["_law_deal_here","_law_low","_law_high"]) (Fa : @Dz0 P w K mg base) : @Dz5 P w K mg base:=by
 ctx_has z oo <;> obtain⟨d,l,lo,hi,rfl,D,hle,lo0,hi0,k⟩:=h
 ·rfl
 refine⟨_,(af (aC 3 (aN bw (pvM 1) (ah Fa (aa (pvM 0) (aa (aN bw (aN gH (pvM 2) (pvM 1)) ae) ac)))))
  (af (aC 4 (aN bw (pvM 3) (ah Fa (aa (pvM 0) (aa (aN bw (aN gH (pvM 2) (pvM 3)) ae) ac)))))
  (ai (aA (ak fI (bA (aa (aE (aa (pvM 3) (aa (pvM 4) ac))) (aa (aE (aa (pvM 3) (aa (pvM 3) ac))) (aa (aE (aa (pvM 3) (aa iX ac))) (aa (aE (aa iX (aa (pvM 4) ac))) ac))))) (ah Fa (aa (pvM 0) (aa ae ac)))))))),?_⟩
 ctx_has v
 refine aS D (by omega) (by omega) fun r1 H1 r10 r11 D1 B1=>?_
 ctx_has v
 refine aS D1 (by omega) (by omega) fun r2 H2 r20 r21 D2 B2=>?_
 ctx_has v
 refine⟨by decide,fun p1 g1=>⟨by decide,fun p2 g2=>⟨by decide,fun p3 g3=>⟨by decide,fun p4 g4=>⟨by decide,fun q gq=>?_⟩⟩⟩⟩⟩
 have s4:=(((ao.upd0 (o:=.tup [.int (lo+r1),.int (lo+r1+r2)]) g1).upd_new (o:=.tup [.int (lo+r1),.int (lo+r1)]) g2).upd_new (o:=.tup [.int (lo+r1),.non]) g3).upd_new (o:=.tup [.non,.int (lo+r1+r2)]) g4;have e12:p1≠p2:=fun z=>by rw[z,ab] at g2;cases g2
 have e13:p1≠p3:=fun z=>by rw[← z,ag e12,ab] at g3;cases g3
 have e23:p2≠p3:=fun z=>by rw[← z,ab] at g3;cases g3
 have e14:p1≠p4:=fun z=>by rw[← z,ag e13,ag e12,ab] at g4;cases g4
 have e24:p2≠p4:=fun z=>by rw[← z,ag e23,ab] at g4;cases g4
 have e34:p3≠p4:=fun z=>by rw[← z,ab] at g4;cases g4
 have h1:upd (upd (upd (upd H2 p1 (.tup [.int (lo+r1),.int (lo+r1+r2)])) p2 (.tup [.int (lo+r1),.int (lo+r1)])) p3 (.tup [.int (lo+r1),.non])) p4 (.tup [.non,.int (lo+r1+r2)]) p1=some (.tup [.int (lo+r1),.int (lo+r1+r2)]):=by rw[ag e14,ag e13,ag e12,ab]
 have h2:upd (upd (upd (upd H2 p1 (.tup [.int (lo+r1),.int (lo+r1+r2)])) p2 (.tup [.int (lo+r1),.int (lo+r1)])) p3 (.tup [.int (lo+r1),.non])) p4 (.tup [.non,.int (lo+r1+r2)]) p2=some (.tup [.int (lo+r1),.int (lo+r1)]):=by rw[ag e24,ag e23,ab]
 have h3:upd (upd (upd (upd H2 p1 (.tup [.int (lo+r1),.int (lo+r1+r2)])) p2 (.tup [.int (lo+r1),.int (lo+r1)])) p3 (.tup [.int (lo+r1),.non])) p4 (.tup [.non,.int (lo+r1+r2)]) p3=some (.tup [.int (lo+r1),.non]):=by rw[ag e34,ab]
 have h4:upd (upd (upd (upd H2 p1 (.tup [.int (lo+r1),.int (lo+r1+r2)])) p2 (.tup [.int (lo+r1),.int (lo+r1)])) p3 (.tup [.int (lo+r1),.non])) p4 (.tup [.non,.int (lo+r1+r2)]) p4=some (.tup [.non,.int (lo+r1+r2)]):=ab
 have f1:H p1=none:=(B1.trans B2).free D2 g1
 have f2:H p2=none:=((B1.trans B2).new g1).free (D2.new g1) g2
 have f3:H p3=none:=(((B1.trans B2).new g1).new g2).free ((D2.new g1).new g2) g3
 have f4:H p4=none:=((((B1.trans B2).new g1).new g2).new g3).free (((D2.new g1).new g2).new g3) g4
 have D4:=D2.same s4;have B4:=(B1.trans B2).same s4;generalize upd (upd (upd (upd H2 p1 (.tup [.int (lo+r1),.int (lo+r1+r2)])) p2 (.tup [.int (lo+r1),.int (lo+r1)])) p3 (.tup [.int (lo+r1),.non])) p4 (.tup [.non,.int (lo+r1+r2)])=H4 at gq h1 h2 h3 h4 D4 B4 ⊢;refine jO D4 gq (by decide) (by decide) rfl fun r5 v H5 hv ha D5 B5 h5=>?_
 ctx_has v h5 ha
 have nt : ∀{p:Addr} {vs:List V},H4 p=some (.tup vs)→H5 p=some (.tup vs):=fun h=>B5 _ _ (D4.tupN h).1 (D4.tupN h).2 h
 have B05:=B4.trans B5;simp only[mem_cons,not_mem_nil,or_false] at hv;rcases hv with rfl | rfl | rfl | rfl
 ·exact k p1 (some _) (some _) H5 f1 (nt h1) D5 B05
 ·exact k p2 (some _) (some _) H5 f2 (nt h2) D5 B05
 ·exact k p3 (some _) none H5 f3 (nt h3) D5 B05
 ·exact k p4 none (some _) H5 f4 (nt h4) D5 B05
abbrev Dz6:=Fn P w K mg base "_law_sum" 3 ["_law_deal_here","_law_some_here","_law_rooms_here"] (BF)
abbrev nz0:List Str:=["_law_deal_here","_law_some_here","_law_rooms_here","_law_terms","_law_low","_law_high","_law_name","_law_a"]
theorem tW (T : Txt w K mg base) (L:FnL K mg "_law_sum" eK ["_law_deal_here","_law_some_here","_law_rooms_here"]) (Fa : @Dz0 P w K mg base) (FI : @Dz5 P w K mg base) : @Dz6 P w K mg base:=by
  ctx_has z sH <;> obtain⟨d,l,sa,ra,cs,kvs,rm,rfl,D,nra,hsa,hra,hrf,hcl,hgd,k⟩:=h
  · rfl
  refine⟨_,(af (aC 3 (bA ac))
    (af (aC 4 ae)
    (af (aC 5 ae)
    (af (bE (cU K (bI nV (pvM 1) cA (bQ ae))) (aB 6) (af (aC 7 (ak fI (bA (aa ae (aa ae (aa (iK fB ae) (aa ae (aa (iK fB ae) (aa ae ac))))))) (ah Fa (aa (pvM 0) (aa ae ac)))))
    (af (bU (eG PySem.F.slot_list_append PySem.F.type_list_append bN (pvM 3) (aa (aE (aa (pvM 7) (aa (pvM 6) ac))) ac)))
    (af (aC 4 (aN bw (pvM 4) (aG (xt rfl) T.b_min (aa (bn (N:=["_law_value","_law_a"]) (nt:=1) (js:=[7]) (aI nz0 (am eK).names) (cU K (gw hu (pvM 2) (pvM 6))) (aB 0) aQ aV (aN gX (pvM 1) (pvM 0))) ac))))
    (ai (aC 5 (aN bw (pvM 5) (aG (xj rfl) T.b_max (aa (bn (N:=["_law_value","_law_a"]) (nt:=1) (js:=[7]) (aI nz0 (am eK).names) (cU K (gw hu (pvM 2) (pvM 6))) (aB 0) aQ aV (aN gX (pvM 1) (pvM 0))) ac)))))))))
    (af (qS (ah FI (aa (pvM 0) (aa (pvM 4) (aa (pvM 5) ac)))) (du (n:=2) rfl (aY (aB 4) (aY (aB 5) cY))))
    (ai (aA (aE (aa au (aa (aF aM T.b_tuple (aa (pvM 3) ac)) (aa (pvM 4) (aa (pvM 5) ac)))))))))))),?_⟩
  ctx_has v
  refine⟨by decide,fun p hp=>?_⟩
  have np:=D.ne hp;refine⟨_,by rw[ag (aj hsa hp)];exact hsa,fun q H1 hq s1=>⟨_,hq,?_⟩⟩
  rw[show dN (cs.map V.str) none (some 4)=(cs.take 4).map V.str from lJ V.str cs 4] at hq
  have s01:=(ao.upd0 (o:=.lst []) hp).trans s1;have D1:=D.same s01;refine bW aW (fun i σ H'=>∃(as:List (Addr × Int × Str)) (lo hi:Int) (v6 v7:Option V),σ=[some (.ref d),some (.ref sa),some (.ref ra),some (.ref p),some (.int lo),some (.int hi),v6,v7]∧H' p=some (.lst (as.map fun x=>V.ref x.1))∧(∀x∈as,H' x.1=some (.tup [.int x.2.1,.str x.2.2]))∧as.map (·.2.2)=(cs.take 4).take i∧(∀x∈as,-1000000≤x.2.1∧x.2.1≤1000000∧x.2.1≠0)∧lo≤hi∧-(1000000000000 * (i:Int))≤lo∧hi≤1000000000000 * (i:Int)∧H' q=some (.tup ((cs.take 4).map V.str))∧aD H' d l∧But d l H H')
    ⟨[],0,0,_,_,rfl,s1 _ _ ab,by simp,by simp,by simp,by decide,by decide,by decide,hq,D1,(But.refl H).same s01⟩ (fun i σ H' zq37=>by obtain⟨_,_,_,_,_,_,_,_,_,_,_,_,_,h,_⟩:=zq37;exact(.of h)) ?_ ?_
  · rintro i x σ H2 hi hx ⟨as,lo,hig,v6,v7,rfl,h2p,h2a,hnm,hbd,hlh,hl0,hh0,h2q,D2,B2⟩
    rw[length_map] at hi;obtain⟨c,hcx,rfl⟩ : ∃c,(cs.take 4)[i]? = some c∧V.str c=x:=by
      rw[List.getElem?_map] at hx;cases e:(cs.take 4)[i]? with
      | none=>rw[e] at hx;cases hx
      | some nm=>rw[e] at hx;exact⟨nm,rfl,Option.some.inj hx⟩
    have hcm:c∈cs:=mem_of_mem_take (mem_of_getElem? hcx)
    have hi4 : i < 4 := by have:(cs.take 4).length≤4:=by simp;omega
                           omega
    have hal:as.length≤i:=by
      have:=congrArg List.length hnm
      rw[length_map] at this;rw[this];exact List.length_take_le _ _
    ctx_has v
    refine⟨by decide,fun t ht=>?_⟩
    refine jO D2 ht (by decide) (by decide) rfl fun r v H3 hv ha D3 B3 h3=>?_
    obtain⟨a,rfl,a0,a1,an⟩ : ∃a:Int,v = .int a∧-1000000≤a∧a≤1000000∧a≠0:=by
      simp only[mem_cons,not_mem_nil,or_false] at hv;rcases hv with rfl | rfl | rfl | rfl | rfl | rfl
      · exact⟨1,rfl,by decide,by decide,by decide⟩
      · exact⟨1,rfl,by decide,by decide,by decide⟩
      · exact⟨-1,rfl,by decide,by decide,by decide⟩
      · exact⟨2,rfl,by decide,by decide,by decide⟩
      · exact⟨-3,rfl,by decide,by decide,by decide⟩
      · exact⟨1000000,rfl,by decide,by decide,by decide⟩
    have h3p:=B3 p _ np.1 np.2 h2p;ctx_has v h3 ha
    obtain⟨ar,hva,har⟩:=hrf c hcm;have hg:=hgd c hcm;have rp:ra≠p:=aj hra hp
    refine⟨⟨_,h3p⟩,by decide,fun tp htp=>⟨_,(ao.upd0 htp) _ _ h3p,by rw[length_map];exact ax (by omega),?_⟩⟩
    have pt:p≠tp:=aj h3p htp
    have B3':=(B2.trans B3).new (o:=.tup [.int a,.str c]) htp;have B4:=B3'.put (o:=.lst (as.map (fun x=>V.ref x.1)++[.ref tp])) hp
    have D4:=(D3.new (o:=.tup [.int a,.str c]) htp).put (o:=.lst (as.map (fun x=>V.ref x.1)++[.ref tp])) np.1 np.2
    have kt : ∀b xs,H2 b=some (.tup xs)→upd (upd H3 tp (.tup [.int a,.str c])) p (.lst (as.map (fun x=>V.ref x.1)++[.ref tp])) b=some (.tup xs):=fun b xs e=>by
      rw[ag (bq e h2p (by intro z;cases z))]
      exact(ao.upd0 htp) _ _ (B3.tup D2 e)
    have h4tp:upd (upd H3 tp (.tup [.int a,.str c])) p (.lst (as.map (fun x=>V.ref x.1)++[.ref tp])) tp=some (.tup [.int a,.str c]):=by rw[ag pt.symm];exact ab
    have h4p:upd (upd H3 tp (.tup [.int a,.str c])) p (.lst (as.map (fun x=>V.ref x.1)++[.ref tp])) p=some (.lst (as.map (fun x=>V.ref x.1)++[.ref tp])):=ab
    have h4ra:=B4 ra _ nra.1 nra.2 hra;have h4ar:=B4.tup D har;generalize upd (upd H3 tp (.tup [.int a,.str c])) p (.lst (as.map (fun x=>V.ref x.1)++[.ref tp]))=H4 at B4 D4 kt h4tp h4p h4ra h4ar ⊢
    have hne:(rm c).map (fun v=>a * v)≠[]:=by simp;exact hg.1
    refine⟨kvs,h4ra,_,hva,ar,rfl,_,h4ar,fun D5 g5=>md h4ar a0 a1 hg.2.1 g5 fun H5 s5 e5=>⟨D5,rfl,_,e5,hne,fun m hm hmin=>⟨kvs,s5 _ _ h4ra,_,hva,ar,rfl,_,s5 _ _ h4ar,fun D6 g6=>md (s5 _ _ h4ar) a0 a1 hg.2.1 g6 fun H6 s6 e6=>⟨D6,rfl,_,e6,hne,fun M hM hmax=>?_⟩⟩⟩⟩
    have s46:=s5.trans s6;obtain⟨v1,hv1,em⟩:=mem_map.mp hm;obtain⟨v2,hv2,eM⟩:=mem_map.mp hM;have b1:=hg.2.2 v1 hv1;have b2:=hg.2.2 v2 hv2;have hmb : -1000000000000≤m:=by rw[← em];exact Al a0 a1 b1.1 b1.2
    have hMb:M≤1000000000000:=by rw[← eM];exact zg a0 a1 b2.1 b2.2
    have hmM:=hmin M hM;refine⟨as++[(tp,a,c)],by rw[s46 _ _ h4p];simp,fun x hx=>?_,?_,fun x hx=>?_,by omega,by push_cast;omega,by push_cast;omega,s46 _ _ (kt _ _ h2q),D4.same s46,B4.same s46⟩
    · rcases mem_append.mp hx with z | z
      · exact s46 _ _ (kt _ _ (h2a x z))
      · rw[mem_singleton.mp z];exact s46 _ _ h4tp
    · rw[take_add_one,hcx,map_append,hnm];rfl
    · rcases mem_append.mp hx with z | z
      · exact hbd x z
      · rw[mem_singleton.mp z];exact⟨a0,a1,an⟩
  · rintro σ H2 ⟨as,lo,hig,v6,v7,rfl,h2p,h2a,hnm,hbd,hlh,hl0,hh0,h2q,D2,B2⟩
    have hil:((cs.take 4).map V.str).length≤4:=by simp;omega
    rw[take_of_length_le (le_of_eq (by simp):(cs.take 4).length≤((cs.take 4).map V.str).length)] at hnm
    ctx_has v
    refine⟨d,l,lo,hig,rfl,D2,hlh,by omega,by omega,fun u b1 b2 H3 fu h3u D3 B3=>?_⟩
    have h3p:=B3 p _ np.1 np.2 h2p;ctx_has v h3u h3p
    intro t ht;have s4:=ao.upd0 (o:=.tup (as.map fun x=>V.ref x.1)) ht
    refine⟨by decide,fun w hw=>?_⟩
    have s5:=s4.upd_new (o:=.tup [.str "sum",.ref t,bV b1,bV b2]) hw;have tw:t≠w:=fun z=>by rw[← z,ab] at hw;cases hw
    refine k w (as.map (·.2)) b1 b2 _ ?_ ⟨t,ab,as,by rw[ag tw,ab],rfl,fun x hx=>s5 _ _ (B3.tup D2 (h2a x hx))⟩ ?_ (fun x hx=>?_) (D3.same s5) ((B2.trans B3).same s5)
    · exact((B2.trans B3).same s4).free (D3.same s4) hw
    · rw[map_map];exact hnm
    · obtain⟨y,hy,rfl⟩:=mem_map.mp hx
      exact hbd y hy
noncomputable def Ac:Sp:=fun vs H Q _=>∃(d l sa pa:Addr) (cs:List Str) (ns:List Int),vs=[.ref d,.ref sa,.ref pa]∧aD H d l∧(pa≠d∧pa≠l)∧H sa=some (.tup (cs.map V.str))∧H pa=some (.lst (ns.map V.int))∧ns.length=5∧cs.length≤12 ∧
 ∀(p:Addr) (us:List V) (rows:List (List Int)) (H':Hp),H p=none→H' p=some (.tup us)→dn H' us rows→rows.Nodup→(∀r∈rows,r.length=cs.length)→rows.length≤7→aD H' d l→But d l H H'→Q (.ref p) H'
theorem wm {xs:List α} {r:Int} (r0:0≤r) (r1:r < (xs.length:Int)) (f:α→V) : ∃x∈xs,atI (xs.map f) r=some (f x):=by
 obtain⟨n,rfl⟩:=Int.eq_ofNat_of_zero_le r0;have hn:n < xs.length:=by omega
 exact⟨xs[n],List.getElem_mem hn,aO (by simp[hn])⟩
abbrev Dz7:=Fn P w K mg base "_law_rows" 2 ["_law_deal_here","_law_some_here","_law_pool_here"] (Ac)
theorem qf (T:Txt w K mg base) (L:FnL K mg "_law_rows" eQ ["_law_deal_here","_law_some_here","_law_pool_here"]) (Fa : @Dz0 P w K mg base) : @Dz7 P w K mg base:=by
 ctx_has z qq <;> obtain⟨d,l,sa,pa,cs,ns,rfl,D,npa,hsa,hpa,hn5,hcl,k⟩:=h
 ·rfl
 refine⟨_,(af (aC 3 (bA ac))
  (af (bE (bY rfl T.b_range (aa (ah Fa (aa (pvM 0) (aa ae ac))) ac)) (aB 4) (af (aC 5 (aF aM T.b_tuple (aa (bn (N:=["_law_name","_law_pool_here","_law_deal_here"]) (nt:=1) (js:=[2,0]) (aI ["_law_deal_here","_law_some_here","_law_pool_here","_law_rows_here","_law_k","_law_row"] (am eQ).names) (je (K:=K) rfl (pvM 1)) (aB 0) aQ aV (ak fI (pvM 1) (ah Fa (aa (pvM 2) (aa ae ac))))) ac)))
  (ai (aK (ay (jb (rN hr)) (pvM 5) (pvM 3)) (ai (bU (eG PySem.F.slot_list_append PySem.F.type_list_append bN (pvM 3) (aa (pvM 5) ac)))) az))))
  (ai (aA (aF aM T.b_tuple (aa (pvM 3) ac)))))),?_⟩
 ctx_has v
 refine⟨by decide,fun g hg=>?_⟩
 have ng:=D.ne hg;refine aS (D.new hg) (by decide) (by decide) fun n H1 n0 n1 D1 B1=>⟨_,rfl,by omega,by omega,?_⟩
 have B1':=((But.refl H).new (o:=.lst []) hg).trans B1;refine bW bL (fun i σ H'=>∃(us:List V) (rows:List (List Int)) (v4 v5:Option V),σ=[some (.ref d),some (.ref sa),some (.ref pa),some (.ref g),v4,v5]∧H' g=some (.lst us)∧dn H' us rows∧rows.Nodup∧(∀r∈rows,r.length=cs.length)∧rows.length≤i∧aD H' d l∧But d l H H')
  ⟨[],[],_,_,rfl,B1 g _ ng.1 ng.2 ab,dn.nil,by simp,by simp,by simp,D1,B1'⟩ (fun _ _ _ _=>True.intro) ?_ ?_
 ·rintro i x σ H2 hi hx ⟨us,rows,v4,v5,rfl,h2,hrv,hnd,hrl,hlen,D2,B2⟩
  rw[aJ] at hi;have h2s:=(But.keepTI B2 D).tup _ _ hsa;ctx_has v h2s
  intro q hq;have nq:=D2.ne hq;refine cP aW (fun j ys H3=>∃vs:List Int,ys=vs.map V.int∧vs.length=j∧H3 q=some (.lst ys)∧(∀b o,b≠d→b≠l→b≠q→H2 b=some o→H3 b=some o)∧aD H3 d l)
   ⟨[],rfl,rfl,ab,fun b o _ _ hb e=>by rw[ag hb];exact e,D2.new hq⟩ (fun j ys H3 ⟨_,_,_,h,kk,_⟩=>.of (by
    obtain⟨m',sd,n',xs',hd',hl',_⟩:=D2.ex;exact kk sa _ (bq h2s hd' (by intro z;cases z)) (bq h2s hl' (by intro z;cases z)) (aj h2s hq) h2s)) ?_ ?_
  ·rintro j y ys H3 hj hy ⟨vs,rfl,hvl,h3,k3,D3⟩
   rw[length_map] at hj;ctx_has v
   refine aS D3 (by decide) (by decide) fun r4 H4 r40 r41 D4 B4=>?_
   have h4p:=B4 pa _ npa.1 npa.2 (k3 pa _ npa.1 npa.2 (aj (B2 pa _ npa.1 npa.2 hpa) hq) (B2 pa _ npa.1 npa.2 hpa));obtain⟨z,_,hz⟩:=wm (xs:=ns) r40 (by omega) V.int
   refine⟨r4,rfl,_,h4p,_,hz,B4 q _ nq.1 nq.2 h3,by rw[length_map];exact ax (by omega),vs++[z],by simp,by simp;omega,ab,fun b o h1 h2 h3 e=>by rw[ag h3];exact B4 b o h1 h2 (k3 b o h1 h2 h3 e),D4.put nq.1 nq.2⟩
  ·rintro ys H3 ⟨vs,rfl,hvl,h3,k3,D3⟩
   rw[length_map] at hvl;ctx_has v h3
   intro t ht;have s4:ao H3 (upd H3 t (.tup (vs.map V.int))):=ao.upd0 ht
   have B3:But d l H2 H3:=fun b o h1 h2 e=>k3 b o h1 h2 (aj e hq) e
   have B34:=(B2.trans B3).same s4;have D4:=D3.same s4;have h4g:=s4 _ _ (B3 g _ ng.1 ng.2 h2);have hrv4:=hrv.keep fun a xs e=>s4 _ _ ((But.keepTI B3 D2).tup _ _ e)
   refine uD ab h4g hrv4 ⟨_,rfl,?_⟩
   refine cW (fun hin=>?_) (fun hin=>?_)
   ·have hni:vs∉rows:=by simpa using hin
    have hk : ∀a xs,upd H3 t (.tup (vs.map V.int)) a=some (.tup xs)→upd (upd H3 t (.tup (vs.map V.int))) g (.lst (us++[.ref t])) a=some (.tup xs):=fun a xs e=>by rw[ag (bq e h4g (by intro z;cases z))];exact e
    refine⟨⟨_,h4g⟩,us,h4g,by rw[hrv.length];exact ax (by omega),us++[.ref t],ab,rows++[vs],(hrv4.keep hk).snoc (hk _ _ ab),nodup_append.mpr ⟨hnd,by simp,fun a ha b hb e=>hni (by rw[mem_singleton.mp hb] at e;exact e ▸ ha)⟩,fun r hr=>?_,by simp;omega,D4.put ng.1 ng.2,B34.put hg⟩
    rcases mem_append.mp hr with z | z
    ·exact hrl r z
    ·rw[mem_singleton.mp z];exact hvl
   ·exact⟨us,h4g,rows,hrv4,hnd,hrl,by omega,D4,B34⟩
 ·rintro σ H2 ⟨us,rows,v4,v5,rfl,h2,hrv,hnd,hrl,hlen,D2,B2⟩
  rw[aJ] at hlen;ctx_has v h2
  intro t ht;have s3:ao H2 (upd H2 t (.tup us)):=ao.upd0 ht
  exact k t us rows _ (B2.free D2 ht) ab (hrv.keep fun a xs e=>s3 _ _ e) hnd hrl (by omega) (D2.same s3) (B2.same s3)
noncomputable def gQ (pool:List Int) (n:Nat):List (Int × Int):=List.flatMap (fun s:Nat=>pool.map fun v=>((s:Int),v)) (range n)
theorem iV (pool:List Int) (n:Nat):gQ pool (n+1)=gQ pool n++pool.map fun v=>((n:Int),v):=by
 unfold gQ;rw[List.range_succ,List.flatMap_append];simp
theorem xT {x:Int × Int} (h:x∈gQ pool n):x.1 < (n:Int):=by
 unfold gQ at h;obtain⟨s,hs,hx⟩:=List.mem_flatMap.mp h;obtain⟨v,_,rfl⟩:=mem_map.mp hx;have:=mem_range.mp hs
 show(s:Int) < n
 omega
theorem kL {pool:List Int} (h:pool.Nodup) : ∀n,(gQ pool n).Nodup
 | 0=>by simp[gQ]
 | n+1=>by
  rw[iV,nodup_append];refine⟨kL h n,pairwise_map.mpr (h.imp fun hne z=>hne (by cases z;rfl)),fun a ha b hb e=>?_⟩
  subst e;obtain⟨v,_,rfl⟩:=mem_map.mp hb;have:=xT ha
  simp at this
theorem ke (pool:List Int) : ∀n,(gQ pool n).length=n * pool.length
 | 0=>by simp[gQ]
 | n+1=>by rw[iV,length_append,ke pool n,length_map,Nat.succ_mul]
noncomputable def Bo (x:Addr × Int × Int × Int):Int × Int:=(x.2.1,x.2.2.1)
noncomputable def yc (H:Hp) (as:List (Addr × Int × Int × Int)):Prop:=∀x∈as,H x.1=some (.tup [.int x.2.1,.int x.2.2.1,.int x.2.2.2])
noncomputable def DR:Sp:=fun vs H Q _=>∃(d l sa pa:Addr) (cs:List Str) (pool:List Int),vs=[.ref d,.ref sa,.ref pa]∧aD H d l∧H sa=some (.tup (cs.map V.str))∧(pa≠d∧pa≠l)∧H pa=some (.lst (pool.map V.int))∧pool.length=5∧pool.Nodup ∧
 ∀(wa:Addr) (ps:List (Int × Int × Int)) (es:List Int) H',H wa=none→(ps.map fun x=>(x.1,x.2.1)).Nodup→ps.length≤60→es.length≤60→WS H' wa (.wy cs ps es)→aD H' d l→But d l H H'→Q (.ref wa) H'
abbrev Dz8:=Fn P w K mg base "_law_way" 2 ["_law_deal_here","_law_some_here","_law_pool_here"] (DR)
theorem sS (T:Txt w K mg base) (L:FnL K mg "_law_way" gl ["_law_deal_here","_law_some_here","_law_pool_here"]) (Fa : @Dz0 P w K mg base) : @Dz8 P w K mg base:=by
  ctx_has z tm <;> obtain⟨d,l,sa,pa,cs,pool,rfl,D,hsa,npa,hpa,hpl,hpn,k⟩:=h
  · rfl
  refine⟨_,(af (aC 3 (aN bw ae (ah Fa (aa (pvM 0) (aa ae ac)))))
    (af (aC 4 (bA ac))
    (af (bE (bY rfl T.b_range (aa (pvM 3) ac)) (aB 5) (ai (bE (eY (K:=K) rfl (pvM 2)) (aB 6) (ai (aK (ay sP (ah Fa (aa (pvM 0) (aa ae ac))) ae) (ai (bU (eG PySem.F.slot_list_append PySem.F.type_list_append bN (pvM 4) (aa (aE (aa (pvM 5) (aa (pvM 6) (aa (ah Fa (aa (pvM 0) (aa (pvM 3) ac))) ac)))) ac)))) az)))))
    (af (cg 7 (N:=["_law_state","_law_deal_here"]) (nt:=1) (js:=[0]) (aI ["_law_deal_here","_law_some_here","_law_pool_here","_law_many","_law_steps","_law_state","_law_value","_law_ends"] (am gl).names) (bY rfl T.b_range (aa (pvM 3) ac)) (aB 0) aQ (qX (ay aR (ah Fa (aa (pvM 1) (aa ae ac))) ae)) (pvM 0))
    (ai (aA (aE (aa au (aa (pvM 1) (aa (aF aM T.b_tuple (aa (pvM 4) ac)) (aa (aF aM T.b_tuple (aa (pvM 7) ac)) ac))))))))))),?_⟩
  ctx_has v
  refine aS D (by decide) (by decide) fun r1 H1 r10 r11 D1 B1=>?_
  ctx_has v
  refine⟨by decide,fun p hp=>⟨by omega,by omega,?_⟩⟩
  have np:=D1.ne hp;have hpH:H p=none:=by
    cases e:H p with
    | none=>rfl
    | some o=>rw[B1 p o np.1 np.2 e] at hp;cases hp
  obtain⟨n,hn⟩ : ∃n:Nat,(1+r1).toNat=n:=⟨_,rfl⟩;have hn3:n≤3:=by omega
  rw[hn];refine bW bL (fun i σ H2=>∃as v5 v6,σ=[some (.ref d),some (.ref sa),some (.ref pa),some (.int (1+r1)),some (.ref p),v5,v6,none]∧aD H2 d l∧But d l H H2∧H2 p=some (.lst (as.map fun x=>V.ref x.1))∧yc H2 as∧(as.map Bo).Sublist (gQ pool i)) ⟨[],_,_,rfl,D1.put np.1 np.2,B1.put hpH,ab,(fun x hx=>by simp at hx),by simp⟩ (fun i σ H' h=>True.intro) ?_ ?_
  · rintro i x σ H2 hi hx ⟨as,v5,v6,rfl,D2,B2,hpl2,hA,hsb⟩
    rw[aJ] at hi;rw[fS hi] at hx;cases hx;have hpa2:=B2 pa _ npa.1 npa.2 hpa;ctx_has v hpa2
    refine bW cq (fun j σ H3=>∃as v6,σ=[some (.ref d),some (.ref sa),some (.ref pa),some (.int (1+r1)),some (.ref p),some (.int (0+(i:Int))),v6,none]∧aD H3 d l∧But d l H H3∧H3 p=some (.lst (as.map fun x=>V.ref x.1))∧yc H3 as∧(as.map Bo).Sublist (gQ pool i++(pool.take j).map fun v=>((i:Int),v))) ⟨as,_,rfl,D2,B2,hpl2,hA,by simpa using hsb⟩ (fun j σ H' zq38=>by obtain⟨_,_,_,_,B,_⟩:=zq38;exact(.of (B pa _ npa.1 npa.2 hpa))) ?_ ?_
    · rintro j x σ H3 hj hx ⟨as,v6,rfl,D3,B3,hpl3,hA3,hsb3⟩
      obtain⟨v,hv,rfl⟩ : ∃v,pool[j]? = some v∧V.int v=x:=by
        rw[List.getElem?_map] at hx;cases e:pool[j]? with
        | none=>rw[e] at hx;cases hx
        | some nm=>rw[e] at hx;exact⟨nm,rfl,Option.some.inj hx⟩
      ctx_has v
      refine aS D3 (by decide) (by decide) fun r4 H4 r40 r41 D4 B4=>?_
      ctx_has v
      have hpl4:=B4 p _ np.1 np.2 hpl3;have hA4:yc H4 as:=fun x hx=>(But.keepTI B4 D3).tup _ _ (hA3 x hx)
      have ek:pool.take (j+1)=pool.take j++[v]:=by rw[take_add_one,hv];rfl
      have hln:(as.map fun x=>V.ref x.1).length < sizeLine:=by
        have h1:=hsb3.length_le;rw[length_map,length_append,ke,hpl,length_map] at h1;have h2:(pool.take j).length≤5:=by rw[← hpl];exact List.length_take_le' _ _
        exact lt_of_lt_of_le (show(as.map fun x=>V.ref x.1).length < 1000 by rw[length_map];omega) (by decide)
      refine cW (fun h=>?_) (fun h=>?_)
      · refine⟨⟨_,hpl4⟩,aS D4 (by omega) (by omega) fun r5 H5 r50 r51 D5 B5=>⟨by decide,fun tp htp=>?_⟩⟩
        have hpl5:=B5 p _ np.1 np.2 hpl4;have hA5:yc H5 as:=fun x hx=>(But.keepTI B5 D4).tup _ _ (hA4 x hx)
        refine⟨_,(ao.upd0 htp) _ _ hpl5,hln,(D5.new htp).put np.1 np.2,(((B3.trans B4).trans B5).new htp).put hpH,as++[(tp,(i:Int),v,r5)],by rw[ab];simp,fun x hx=>?_,?_⟩
        · rcases mem_append.mp hx with hx | hx
          · rw[ag (bq (hA5 x hx) hpl5 (by intro z;cases z))]
            exact(ao.upd0 htp) _ _ (hA5 x hx)
          · rw[mem_singleton.mp hx]
            show upd (upd H5 tp _) p _ tp=_
            rw[ag (Ne.symm (aj hpl5 htp)),ab,Int.zero_add]
        · rw[ek,map_append,map_append,← append_assoc]
          exact hsb3.append (List.Sublist.refl _)
      · refine⟨D4,B3.trans B4,as,hpl4,hA4,hsb3.trans ?_⟩
        rw[ek,map_append,← append_assoc];exact List.sublist_append_left _ _
    · rintro σ H3 ⟨as,v6,rfl,D3,B3,hpl3,hA3,hsb3⟩
      rw[length_map,take_length] at hsb3;exact⟨as,_,_,rfl,D3,B3,hpl3,hA3,by rw[iV];exact hsb3⟩
  · rintro σ H2 ⟨as,v5,v6,rfl,D2,B2,hpl2,hA,hsb⟩
    rw[aJ] at hsb;ctx_has v
    refine⟨by omega,by omega,fun Dd hDd=>?_⟩
    have nD:=D2.ne hDd;rw[hn];refine cP bL (fun i ys H'=>∃zs:List Int,ys=zs.map V.int∧zs.length≤i∧aD H' d l∧But d l H2 H'∧H' Dd=some (.lst ys)) ⟨[],rfl,by simp,D2.new hDd,(But.refl H2).new hDd,ab⟩ (fun i ys H' h=>True.intro) ?_ ?_
    · rintro i x ys H3 hi hx ⟨zs,rfl,hzl,D3,B3,hd3⟩
      rw[aJ] at hi;rw[fS hi] at hx;cases hx;ctx_has v
      refine aS D3 (by decide) (by decide) fun r4 H4 r40 r41 D4 B4=>?_
      ctx_has v
      have hd4:=B4 Dd _ nD.1 nD.2 hd3;refine cW (fun h=>?_) (fun h=>?_)
      · exact⟨hd4,lt_of_lt_of_le (show(zs.map V.int).length < 1000 by rw[length_map];omega) (by decide),zs++[0+(i:Int)],by simp,by simp;omega,D4.put nD.1 nD.2,(B3.trans B4).put hDd,ab⟩
      · exact⟨zs,rfl,by omega,D4,B3.trans B4,hd4⟩
    · rintro ys H3 ⟨zs,rfl,hzl,D3,B3,hd3⟩
      rw[aJ] at hzl;have hp3:=B3 p _ np.1 np.2 hpl2;refine⟨_,hp3,fun l1 g1=>⟨Dd,rfl,_,(ao.upd0 g1) _ _ hd3,fun l2 g2=>⟨by decide,fun wa g3=>?_⟩⟩⟩
      have s4:ao H3 (upd (upd (upd H3 l1 (.tup (as.map fun x=>V.ref x.1))) l2 (.tup (zs.map V.int))) wa (.tup [.str "way",.ref sa,.ref l1,.ref l2])):=((ao.upd0 g1).upd_new g2).upd_new g3
      have B4:=(B2.trans B3).same s4;have hwl:=((D3.new g1).new g2).ne g3;have B03:=B2.trans B3;have hsl:=hsb.length_le;rw[length_map,ke,hpl] at hsl;have e12:l1≠l2:=fun z=>by rw[z,ab] at g2;cases g2
      have e1w:l1≠wa:=fun z=>by rw[← z,ag e12,ab] at g3;cases g3
      have e2w:l2≠wa:=fun z=>by rw[← z,ab] at g3;cases g3
      have hA3:yc H3 as:=fun x hx=>(But.keepTI B3 D2).tup _ _ (hA x hx)
      refine k wa (as.map (·.2)) zs _ ?_ ?_ (by show(as.map (·.2)).length≤60;rw[length_map];omega) (by show zs.length≤60;omega) ⟨sa,l1,l2,_,ab,s4 _ _ ((But.keepTI B03 D).tup _ _ hsa),by rw[ag e1w,ag e12];exact ab,⟨as,rfl,rfl,fun x hx=>s4 _ _ (hA3 x hx)⟩,by rw[ag e2w];exact ab⟩ (D3.same s4) B4
      · cases e:H wa with
        | none=>rfl
        | some o =>
          have z:=((ao.upd0 (o:=.tup (as.map fun x=>V.ref x.1)) g1).upd_new (o:=.tup (zs.map V.int)) g2) _ _ (B03 wa o hwl.1 hwl.2 e)
          rw[z] at g3;cases g3
      · show((as.map (·.2)).map fun x=>(x.1,x.2.1)).Nodup
        rw[map_map];exact(kL hpn n).sublist hsb
noncomputable def fo (h:Bool):List Str:=("unlike" : Str) :: "many" :: "sum" :: "table" :: "way" :: "behind" ::(if h then[("same" : Str)] else[])
theorem uT (h:Bool):6≤(fo h).length∧(fo h).length≤7:=by cases h <;> exact⟨by decide,by decide⟩
theorem sZ (ns:List Str):PyData.eqv (.list (ns.map PyData.str)) (.list [])=decide (ns=[]):=by
 cases ns with
 | nil=>rfl
 | cons n ns=>simp[PyData.eqv,PyData.eqvAll]
noncomputable def okC (ws cs:List Str):Prop:=cs≠[]∧cs.Nodup∧(∀c∈cs,c∈ws)∧cs.length≤12
noncomputable def okV (ns vs:List Int):Prop:=vs.Nodup∧(∀v∈vs,v∈ns)∧vs.length≤20
noncomputable def okW (ws:List Str) (ns:List Int):Wi→Prop
 | .un cs=>okC ws cs
 | .mn av cs _ _=>okC ws cs∧okV ns av
 | .sm ts _ _=>okC ws (ts.map (·.2))∧∀x∈ts,-1000000≤x.1∧x.1≤1000000∧x.1≠0
 | .tb cs rows=>okC ws cs∧rows.Nodup∧(∀r∈rows,r.length=cs.length)∧rows.length≤7
 | .wy cs ps es=>okC ws cs∧(ps.map fun x=>(x.1,x.2.1)).Nodup∧ps.length≤60∧es.length≤60
 | .bh cs _=>okC ws cs
noncomputable def okX (ws:List Str) (ns:List Int):Wx→Prop
 | .pl W=>okW ws ns W
 | .sa c vs W=>c∈ws∧okV ns vs∧okW ws ns W∧c∉ga W
theorem zh (h : ∀c∈ws,c∈ws') : ∀{W:Wi},okW ws ns W→okW ws' ns W
 | .un _,⟨a,b,c,d⟩=>⟨a,b,fun x hx=>h x (c x hx),d⟩
 | .mn _ _ _ _,⟨⟨a,b,c,d⟩,r⟩=>⟨⟨a,b,fun x hx=>h x (c x hx),d⟩,r⟩
 | .sm _ _ _,⟨⟨a,b,c,d⟩,r⟩=>⟨⟨a,b,fun x hx=>h x (c x hx),d⟩,r⟩
 | .tb _ _,⟨⟨a,b,c,d⟩,r⟩=>⟨⟨a,b,fun x hx=>h x (c x hx),d⟩,r⟩
 | .wy _ _ _,⟨⟨a,b,c,d⟩,r⟩=>⟨⟨a,b,fun x hx=>h x (c x hx),d⟩,r⟩
 | .bh _ _,⟨a,b,c,d⟩=>⟨a,b,fun x hx=>h x (c x hx),d⟩
theorem kg : ∀{W:Wi},okW ws ns W→∀c∈ga W,c∈ws
 | .un _,⟨_,_,c,_⟩=>c
 | .mn _ _ _ _,⟨⟨_,_,c,_⟩,_⟩=>c
 | .sm _ _ _,⟨⟨_,_,c,_⟩,_⟩=>c
 | .tb _ _,⟨⟨_,_,c,_⟩,_⟩=>c
 | .wy _ _ _,⟨⟨_,_,c,_⟩,_⟩=>c
 | .bh _ _,⟨_,_,c,_⟩=>c
theorem qe : ∀{W:Wx},okX ws ns W→∀c∈yr W,c∈ws
 | .pl _,h=>kg h
 | .sa _ _ _,h=>fun c hc=>by
  rcases mem_cons.mp hc with rfl | z
  ·exact h.1
  ·exact kg h.2.2.1 c z
structure gj (H:Hp) (d l a ra pa:Addr) (ws:List Str) (ns:List Int) (kvs:List (Key × V)) (rm:Str→List Int):Prop where
 D:aD H d l
 na:a≠d∧a≠l
 nr:ra≠d∧ra≠l
 np:pa≠d∧pa≠l
 ha:H a=some (.lst (ws.map V.str))
 hr:H ra=some (.dK kvs)
 hp:H pa=some (.lst (ns.map V.int))
 rf:cm H kvs ws rm
 wn:ws≠[]
 nd:ws.Nodup
 wl:ws.length≤12
 n5:ns.length=5
 nn:ns.Nodup
 nm : ∀c∈ws,cb c
 gd : ∀c∈ws,rm c≠[]∧(rm c).length≤20∧∀v∈rm c,-1000000≤v∧v≤1000000
theorem gj.but (F:gj H d l a ra pa ws ns kvs rm) (D:aD H' d l) (B:But d l H H'):gj H' d l a ra pa ws ns kvs rm :=
 ⟨D,F.na,F.nr,F.np,B _ _ F.na.1 F.na.2 F.ha,B _ _ F.nr.1 F.nr.2 F.hr,B _ _ F.np.1 F.np.2 F.hp,F.rf.same fun x vs e=>B.tup F.D e,F.wn,F.nd,F.wl,F.n5,F.nn,F.nm,F.gd⟩
theorem gj.same {H H':Hp} {d l a ra pa:Addr} {ws:List Str} {ns:List Int} {kvs:List (Key × V)} {rm:Str→List Int} (F:gj H d l a ra pa ws ns kvs rm) (s:ao H H'):gj H' d l a ra pa ws ns kvs rm :=
 F.but (F.D.same s) ((But.refl H).same s)
noncomputable def ij (h:Bool):Sp:=fun vs H Q _=>∃(d l a ra pa so:Addr) (ws:List Str) (ns:List Int) (kvs:List (Key × V)) (rm:Str→List Int),vs=[.ref d,.ref a,.ref ra,.ref pa,.ref so]∧gj H d l a ra pa ws ns kvs rm∧(so≠d∧so≠l)∧H so=some (.lst ((fo h).map V.str)) ∧
 ∀(w:Addr) (W:Wx) (H':Hp),WX H' w W→okX ws ns W→(h=false→∃W0,W = .pl W0)→aD H' d l→But d l H H'→Q (.ref w) H'
noncomputable def jl (h:Bool):Sp:=if h then ij false else fun _ _ _ _=>False
theorem tT {h:Bool} {s:Str} (hs:s∈fo h):s = "unlike" ∨ s = "many" ∨ s = "sum" ∨ s = "table" ∨ s = "way" ∨ s = "behind" ∨(h=true∧s = "same"):=by
 unfold fo at hs;cases h
 ·simpa using hs
 ·simpa using hs
theorem BJ {cs zs:List Str} (hp:(cs++zs).Perm ws) (h1:1≤cs.length) (nd:ws.Nodup) (wl:ws.length≤12):okC ws cs:=by
 have hn:=hp.nodup_iff.mpr nd;refine⟨fun e=>by rw[e] at h1;simp at h1,(nodup_append.mp hn).1,fun c hc=>hp.mem_iff.mp (mem_append_left _ hc),?_⟩
 have:=hp.length_eq
 rw[length_append] at this;omega
theorem zL {vs zs:List Int} (hp:(vs++zs).Perm ns) (nd:ns.Nodup) (nl:ns.length=5):okV ns vs:=by
 have hn:=hp.nodup_iff.mpr nd;refine⟨(nodup_append.mp hn).1,fun c hc=>hp.mem_iff.mp (mem_append_left _ hc),?_⟩
 have:=hp.length_eq
 rw[length_append] at this;omega
theorem gc {h:Bool} (T:Txt w K mg base) (L:FnL K mg "_law_wish" dG ["_law_deal_here","_law_names_here","_law_rooms_here","_law_pool_here","_law_sorts"]) (Fa : @Dz0 P w K mg base) (Fb : @Dz4 P w K mg base) (FE : @Dz6 P w K mg base) (FB : @Dz7 P w K mg base) (FD : @Dz8 P w K mg base) (Fah:Fn P w K mg base "_law_wish" (n+1) ["_law_deal_here","_law_names_here","_law_rooms_here","_law_pool_here","_law_sorts"] (jl h)):Fn P w K mg base "_law_wish" (n+5) ["_law_deal_here","_law_names_here","_law_rooms_here","_law_pool_here","_law_sorts"] (ij h):=by
 ctx_has z qz <;> obtain⟨d,l,a,ra,pa,so,ws,ns,kvs,rm,rfl,M,nso,hso,k⟩:=h
 ·rfl
 refine⟨_,(af (aC 5 (ak fI (pvM 4) (ah Fa (aa (pvM 0) (aa (aG bj T.b_len (aa (pvM 4) ac)) ac)))))
  (af (aC 6 (ah Fb (aa (pvM 0) (aa (pvM 1) (aa (aG (xA rfl) T.b_min (aa (aG bj T.b_len (aa (pvM 1) ac)) (aa (aN bw ae (aF xL T.b_int (aa (jH aR (pvM 5) au) ac))) ac))) ac)))))
  (af (aK (ay aR (pvM 5) au) (ai (aA (aE (aa au (aa (pvM 6) ac))))) az)
  (af (aK (ay aR (pvM 5) au) (af (aC 7 (ah Fa (aa (pvM 0) (aa (aN bw (aG fW T.b_len (aa (pvM 6) ac)) ae) ac))))
  (ai (aA (aE (aa au (aa (ah Fb (aa (pvM 0) (aa (pvM 3) (aa ae ac)))) (aa (pvM 6) (aa (pvM 7) (aa (aN bw (pvM 7) (ah Fa (aa (pvM 0) (aa (aN bw (aN gH (aG fW T.b_len (aa (pvM 6) ac)) (pvM 7)) ae) ac)))) ac))))))))) az)
  (af (aK (ay aR (pvM 5) au) (ai (aA (ah FE (aa (pvM 0) (aa (pvM 6) (aa (pvM 2) ac)))))) az)
  (af (aK (ay aR (pvM 5) au) (ai (aA (aE (aa au (aa (pvM 6) (aa (ah FB (aa (pvM 0) (aa (pvM 6) (aa (pvM 3) ac)))) ac)))))) az)
  (af (aK (ay aR (pvM 5) au) (ai (aA (ah FD (aa (pvM 0) (aa (pvM 6) (aa (pvM 3) ac)))))) az)
  (af (aK (ay aR (pvM 5) au) (ai (aA (aE (aa au (aa (pvM 6) (aa (ak fI (bA (aa ae (aa ae (aa (iK fB ae) (aa ae (aa ae ac)))))) (ah Fa (aa (pvM 0) (aa ae ac)))) ac)))))) az)
  (af (cg 8 (N:=["_law_name","_law_some_here"]) (nt:=1) (js:=[6]) (aI ["_law_deal_here","_law_names_here","_law_rooms_here","_law_pool_here","_law_sorts","_law_sort","_law_some_here","_law_low","_law_rest","_law_inner"] (am dG).names) (eY (K:=K) rfl (pvM 1)) (aB 0) aQ (qX (ay yd (pvM 0) (ak ap (pvM 1) ae))) (pvM 0))
  (af (aK (ay (zk (pQ hr)) (pvM 8) (bA ac)) (ai (aA (aE (aa au (aa (pvM 6) ac))))) az)
  (af (aC 9 (ah Fah (aa (pvM 0) (aa (pvM 8) (aa (pvM 2) (aa (pvM 3) (aa (bA (aa au (aa au (aa au (aa au (aa au (aa au ac))))))) ac)))))))
  (ai (aA (aE (aa au (aa (ak ap (pvM 6) ae) (aa (ah Fb (aa (pvM 0) (aa (pvM 3) (aa ae ac)))) (aa (pvM 9) ac)))))))))))))))))),?_⟩
 ctx_has v hso
 have hsl:=uT h;refine aS M.D (by rw[length_map];omega) (by rw[length_map];omega) fun r H1 r0 r1 D1 B1=>?_
 rw[length_map] at r1;obtain⟨s,hs,hsr⟩:=wm (xs:=fo h) r0 r1 V.str;have h1so:=B1 so _ nso.1 nso.2 hso;have M1:=M.but D1 B1;have h1a:=M1.ha;have w1:=length_pos_iff.mpr M.wn;have wl:=M.wl;have n5:=M.n5;ctx_has v h1so hsr h1a
 obtain⟨m,hm,m1,m2⟩ : ∃m:Int,(if (1+if s=Str.ofString "unlike" then 1 else 0) < ((ws.map V.str).length:Int) then 1+(if s=Str.ofString "unlike" then 1 else 0) else((ws.map V.str).length:Int))=m∧1≤m∧m≤ws.length:=by
  refine⟨_,rfl,?_⟩
  rw[length_map]
  split <;> split <;> constructor <;> omega
 rw[hm];refine⟨d,l,a,m,ws.map V.str,rfl,D1,.inl h1a,by omega,by rw[length_map];omega,by rw[length_map];omega,fun sa got rest H2 fsa hpm hgl h2sa D2 B2=>?_⟩
 obtain⟨cs,zs,rfl,hperm⟩:=gA V.str EL (fun _=>rfl) hpm
 rw[length_map] at hgl;have okc:okC ws cs:=BJ hperm (by omega) M.nd M.wl
 have M2:=M1.but D2 B2;have B02:=B1.trans B2;have cl:=okc.2.2.2;rcases tT hs with rfl | rfl | rfl | rfl | rfl | rfl | ⟨rfl,rfl⟩
 ·ctx_has v
  refine⟨by decide,fun w hw=>k w (.pl (.un cs)) _ ⟨sa,ab,(ao.upd0 hw) _ _ h2sa⟩ okc (fun _=>⟨_,rfl⟩) (D2.new hw) (B02.new hw)⟩
 ·ctx_has v h2sa
  rw[length_map];refine aS D2 (by omega) (by omega) fun r3 H3 r30 r31 D3 B3=>?_
  have M3:=M2.but D3 B3;refine⟨d,l,pa,0,ns.map V.int,rfl,D3,.inl M3.hp,by decide,by rw[length_map];omega,by rw[length_map];omega,fun q got rest H4 fq hpm4 _ h4q D4 B4=>?_⟩
  obtain⟨av,zv,rfl,hpv⟩:=gA V.int DO (fun _=>rfl) hpm4
  have h4sa:=B4.tup D3 (B3.tup D2 h2sa);ctx_has v h4sa
  rw[length_map];refine aS D4 (by omega) (by omega) fun r5 H5 r50 r51 D5 B5=>?_
  ctx_has v
  refine⟨by decide,fun w hw=>k w (.pl (.mn av cs r3 (r3+r5))) _ ⟨q,sa,ab,(ao.upd0 hw) _ _ (B5.tup D4 h4q),(ao.upd0 hw) _ _ (B5.tup D4 h4sa)⟩ ⟨okc,zL hpv M.nn M.n5⟩ (fun _=>⟨_,rfl⟩) (D5.new hw) ((((B02.trans B3).trans B4).trans B5).new hw)⟩
 ·ctx_has v
  refine⟨d,l,sa,ra,cs,kvs,rm,rfl,D2,M.nr,h2sa,M2.hr,fun c hc=>M2.rf c (okc.2.2.1 c hc),cl,fun c hc=>M.gd c (okc.2.2.1 c hc),fun w ts lo hi H3 fw hW hts hb D3 B3=>?_⟩
  refine k w (.pl (.sm ts lo hi)) H3 hW ⟨?_,hb⟩ (fun _=>⟨_,rfl⟩) D3 (B02.trans B3)
  rw[hts];refine⟨?_,okc.2.1.sublist (take_sublist _ _),fun c hc=>okc.2.2.1 c (mem_of_mem_take hc),by simp;omega⟩
  intro e;have:=okc.1
  cases cs with
  | nil=>exact this rfl
  | cons x xs=>simp at e
 ·ctx_has v
  refine⟨d,l,sa,pa,cs,ns,rfl,D2,M.np,h2sa,M2.hp,M.n5,cl,fun p us rows H3 fp h3p hrv hnd hrl hlen D3 B3=>⟨by decide,fun w hw=>?_⟩⟩
  have s4:=ao.upd0 (o:=.tup [.str "table",.ref sa,.ref p]) hw;exact k w (.pl (.tb cs rows)) _ ⟨sa,p,us,ab,s4 _ _ (B3.tup D2 h2sa),s4 _ _ h3p,hrv.keep fun b xs e=>s4 _ _ e⟩ ⟨okc,hnd,hrl,hlen⟩ (fun _=>⟨_,rfl⟩) (D3.same s4) ((B02.trans B3).same s4)
 ·ctx_has v
  exact⟨d,l,sa,pa,cs,ns,rfl,D2,h2sa,M.np,M2.hp,M.n5,M.nn,fun wa ps es H3 fw hnd hpl hel hW D3 B3=>k wa (.pl (.wy cs ps es)) H3 hW ⟨okc,hnd,hpl,hel⟩ (fun _=>⟨_,rfl⟩) D3 (B02.trans B3)⟩
 ·ctx_has v
  refine⟨by decide,fun t ht=>jO D2 ht (by decide) (by decide) rfl fun r3 v H3 hv ha3 D3 B3 h3=>?_⟩
  obtain⟨gap,rfl⟩ : ∃gap:Int,v = .int gap:=by
   simp only[mem_cons,not_mem_nil,or_false] at hv;rcases hv with rfl | rfl | rfl | rfl | rfl
   ·exact⟨_,rfl⟩
   ·exact⟨_,rfl⟩
   ·exact⟨_,rfl⟩
   ·exact⟨_,rfl⟩
   ·exact⟨_,rfl⟩
  ctx_has v h3 ha3
  refine⟨by decide,fun w hw=>?_⟩
  have s4:=ao.upd0 (o:=.tup [.str "behind",.ref sa,.int gap]) hw;exact k w (.pl (.bh cs gap)) _ ⟨sa,ab,s4 _ _ (B3.tup D2 h2sa)⟩ okc (fun _=>⟨_,rfl⟩) (D3.same s4) ((B02.trans B3).same s4)
 ·have h2a:=M2.ha
  obtain⟨c0,cr,hce⟩ : ∃c0 cr,cs=c0 :: cr:=by
   cases cs with
   | nil=>exact absurd rfl okc.1
   | cons x xs=>exact⟨x,xs,rfl⟩
  have e0:atI (cs.map V.str) 0=some (.str c0):=by rw[hce];exact aO (j:=0) (by simp)
  have hc0:c0∈cs:=by rw[hce];exact mem_cons_self
  ctx_has v h2a
  intro R hR;have nR:=D2.ne hR;refine rJ cq (fun v=>match v with | .str c=>!decide (c=c0) | _=>false) id hR (fun H' s=>.of (s _ _ h2a)) (by simp;omega) ?_ ?_ ?_
  ·intro x H3 Q3 hx sm q3
   obtain⟨y,hy,rfl⟩:=mem_map.mp hx;have e1:=sm _ _ h2sa;ctx_has v e1 e0
   exact q3 H3 (ao.refl _)
  ·intro x H3 Q3 hx _ sm q3
   ctx_has v
   exact q3 H3 (ao.refl _)
  ·intro H3 sm h3
   obtain⟨rs,hrs⟩ : ∃rs,ws.filter (fun c=>!decide (c=c0))=rs:=⟨_,rfl⟩
   have h3R:H3 R=some (.lst (rs.map V.str)):=by rw[h3,map_id,List.filter_map,← hrs];rfl
   have rsm : ∀c∈rs,c∈ws∧c≠c0:=fun c hc=>by
    rw[← hrs] at hc;have:=mem_filter.mp hc
    exact⟨this.1,by simpa using this.2⟩
   have rsl:rs.length≤12:=by rw[← hrs];exact le_trans (List.length_filter_le _ _) M.wl
   have rsn:rs.Nodup:=by rw[← hrs];exact M.nd.sublist List.filter_sublist
   refine⟨by decide,fun e he=>?_⟩
   have s4:=ao.upd0 (o:=.lst []) he;refine⟨.list (rs.map PyData.str),.list [],.lst (.of (s4 _ _ h3R)) (cp.strs rs),.lst (.of ab) .nil,by unfold PyData.canLay0;exact mz fun c hc=>M.nm c (rsm c hc).1,rfl,by unfold PyData.depth;rw[cN];decide,_,rfl,?_⟩
   rw[sZ];have s24:=sm.trans s4;have D4:=D2.same s24;have B4:=B02.same s24;have h4sa:=s24 _ _ h2sa;refine cW (fun h0=>?_) (fun h0=>?_)
   ·exact⟨by decide,fun w hw=>k w (.pl (.un cs)) _ ⟨sa,ab,(ao.upd0 hw) _ _ h4sa⟩ okc (fun _=>⟨_,rfl⟩) (D4.new hw) (B4.new hw)⟩
   ·refine⟨by decide,fun so2 hso2=>?_⟩
    have nso2:=D4.ne hso2;have hne:rs≠[]:=by simpa using h0
    have s5:=s4.upd_new (o:=.lst ((fo false).map V.str)) hso2;have M5:=(M2.same sm).same s5;unfold jl;rw[if_pos rfl];refine⟨d,l,R,ra,pa,so2,rs,ns,kvs,rm,rfl,⟨M5.D,nR,M.nr,M.np,s5 _ _ h3R,M5.hr,M5.hp,fun c hc=>M5.rf c (rsm c hc).1,hne,rsn,rsl,M.n5,M.nn,fun c hc=>M.nm c (rsm c hc).1,fun c hc=>M.gd c (rsm c hc).1⟩,nso2,ab,fun u W H6 hW hok hpl D6 B6=>?_⟩
    obtain⟨W0,rfl⟩:=hpl rfl;have h6sa:=B6.tup M5.D (s5 _ _ (sm _ _ h2sa));have B06:=(B02.same (sm.trans s5)).trans B6;have M6:=M5.but D6 B6;refine⟨_,h6sa,_,e0,d,l,pa,0,ns.map V.int,rfl,D6,.inl M6.hp,by decide,by rw[length_map];omega,by rw[length_map];omega,fun q got rest H7 fq hpm7 _ h7q D7 B7=>⟨by decide,fun w hw=>?_⟩⟩
    obtain⟨vs,zv,rfl,hpv⟩:=gA V.int DO (fun _=>rfl) hpm7
    have s8:=ao.upd0 (o:=.tup [.str "same",.str c0,.ref q,.ref u]) hw;have hokW:okW rs ns W0:=hok
    refine k w (.sa c0 vs W0) _ ⟨q,u,ab,s8 _ _ h7q,cK hW fun b xs e=>s8 _ _ (B7.tup D6 e)⟩ ⟨okc.2.2.1 c0 hc0,zL hpv M.nn M.n5,zh (fun c hc=>(rsm c hc).1) hokW,fun hc=>(rsm c0 (kg hokW c0 hc)).2 rfl⟩ (fun z=>by cases z) (D7.same s8) ((B06.trans B7).same s8)
noncomputable def ld {α:Type} [DecidableEq α] (m:List (α × α)) (x:α):α:=((m.find? fun y=>decide (y.1=x)).map (·.2)).getD x
noncomputable def PM {α:Type} (m:List (α × α)):Prop:=(m.map (·.1)).Nodup∧(m.map (·.2)).Perm (m.map (·.1))
noncomputable def kvS (m:List (Str × Str)):List (Key × V):=m.map fun x=>(Sum.inr x.1,.str x.2)
noncomputable def kvI (m:List (Int × Int)):List (Key × V):=m.map fun x=>(Sum.inl x.1,.int x.2)
theorem ze (m:List (Str × Str)) (s:Str):(bu (kvS m) (Sum.inr s)).getD (.str s) = .str (ld m s):=by
 unfold ld
 induction m with
 | nil=>rfl
 | cons y m ih =>
  unfold kvS at ih ⊢;rw[map_cons]
  by_cases e:y.1=s
  ·rw[aZ (by rw[e]),find?_cons,decide_eq_true e];rfl
  ·rw[aP (fun z=>e (Sum.inr.inj z)),find?_cons,decide_eq_false e];exact ih
theorem Cb (m:List (Int × Int)) (s:Int):(bu (kvI m) (Sum.inl s)).getD (.int s) = .int (ld m s):=by
 unfold ld
 induction m with
 | nil=>rfl
 | cons y m ih =>
  unfold kvI at ih ⊢;rw[map_cons]
  by_cases e:y.1=s
  ·rw[aZ (by rw[e]),find?_cons,decide_eq_true e];rfl
  ·rw[aP (fun z=>e (Sum.inl.inj z)),find?_cons,decide_eq_false e];exact ih
section
variable [DecidableEq α] {m:List (α × α)}
theorem Bi (h:(m.map (·.1)).Nodup) {y:α × α} (hy:y∈m):ld m y.1=y.2:=by
 unfold ld
 induction m with
 | nil=>cases hy
 | cons z m ih =>
  rw[map_cons,nodup_cons] at h;rw[find?_cons];rcases mem_cons.mp hy with rfl | hy
  ·rw[decide_eq_true rfl];rfl
  ·rw[decide_eq_false (fun e:z.1=y.1=>h.1 (by rw[e];exact mem_map.mpr ⟨y,hy,rfl⟩))]
   exact ih h.2 hy
theorem eF {x:α} (h:x∉m.map (·.1)):ld m x=x:=by
 unfold ld;have:m.find? (fun y=>decide (y.1=x))=none:=by
  rw[List.find?_eq_none];intro y hy hd;exact h (mem_map.mpr ⟨y,hy,of_decide_eq_true hd⟩)
 rw[this];rfl
theorem qm (h:PM m) {x:α} (hx:x∈m.map (·.1)) : ∃y∈m,y.1=x∧ld m x=y.2:=by
 obtain⟨y,hy,rfl⟩:=mem_map.mp hx;exact⟨y,hy,rfl,Bi h.1 hy⟩
theorem pV (h:PM m) {x:α} (hx:x∈m.map (·.1)):ld m x∈m.map (·.1):=by
 obtain⟨y,hy,_,e⟩:=qm h hx;rw[e];exact h.2.mem_iff.mp (mem_map.mpr ⟨y,hy,rfl⟩)
theorem AC (h:PM m) {y z:α × α} (hy:y∈m) (hz:z∈m) (e:y.2=z.2):y=z:=by
 have hn:(m.map (·.2)).Nodup:=h.2.nodup_iff.mpr h.1
 clear h
 induction m with
 | nil=>cases hy
 | cons w m ih =>
  rw[map_cons,nodup_cons] at hn;rcases mem_cons.mp hy with rfl | hy'
  ·rcases mem_cons.mp hz with rfl | hz'
   ·rfl
   ·exact absurd (mem_map.mpr ⟨z,hz',e.symm⟩) hn.1
  ·rcases mem_cons.mp hz with rfl | hz'
   ·exact absurd (mem_map.mpr ⟨y,hy',e⟩) hn.1
   ·exact ih hy' hz' hn.2
theorem gn (h:PM m) {x z:α} (e:ld m x=ld m z):x=z:=by
 by_cases hx:x∈m.map (·.1)
 ·obtain⟨a,ha,rfl,ea⟩:=qm h hx
  by_cases hz:z∈m.map (·.1)
  ·obtain⟨b,hb,rfl,eb⟩:=qm h hz
   rw[ea,eb] at e;rw[AC h ha hb e]
  ·rw[eF hz] at e
   exact absurd (e ▸ pV h hx) hz
 ·by_cases hz:z∈m.map (·.1)
  ·rw[eF hx] at e
   exact absurd (e.symm ▸ pV h hz) hx
  ·rw[eF hx,eF hz] at e
   exact e
noncomputable def swp (m:List (α × α)):List (α × α):=m.map fun x=>(x.2,x.1)
theorem cO (h:PM m):PM (swp m):=by
 unfold swp PM;rw[map_map,map_map];exact⟨h.2.nodup_iff.mpr h.1,h.2.symm⟩
theorem jC (h:PM m) (x:α):ld (swp m) (ld m x)=x:=by
 by_cases hx:x∈m.map (·.1)
 ·obtain⟨a,ha,rfl,ea⟩:=qm h hx
  rw[ea];exact Bi (y:=(a.2,a.1)) (cO h).1 (mem_map.mpr ⟨a,ha,rfl⟩)
 ·rw[eF hx]
  refine eF fun z=>hx ?_
  unfold swp at z;rw[map_map] at z;exact h.2.mem_iff.mp z
end
structure bH (H:Hp) (t na va:Addr) (mS:List (Str × Str)) (mI:List (Int × Int)):Prop where
 ht:H t=some (.tup [.ref na,.ref va])
 hn:H na=some (.dK (kvS mS))
 hv:H va=some (.dK (kvI mI))
 ps:PM mS
 pi:PM mI
 ls:mS.length≤40
 li:mI.length≤40
theorem bH.same (h:bH H t na va mS mI) (s:ao H H'):bH H' t na va mS mI:=⟨s _ _ h.ht,s _ _ h.hn,s _ _ h.hv,h.ps,h.pi,h.ls,h.li⟩
noncomputable def idI (mI:List (Int × Int)):Bool:=mI.all fun x=>decide (x.1=x.2)
noncomputable def bx (mS:List (Str × Str)) (mI:List (Int × Int)):Wi→Option Wi
 | .un cs=>some (.un (cs.map (ld mS)))
 | .mn av cs lo hi=>some (.mn (av.map (ld mI)) (cs.map (ld mS)) lo hi)
 | .sm ts lo hi=>if idI mI then some (.sm (ts.map fun x=>(x.1,ld mS x.2)) lo hi) else none
 | .tb cs rows=>some (.tb (cs.map (ld mS)) (rows.map fun r=>r.map (ld mI)))
 | .wy cs ps es=>some (.wy (cs.map (ld mS)) (ps.map fun x=>(x.1,ld mI x.2.1,x.2.2)) es)
 | .bh cs gap=>if idI mI then some (.bh (cs.map (ld mS)) gap) else none
noncomputable def bB (mS:List (Str × Str)) (mI:List (Int × Int)):Wx→Option Wx
 | .pl W=>(bx mS mI W).map .pl
 | .sa c vs W=>(bx mS mI W).map (.sa (ld mS c) (vs.map (ld mI)))
noncomputable def WO (H:Hp) (v:V):Option Wx→Prop
 | none=>v = .non
 | some W=>∃w,v = .ref w∧WX H w W
noncomputable def WOs (H:Hp) (v:V):Option Wi→Prop
 | none=>v = .non
 | some W=>∃w,v = .ref w∧WS H w W
noncomputable def CU:Sp:=fun vs H Q _=>∃(a:Addr) (s:Str) (m:List (Str × Str)),vs=[.ref a,.str s]∧H a=some (.dK (kvS m))∧Q (.str (ld m s)) H
noncomputable def BA:Sp:=fun vs H Q _=>∃(a:Addr) (s:Int) (m:List (Int × Int)),vs=[.ref a,.int s]∧H a=some (.dK (kvI m))∧Q (.int (ld m s)) H
noncomputable def ya:Sp:=fun vs H Q E=>∃x y,vs=[x,y]∧(CU vs H Q E∨BA vs H Q E)
noncomputable def xE:Sp:=fun vs H Q _=>∃(a t:Addr) (cs:List Str) (m:List (Str × Str)),vs=[.ref a,.ref t]∧H a=some (.dK (kvS m))∧H t=some (.tup (cs.map V.str))∧cs.length≤60∧∀p H',ao H H'→H' p=some (.tup ((cs.map (ld m)).map V.str))→Q (.ref p) H'
noncomputable def xu:Sp:=fun vs H Q _=>∃(a t:Addr) (cs:List Int) (m:List (Int × Int)),vs=[.ref a,.ref t]∧H a=some (.dK (kvI m))∧H t=some (.tup (cs.map V.int))∧cs.length≤60∧∀p H',ao H H'→H' p=some (.tup ((cs.map (ld m)).map V.int))→Q (.ref p) H'
noncomputable def jT:Sp:=fun vs H Q E=>∃x y,vs=[x,y]∧(xE vs H Q E∨xu vs H Q E)
theorem lK {s:Str} {m:List (Str × Str)} {Q:VK} {E:XK} (h1:H a=some (.dK (kvS m))) (k:Q (.str (ld m s)) H):ya [.ref a,.str s] H Q E:=⟨_,_,rfl,.inl ⟨a,s,m,rfl,h1,k⟩⟩
theorem wu {s:Int} {m:List (Int × Int)} {Q:VK} {E:XK} (h1:H a=some (.dK (kvI m))) (k:Q (.int (ld m s)) H):ya [.ref a,.int s] H Q E:=⟨_,_,rfl,.inr ⟨a,s,m,rfl,h1,k⟩⟩
theorem dw {cs:List Str} {m:List (Str × Str)} {Q:VK} {E:XK} (h1:H a=some (.dK (kvS m))) (h2:H t=some (.tup (cs.map V.str))) (hl:cs.length≤60) (k : ∀p H',ao H H'→H' p=some (.tup ((cs.map (ld m)).map V.str))→Q (.ref p) H'):jT [.ref a,.ref t] H Q E:=⟨_,_,rfl,.inl ⟨a,t,cs,m,rfl,h1,h2,hl,k⟩⟩
theorem gr {cs:List Int} {m:List (Int × Int)} {Q:VK} {E:XK} (h1:H a=some (.dK (kvI m))) (h2:H t=some (.tup (cs.map V.int))) (hl:cs.length≤60) (k : ∀p H',ao H H'→H' p=some (.tup ((cs.map (ld m)).map V.int))→Q (.ref p) H'):jT [.ref a,.ref t] H Q E:=⟨_,_,rfl,.inr ⟨a,t,cs,m,rfl,h1,h2,hl,k⟩⟩
abbrev Dz9:=Fn P w K mg base "led" 1 ["leads","thing"] (ya)
theorem Cu (T:Txt w K mg base) (L:FnL K mg "led" yG ["leads","thing"]) : @Dz9 P w K mg base:=by
 ctx_has z CV <;> obtain⟨x0,y0,rfl,h⟩:=h
 ·rfl
 refine⟨_,(ai (aA (dF hu (pvM 0) (pvM 1) (pvM 1) ⟨rfl,rfl,rfl,rfl⟩))),?_⟩
 rcases h with⟨a,s,m,e,ha,q⟩ | ⟨a,s,m,e,ha,q⟩ <;> cases e
 ·ctx_has v ft ha
  refine⟨.inl ⟨_,.inl ha⟩,_,.inl ⟨_,Sum.inr s,.inl ha,rfl,rfl⟩,?_⟩
  rw[ze];exact q
 ·ctx_has v ft ha
  refine⟨.inl ⟨_,.inl ha⟩,_,.inl ⟨_,Sum.inl s,.inl ha,rfl,rfl⟩,?_⟩
  rw[Cb];exact q
abbrev uo:=Fn P w K mg base "all_led" 2 ["leads","things"] (jT)
theorem uv (T:Txt w K mg base) (L:FnL K mg "all_led" iy ["leads","things"]) (Fw : @Dz9 P w K mg base) : @uo P w K mg base:=by
 ctx_has z vj <;> obtain⟨x0,y0,rfl,h⟩:=h
 ·rfl
 refine⟨_,(ai (aA (aF aM T.b_tuple (aa (bn (N:=["thing","leads"]) (nt:=1) (js:=[0]) (aI ["leads","things"] (am iy).names) (je (K:=K) rfl (pvM 1)) (aB 0) aQ aV (ah Fw (aa (pvM 1) (aa (pvM 0) ac)))) ac)))),?_⟩
 rcases h with⟨a,t,cs,m,e,ha,ht,hl,k⟩ | ⟨a,t,cs,m,e,ha,ht,hl,k⟩ <;> cases e
 ·ctx_has v ht
  intro D hD;refine cT aW (fun v=>match v with | .str c=>.str (ld m c) | _=>.non) hD (fun H' s=>.of (s _ _ ht)) (by simp;omega) ?_ ?_
  ·intro x H2 Q2 hx sm q2
   obtain⟨y,hy,rfl⟩:=mem_map.mp hx;ctx_has v
   exact lK (sm _ _ ha) (q2 H2 (ao.refl _))
  ·intro H2 sm h2
   ctx_has v h2
   intro p hp;refine k p _ (sm.upd_new hp) ?_
   rw[ab,map_map,map_map];rfl
 ·ctx_has v ht
  intro D hD;refine cT aW (fun v=>match v with | .int c=>.int (ld m c) | _=>.non) hD (fun H' s=>.of (s _ _ ht)) (by simp;omega) ?_ ?_
  ·intro x H2 Q2 hx sm q2
   obtain⟨y,hy,rfl⟩:=mem_map.mp hx;ctx_has v
   exact wu (sm _ _ ha) (q2 H2 (ao.refl _))
  ·intro H2 sm h2
   ctx_has v h2
   intro p hp;refine k p _ (sm.upd_new hp) ?_
   rw[ab,map_map,map_map];rfl
theorem da {zs:List α} {e:α→V} (w:Wlk J (zs.map e) C) {g:TG} {te:TE} {σ0:St} {Q:VK} {H1:Hp} {D:Addr} (f:α→β) (c:β→List V) (hD:H1 D=none) (hC : ∀H',ao H1 H'→C H') (hn:zs.length≤900)
  (he : ∀z∈zs,∀(H2:Hp) (Q2:VK),ao H1 H2→(∀t H3,ao H2 H3→H3 t=some (.tup (c (f z)))→Q2 (.ref t) H3)→g (e z) σ0 H2 fun σ2 H3=>te σ2 H3 Q2)
  (hd : ∀(bs:List (Addr × β)) (H2:Hp),bs.map (·.2)=zs.map f→(∀x∈bs,H2 x.1=some (.tup (c x.2)))→ao H1 H2→H2 D=some (.lst (bs.map fun x=>V.ref x.1))→Q (.ref D) H2):my J σ0 g tP te Q H1 D:=by
 refine cP w (fun i ys H=>∃bs:List (Addr × β),ys=bs.map (fun x=>V.ref x.1)∧bs.map (·.2)=(zs.take i).map f∧(∀x∈bs,H x.1=some (.tup (c x.2)))∧ao H1 H∧H D=some (.lst ys)) ⟨[],rfl,rfl,by simp,ao.upd0 hD,ab⟩ (fun i ys H zq39=>by obtain⟨_,_,_,_,s,_⟩:=zq39;exact(hC _ s)) ?_ ?_
 ·rintro i x ys H hi hx ⟨bs,rfl,hb,hbt,sm,hd'⟩
  rw[length_map] at hi;obtain⟨z,hz,rfl⟩ : ∃z,zs[i]? = some z∧e z=x:=by
   rw[List.getElem?_map] at hx;cases e1:zs[i]? with
   | none=>rw[e1] at hx;cases hx
   | some nm=>rw[e1] at hx;exact⟨nm,rfl,Option.some.inj hx⟩
  simp only[tP,if_true];have hbl:bs.length≤i:=by
   have:=congrArg List.length hb
   rw[length_map,length_map] at this;rw[this];exact List.length_take_le _ _
  refine he z (mem_of_getElem? hz) H _ sm fun t H3 s3 ht=>?_
  have h3D:=s3 _ _ hd';have kt : ∀b xs,H3 b=some (.tup xs)→upd H3 D (.lst (bs.map (fun x=>V.ref x.1)++[.ref t])) b=some (.tup xs):=fun b xs q=>by rw[ag (bq q h3D (by intro z;cases z))];exact q
  refine⟨h3D,by rw[length_map];exact ax (by omega),bs++[(t,f z)],by simp,?_,fun x hx=>?_,fun b o q=>by rw[ag (aj q hD)];exact s3 _ _ (sm b o q),ab⟩
  ·rw[map_append,hb,take_add_one,hz,map_append];rfl
  ·rcases mem_append.mp hx with q | q
   ·exact kt _ _ (s3 _ _ (hbt x q))
   ·rw[mem_singleton.mp q];exact kt _ _ ht
 ·rintro ys H ⟨bs,rfl,hb,hbt,sm,hd'⟩
  rw[length_map,take_length] at hb;exact hd bs H hb hbt sm hd'
noncomputable def xR:Sp:=fun vs H Q _=>∃(t na va:Addr) (mS:List (Str × Str)) (mI:List (Int × Int)),vs=[.ref t]∧bH H t na va mS mI∧∀H',ao H H'→Q (.bl (idI mI)) H'
noncomputable def szT:Wi→Prop
 | .un cs=>cs.length≤12
 | .mn av cs _ _=>av.length≤20∧cs.length≤12
 | .sm ts _ _=>ts.length≤12
 | .tb cs rows=>cs.length≤12∧rows.length≤60∧∀r∈rows,r.length≤12
 | .wy cs ps _=>cs.length≤12∧ps.length≤60
 | .bh cs _=>cs.length≤12
noncomputable def bF (x:Str):Sp:=fun vs H Q _=>∃(t w na va:Addr) (mS:List (Str × Str)) (mI:List (Int × Int)) (W:Wi),vs=[.ref t,.ref w]∧bH H t na va mS mI∧hZ W=x∧WS H w W∧szT W∧∀v H',ao H H'→WOs H' v (bx mS mI W)→Q v H'
abbrev BO:=Fn P w K mg base "keeps_values" 1 ["turning"] (xR)
theorem kU (T:Txt w K mg base) (L:FnL K mg "keeps_values" dg ["turning"]) : @BO P w K mg base:=by
 ctx_has z kZ <;> obtain⟨t,na,va,mS,mI,rfl,T0,k⟩:=h
 ·rfl
 refine⟨_,(ai (aA (aG (pR rfl) T.b_all (aa (lM (bn (N:=["value","other"]) (nt:=2) (js:=[]) (aI ["turning"] (am dg).names) (sU (ak ap (pvM 0) ae)) (du (n:=2) rfl (aY (aB 0) (aY (aB 1) cY))) dq aV (jH aR (pvM 0) (pvM 1)))) ac)))),?_⟩
 have h1:=T0.ht;have h2:=T0.hv;ctx_has v mD iI h1 h2
 refine⟨va,_,h2,fun o D hD=>?_⟩
 have vD:D≠va:=fun z=>by rw[z,ab] at hD;cases hD
 have hD0:H D=none:=by rw[ag vD] at hD;exact hD
 refine ww (fun j ys H'=>ys=((mI.take j).map fun x=>decide (x.1=x.2)).map V.bl∧H' D=some (.lst ys)∧H' va=some (.frz o (.dK (kvI mI)))∧∀b u,b≠va→H b=some u→H' b=some u)
  ⟨rfl,ab,by rw[ag vD.symm];exact ab,fun b u hb e=>by rw[ag (aj e hD0),ag hb];exact e⟩ (fun j ys H' zq40=>by obtain⟨_,_,h,_⟩:=zq40;exact(h)) ?_ ?_
 ·rintro j kk x ys H2 tt hj ⟨rfl,h2D,h2v,k2⟩ htt
  obtain⟨y,hy,e⟩ : ∃y,mI[j]? = some y∧(Sum.inl y.1,V.int y.2)=(kk,x):=by
   unfold kvI at hj;rw[List.getElem?_map] at hj;cases e:mI[j]? with
   | none=>rw[e] at hj;cases hj
   | some nm=>rw[e] at hj;exact⟨nm,rfl,Option.some.inj hj⟩
  cases e;have hjl:j < mI.length:=(List.getElem?_eq_some_iff.mp hy).1
  have s3:=ao.upd0 (o:=.tup [kV (Sum.inl y.1),.int y.2]) htt;ctx_has v ab kV
  have hll:=T0.li;have dD:D≠tt:=aj h2D htt
  refine⟨s3 _ _ h2D,by simp;exact ax (by omega),by rw[take_add_one,hy];simp,?_,?_⟩
  ·rw[ag (Ne.symm vD),ag (aj h2v htt)];exact h2v
  ·intro b u hb e
   have e2:=k2 b u hb e;rw[ag (aj e hD0),ag (aj e2 htt)];exact e2
 ·rintro ys H2 ⟨rfl,h2D,h2v,k2⟩
  have hl2:(kvI mI).length=mI.length:=by unfold kvI;rw[length_map]
  rw[hl2,take_length] at h2D;refine⟨⟨o,h2v⟩,D,rfl,_,by rw[ag vD];exact h2D,?_⟩
  rw[show(mI.map fun x=>decide (x.1=x.2)).all id=idI mI by unfold idI;rw[all_map];rfl]
  refine k _ fun b u e=>?_
  by_cases hb:b=va
  ·subst hb
   rw[ab,← e,h2]
  ·rw[ag hb];exact k2 b u hb e
abbrev ED:=Fn P w K mg base "turned_unlike" 3 ["turning","wish"] (bF "unlike")
theorem kq (T:Txt w K mg base) (L:FnL K mg "turned_unlike" dO ["turning","wish"]) (Fc : @uo P w K mg base) : @ED P w K mg base:=by
 ctx_has z kz <;> obtain⟨t,w,na,va,mS,mI,W,rfl,T0,hS,hW,hk,k⟩:=h
 ·rfl
 refine⟨_,(ai (aA (aE (aa au (aa (ah Fc (aa (ak ap (pvM 0) ae) (aa (ak ap (pvM 1) ae) ac))) ac))))),?_⟩
 obtain⟨cs,rfl⟩:=Gd hS;obtain⟨c,h1,h2⟩:=hW;have e1:=T0.ht;have hk:cs.length≤12:=hk
 ctx_has v e1 h1
 refine dw T0.hn h2 (by omega) fun p H1 s1 hp=>⟨by decide,fun w' hw'=>?_⟩
 exact k _ _ (s1.upd_new hw') ⟨w',rfl,p,ab,(ao.upd0 hw') _ _ hp⟩
abbrev EW:=Fn P w K mg base "turned_many" 3 ["turning","wish"] (bF "many")
theorem lT (T:Txt w K mg base) (L:FnL K mg "turned_many" eZ ["turning","wish"]) (Fc : @uo P w K mg base) : @EW P w K mg base:=by
 ctx_has z ou <;> obtain⟨t,w,na,va,mS,mI,W,rfl,T0,hS,hW,hk,k⟩:=h
 ·rfl
 refine⟨_,(ai (aA (aE (aa au (aa (ah Fc (aa (ak ap (pvM 0) ae) (aa (ak ap (pvM 1) ae) ac))) (aa (ah Fc (aa (ak ap (pvM 0) ae) (aa (ak ap (pvM 1) ae) ac))) (aa (ak ap (pvM 1) ae) (aa (ak ap (pvM 1) ae) ac)))))))),?_⟩
 obtain⟨av,cs,lo,hi,rfl⟩:=Ez hS;obtain⟨a,c,h1,h2,h3⟩:=hW;have e1:=T0.ht;have hk1:av.length≤20:=hk.1
 have hk2:cs.length≤12:=hk.2
 ctx_has v e1 h1
 refine gr T0.hv h2 (by omega) fun p H1 s1 hp=>?_
 have T1:=T0.same s1;have e2:=T1.ht;have h12:=s1 _ _ h1;ctx_has v e2 h12
 refine dw T1.hn (s1 _ _ h3) (by omega) fun p2 H2 s2 hp2=>?_
 have h13:=s2 _ _ h12;ctx_has v h13
 refine⟨by decide,fun w' hw'=>?_⟩
 have s3:=ao.upd0 (o:=.tup [.str "many",.ref p,.ref p2,.int lo,.int hi]) hw';exact k _ _ ((s1.trans s2).trans s3) ⟨w',rfl,p,p2,ab,s3 _ _ (s2 _ _ hp),s3 _ _ hp2⟩
abbrev Gi:=Fn P w K mg base "turned_sum" 3 ["turning","wish"] (bF "sum")
theorem oK (T:Txt w K mg base) (L:FnL K mg "turned_sum" eu ["turning","wish"]) (Fo : @BO P w K mg base) (Fw : @Dz9 P w K mg base) : @Gi P w K mg base:=by
 ctx_has z oE <;> obtain⟨t,w,na,va,mS,mI,W,rfl,T0,hS,hW,hk,k⟩:=h
 ·rfl
 refine⟨_,(af (aK (lW (kc (ah Fo (aa (pvM 0) ac)))) (ai (aA iX)) az)
  (ai (aA (aE (aa au (aa (aF aM T.b_tuple (aa (bn (N:=["term","turning"]) (nt:=1) (js:=[0]) (aI ["turning","wish"] (am eu).names) (cU K (ak ap (pvM 1) ae)) (aB 0) aQ aV (aE (aa (ak ap (pvM 0) ae) (aa (ah Fw (aa (ak ap (pvM 1) ae) (aa (ak ap (pvM 0) ae) ac))) ac)))) ac)) (aa (ak ap (pvM 1) ae) (aa (ak ap (pvM 1) ae) ac)))))))),?_⟩
 obtain⟨ts,lo,hi,rfl⟩:=EH hS;obtain⟨tt,h1,as,h2,rfl,h3⟩:=hW;have hk:as.length≤12:=by have:(as.map (·.2)).length≤12:=hk;simpa using this
 ctx_has v
 refine⟨t,na,va,mS,mI,rfl,T0,fun H1 s1=>?_⟩
 have k1 : ∀v H',ao H H'→WOs H' v (if idI mI=true then some (.sm ((as.map (·.2)).map fun x=>(x.1,ld mS x.2)) lo hi) else none)→Q v H':=k
 cases hid:idI mI with
 | false =>
  rw[hid,if_neg Bool.false_ne_true] at k1;ctx_has v Bool.not_false
  exact k1 _ _ s1 rfl
 | true =>
  rw[hid,if_pos rfl] at k1;have h11:=s1 _ _ h1;have h12:=s1 _ _ h2;have T1:=T0.same s1;ctx_has v Bool.not_true Bool.false_eq_true h11 h12
  intro D hD;refine da aW (f:=fun x:Addr × Int × Str=>(x.2.1,ld mS x.2.2)) (c:=fun y:Int × Str=>[V.int y.1,V.str y.2]) hD (fun H' s=>.of (s _ _ h12)) (by omega) ?_ ?_
  ·intro z hz H2 Q2 s2 q2
   have e3:=s2 _ _ (s1 _ _ (h3 z hz));have T2:=T1.same s2;have e4:=T2.ht;ctx_has v e3 e4
   refine lK T2.hn ⟨by decide,fun t' ht'=>q2 t' _ (ao.upd0 ht') ab⟩
  ·intro bs H2 hbs hbt s2 h2D
   have h21:=s2 _ _ h11;ctx_has v h2D h21
   intro p hp;have s3:=ao.upd0 (o:=.tup (bs.map fun x=>V.ref x.1)) hp
   refine⟨_,s3 _ _ h21,_,aO (j:=2) rfl,_,s3 _ _ h21,_,aO (j:=3) rfl,by decide,fun w' hw'=>?_⟩
   have s4:=s3.upd_new (o:=.tup [.str "sum",.ref p,bV lo,bV hi]) hw';have pw:p≠w':=fun z=>by rw[← z,ab] at hw';cases hw'
   exact k1 _ _ (s1.trans (s2.trans s4)) ⟨w',rfl,p,ab,bs,by rw[ag pw,ab],by rw[hbs,map_map];rfl,fun x hx=>s4 _ _ (hbt x hx)⟩
abbrev Gg:=Fn P w K mg base "turned_table" 3 ["turning","wish"] (bF "table")
theorem lh (T:Txt w K mg base) (L:FnL K mg "turned_table" dk ["turning","wish"]) (Fc : @uo P w K mg base) : @Gg P w K mg base:=by
 ctx_has z lm <;> obtain⟨t,w,na,va,mS,mI,W,rfl,T0,hS,hW,hk,k⟩:=h
 ·rfl
 refine⟨_,(ai (aA (aE (aa au (aa (ah Fc (aa (ak ap (pvM 0) ae) (aa (ak ap (pvM 1) ae) ac))) (aa (aF aM T.b_tuple (aa (bn (N:=["row","turning"]) (nt:=1) (js:=[0]) (aI ["turning","wish"] (am dk).names) (cU K (ak ap (pvM 1) ae)) (aB 0) aQ aV (ah Fc (aa (ak ap (pvM 1) ae) (aa (pvM 0) ac)))) ac)) ac)))))),?_⟩
 obtain⟨cs,rows,rfl⟩:=EQ hS;obtain⟨c,tr,vs,h1,h2,h3,as,rfl,rfl,h4⟩:=hW;have e1:=T0.ht;have hk1:cs.length≤12:=hk.1
 have hk2:as.length≤60:=by have:=hk.2.1;rw[length_map] at this;exact this
 ctx_has v e1 h1
 refine dw T0.hn h2 (by omega) fun p H1 s1 hp=>?_
 have h11:=s1 _ _ h1;have h13:=s1 _ _ h3;have T1:=T0.same s1;ctx_has v h11 h13
 intro D hD;refine da aW (f:=fun x:Addr × List Int=>x.2.map (ld mI)) (c:=fun r:List Int=>r.map V.int) hD (fun H' s=>.of (s _ _ h13)) (by omega) ?_ ?_
 ·intro z hz H2 Q2 s2 q2
  have T2:=T1.same s2;have e4:=T2.ht;ctx_has v e4
  exact gr T2.hv (s2 _ _ (s1 _ _ (h4 z hz))) (by have:=hk.2.2 z.2 (mem_map.mpr ⟨z,hz,rfl⟩);omega) fun p' H3 s3 h3'=>q2 p' H3 s3 h3'
 ·intro bs H2 hbs hbt s2 h2D
  ctx_has v h2D
  intro p2 hp2;refine⟨by decide,fun w' hw'=>?_⟩
  have s3:=ao.upd0 (o:=.tup (bs.map fun x=>V.ref x.1)) hp2
  have s4:=s3.upd_new (o:=.tup [.str "table",.ref p,.ref p2]) hw';have pw:p2≠w':=fun z=>by rw[← z,ab] at hw';cases hw'
  exact k _ _ (s1.trans (s2.trans s4)) ⟨w',rfl,p,p2,_,ab,s4 _ _ (s2 _ _ hp),by rw[ag pw,ab],bs,rfl,by rw[hbs,map_map];rfl,fun x hx=>s4 _ _ (hbt x hx)⟩
abbrev EE:=Fn P w K mg base "turned_way" 3 ["turning","wish"] (bF "way")
theorem oM (T:Txt w K mg base) (L:FnL K mg "turned_way" dZ ["turning","wish"]) (Fc : @uo P w K mg base) (Fw : @Dz9 P w K mg base) : @EE P w K mg base:=by
 ctx_has z oB <;> obtain⟨t,w,na,va,mS,mI,W,rfl,T0,hS,hW,hk,k⟩:=h
 ·rfl
 refine⟨_,(af (aC 2 (aF aM T.b_tuple (aa (bn (N:=["step","turning"]) (nt:=1) (js:=[0]) (aI ["turning","wish","steps"] (am dZ).names) (cU K (ak ap (pvM 1) ae)) (aB 0) aQ aV (aE (aa (ak ap (pvM 0) ae) (aa (ah Fw (aa (ak ap (pvM 1) ae) (aa (ak ap (pvM 0) ae) ac))) (aa (ak ap (pvM 0) ae) ac))))) ac)))
  (ai (aA (aE (aa au (aa (ah Fc (aa (ak ap (pvM 0) ae) (aa (ak ap (pvM 1) ae) ac))) (aa (pvM 2) (aa (ak ap (pvM 1) ae) ac)))))))),?_⟩
 obtain⟨cs,ps,es,rfl⟩:=EO hS;obtain⟨c,tr,e,vs,h1,h2,h3,⟨as,rfl,rfl,h4⟩,h5⟩:=hW;have e1:=T0.ht;have hk1:cs.length≤12:=hk.1
 have hk2:as.length≤60:=by have:=hk.2;rw[length_map] at this;exact this
 ctx_has v h1 h3
 intro D hD;refine da aW (f:=fun x:Addr × Int × Int × Int=>(x.2.1,ld mI x.2.2.1,x.2.2.2)) (c:=fun y:Int × Int × Int=>[V.int y.1,V.int y.2.1,V.int y.2.2]) hD (fun H' s=>.of (s _ _ h3)) (by omega) ?_ ?_
 ·intro z hz H2 Q2 s2 q2
  have e3:=s2 _ _ (h4 z hz);have T2:=T0.same s2;have e4:=T2.ht;ctx_has v e3 e4
  exact wu T2.hv ⟨_,e3,_,aO (j:=2) rfl,by decide,fun t' ht'=>q2 t' _ (ao.upd0 ht') ab⟩
 ·intro bs H2 hbs hbt s2 h2D
  ctx_has v h2D
  intro p2 hp2;have s3:=ao.upd0 (o:=.tup (bs.map fun x=>V.ref x.1)) hp2
  have s23:=s2.trans s3;have T3:=T0.same s23;refine⟨_,T3.ht,_,aO (j:=0) rfl,_,s23 _ _ h1,_,aO (j:=1) rfl,?_⟩
  refine dw T3.hn (s23 _ _ h2) (by omega) fun p H4 s4 hp=>?_
  have h14:=s4 _ _ (s23 _ _ h1);ctx_has v h14
  refine⟨by decide,fun w' hw'=>?_⟩
  have s5:=ao.upd0 (o:=.tup [.str "way",.ref p,.ref p2,.ref e]) hw';have s25:=s23.trans (s4.trans s5);exact k _ _ s25 ⟨w',rfl,p,p2,e,_,ab,s5 _ _ hp,s5 _ _ (s4 _ _ ab),⟨bs,rfl,by rw[hbs,map_map];rfl,fun x hx=>s5 _ _ (s4 _ _ (s3 _ _ (hbt x hx)))⟩,s25 _ _ h5⟩
abbrev Ew:=Fn P w K mg base "turned_behind" 3 ["turning","wish"] (bF "behind")
theorem kx (T:Txt w K mg base) (L:FnL K mg "turned_behind" dL ["turning","wish"]) (Fo : @BO P w K mg base) (Fc : @uo P w K mg base) : @Ew P w K mg base:=by
 ctx_has z kh <;> obtain⟨t,w,na,va,mS,mI,W,rfl,T0,hS,hW,hk,k⟩:=h
 ·rfl
 refine⟨_,(af (aK (lW (kc (ah Fo (aa (pvM 0) ac)))) (ai (aA iX)) az)
  (ai (aA (aE (aa au (aa (ah Fc (aa (ak ap (pvM 0) ae) (aa (ak ap (pvM 1) ae) ac))) (aa (ak ap (pvM 1) ae) ac))))))),?_⟩
 obtain⟨cs,gap,rfl⟩:=Eo hS;obtain⟨c,h1,h2⟩:=hW;have hk:cs.length≤12:=hk
 ctx_has v
 refine⟨t,na,va,mS,mI,rfl,T0,fun H1 s1=>?_⟩
 have k1 : ∀v H',ao H H'→WOs H' v (if idI mI=true then some (.bh (cs.map (ld mS)) gap) else none)→Q v H':=k
 cases hid:idI mI with
 | false =>
  rw[hid,if_neg Bool.false_ne_true] at k1;ctx_has v Bool.not_false
  exact k1 _ _ s1 rfl
 | true =>
  rw[hid,if_pos rfl] at k1;have h11:=s1 _ _ h1;have T1:=T0.same s1;have e1:=T1.ht;ctx_has v Bool.not_true Bool.false_eq_true h11 e1
  refine dw T1.hn (s1 _ _ h2) (by omega) fun p H2 s2 hp=>?_
  have h12:=s2 _ _ h11;ctx_has v h12
  refine⟨by decide,fun w' hw'=>?_⟩
  have s3:=ao.upd0 (o:=.tup [.str "behind",.ref p,.int gap]) hw';exact k1 _ _ (s1.trans (s2.trans s3)) ⟨w',rfl,p,ab,s3 _ _ hp⟩
noncomputable def gR:Sp:=fun vs H Q _=>∃(t w na va:Addr) (mS:List (Str × Str)) (mI:List (Int × Int)) (c:Str) (us:List Int) (W:Wi),vs=[.ref t,.ref w]∧bH H t na va mS mI∧WX H w (.sa c us W)∧szT W∧us.length≤20∧∀v H',ao H H'→WO H' v (bB mS mI (.sa c us W))→Q v H'
noncomputable def ji:Sp:=fun vs H Q _=>∃(t w na va:Addr) (mS:List (Str × Str)) (mI:List (Int × Int)) (W:Wi),vs=[.ref t,.ref w]∧bH H t na va mS mI∧WS H w W∧szT W∧∀v H',ao H H'→WOs H' v (bx mS mI W)→Q v H'
noncomputable def BR:Wx→Prop
 | .pl W=>szT W
 | .sa _ us W=>szT W∧us.length≤20
noncomputable def qO:Sp:=fun vs H Q _=>∃(t w na va:Addr) (mS:List (Str × Str)) (mI:List (Int × Int)) (W:Wx),vs=[.ref t,.ref w]∧bH H t na va mS mI∧WX H w W∧BR W∧∀v H',ao H H'→WO H' v (bB mS mI W)→Q v H'
noncomputable def gC (x:Str):Sp:=if x = "same" then gR else bF x
theorem WOs.up {v:V} {o:Option Wi} (h:WOs H v o):WO H v (o.map .pl):=by
 cases o with
 | none=>exact h
 | some W=>exact h
theorem lf (FT_TURNERS : ∀y∈ja,FnT P w K mg base (pz mg "TURNERS") y 4 ["turning","wish"] (bF y)) (T:Txt w K mg base) (L:FnL K mg "turned_wish" cG ["turning","wish"]):Fn P w K mg base "turned_wish" 5 ["turning","wish"] (ji):=by
 ctx_has z gI <;> obtain⟨t,w,na,va,mS,mI,W,rfl,T0,hW,hk,k⟩:=h
 ·rfl
 refine⟨_,(ai (aA (tX T.tb_TURNERS FT_TURNERS T.at_TURNERS (ak ap (pvM 1) ae) (aa (pvM 0) (aa (pvM 1) ac))))),?_⟩
 cases W with
 | un cs=>obtain⟨c,h1,h2⟩:=id hW;ctx_has v db h1;exact⟨om (.un cs),t,w,na,va,mS,mI,_,rfl,T0,rfl,hW,hk,k⟩
 | mn av cs lo hi=>obtain⟨a,c,h1,h2,h3⟩:=id hW;ctx_has v db h1;exact⟨om (.mn av cs lo hi),t,w,na,va,mS,mI,_,rfl,T0,rfl,hW,hk,k⟩
 | sm ts lo hi=>obtain⟨tt,h1,h2⟩:=id hW;ctx_has v db h1;exact⟨om (.sm ts lo hi),t,w,na,va,mS,mI,_,rfl,T0,rfl,hW,hk,k⟩
 | tb cs rows=>obtain⟨c,tt,vs,h1,h2,h3,h4⟩:=id hW;ctx_has v db h1;exact⟨om (.tb cs rows),t,w,na,va,mS,mI,_,rfl,T0,rfl,hW,hk,k⟩
 | wy cs ps es=>obtain⟨c,tt,e,vs,h1,h2,h3,h4,h5⟩:=id hW;ctx_has v db h1;exact⟨om (.wy cs ps es),t,w,na,va,mS,mI,_,rfl,T0,rfl,hW,hk,k⟩
 | bh cs gap=>obtain⟨c,h1,h2⟩:=id hW;ctx_has v db h1;exact⟨om (.bh cs gap),t,w,na,va,mS,mI,_,rfl,T0,rfl,hW,hk,k⟩
theorem mq (T:Txt w K mg base) (L:FnL K mg "turned_same" fz ["turning","wish"]) (FM:Fn P w K mg base "turned_wish" 5 ["turning","wish"] (ji)) (Fw : @Dz9 P w K mg base) (Fc : @uo P w K mg base):Fn P w K mg base "turned_same" 6 ["turning","wish"] (gR):=by
 ctx_has z nU <;> obtain⟨t,w,na,va,mS,mI,c,us,W,rfl,T0,hW,hk,hul,k⟩:=h
 ·rfl
 refine⟨_,(af (aC 2 (ah FM (aa (pvM 0) (aa (ak ap (pvM 1) ae) ac))))
  (af (aK (gT (lR (pvM 2))) (ai (aA iX)) az)
  (ai (aA (aE (aa au (aa (ah Fw (aa (ak ap (pvM 0) ae) (aa (ak ap (pvM 1) ae) ac))) (aa (ah Fc (aa (ak ap (pvM 0) ae) (aa (ak ap (pvM 1) ae) ac))) (aa (pvM 2) ac))))))))),?_⟩
 obtain⟨tt,uu,h1,h2,h3⟩:=hW;ctx_has v h1
 refine⟨t,uu,na,va,mS,mI,W,rfl,T0,h3,hk,fun v H1 s1 hv=>?_⟩
 have k1 : ∀v H',ao H H'→WO H' v ((bx mS mI W).map (.sa (ld mS c) (us.map (ld mI))))→Q v H':=k
 cases ho:bx mS mI W with
 | none =>
  rw[ho] at hv k1;cases hv;ctx_has v decide_true
  exact k1 _ _ s1 rfl
 | some W' =>
  rw[ho] at hv k1;obtain⟨w',rfl,hw'⟩:=hv;have T1:=T0.same s1;have e1:=T1.ht;have h11:=s1 _ _ h1;ctx_has v e1 h11 decide_false Bool.false_eq_true
  refine lK T1.hn ⟨_,e1,_,aO (j:=1) rfl,_,h11,_,aO (j:=2) rfl,?_⟩
  refine gr T1.hv (s1 _ _ h2) (by omega) fun p H2 s2 hp=>⟨by decide,fun w2 hw2=>?_⟩
  have s3:=ao.upd0 (o:=.tup [.str "same",.str (ld mS c),.ref p,.ref w']) hw2;exact k1 _ _ (s1.trans (s2.trans s3)) ⟨w2,rfl,p,w',ab,s3 _ _ hp,cK hw' fun a xs e=>s3 _ _ (s2 _ _ e)⟩
theorem lj (FT_TURNERS : ∀y∈qC,FnT P w K mg base (pz mg "TURNERS") y 6 ["turning","wish"] (gC y)) (T:Txt w K mg base) (L:FnL K mg "turned_wish" cG ["turning","wish"]):Fn P w K mg base "turned_wish" 7 ["turning","wish"] (qO):=by
 ctx_has z gI <;> obtain⟨t,w,na,va,mS,mI,W,rfl,T0,hW,hk,k⟩:=h
 ·rfl
 refine⟨_,(ai (aA (tX T.tb_TURNERS FT_TURNERS T.at_TURNERS (ak ap (pvM 1) ae) (aa (pvM 0) (aa (pvM 1) ac))))),?_⟩
 cases W with
 | pl W =>
  have hW:WS H w W:=hW
  have hk:szT W:=hk
  have k : ∀v H',ao H H'→WOs H' v (bx mS mI W)→Q v H':=fun v H' s h=>k v H' s h.up
  have tabP : ∀{H:Hp} {Q:VK} {x:Str},x=hZ W→bF x [.ref t,.ref w] H Q E0→gC x [.ref t,.ref w] H Q E0:=fun e h=>by
   subst e;unfold gC;rw[if_neg (by cases W <;> exact(show ¬ (Str.ofString _=Str.ofString _) by decide+kernel))]
   exact h
  have mm : ∀{x:Str},x=hZ W→x∈qC:=fun e=>by subst e;exact mem_cons_of_mem _ (om W)
  cases W with
  | un cs=>obtain⟨c,h1,h2⟩:=id hW;ctx_has v db h1;exact⟨mm rfl,tabP rfl ⟨t,w,na,va,mS,mI,_,rfl,T0,rfl,hW,hk,k⟩⟩
  | mn av cs lo hi=>obtain⟨a,c,h1,h2,h3⟩:=id hW;ctx_has v db h1;exact⟨mm rfl,tabP rfl ⟨t,w,na,va,mS,mI,_,rfl,T0,rfl,hW,hk,k⟩⟩
  | sm ts lo hi=>obtain⟨tt,h1,h2⟩:=id hW;ctx_has v db h1;exact⟨mm rfl,tabP rfl ⟨t,w,na,va,mS,mI,_,rfl,T0,rfl,hW,hk,k⟩⟩
  | tb cs rows=>obtain⟨c,tt,vs,h1,h2,h3,h4⟩:=id hW;ctx_has v db h1;exact⟨mm rfl,tabP rfl ⟨t,w,na,va,mS,mI,_,rfl,T0,rfl,hW,hk,k⟩⟩
  | wy cs ps es=>obtain⟨c,tt,e,vs,h1,h2,h3,h4,h5⟩:=id hW;ctx_has v db h1;exact⟨mm rfl,tabP rfl ⟨t,w,na,va,mS,mI,_,rfl,T0,rfl,hW,hk,k⟩⟩
  | bh cs gap=>obtain⟨c,h1,h2⟩:=id hW;ctx_has v db h1;exact⟨mm rfl,tabP rfl ⟨t,w,na,va,mS,mI,_,rfl,T0,rfl,hW,hk,k⟩⟩
 | sa c us W =>
  obtain⟨tt,uu,h1,h2,h3⟩:=id hW;ctx_has v db h1
  refine⟨mem_cons_self,?_⟩
  unfold gC;rw[if_pos rfl];exact⟨t,w,na,va,mS,mI,c,us,W,rfl,T0,hW,hk.1,hk.2,k⟩
theorem gi {k:Key} : ∀{l:List (Key × V)},k∉l.map (·.1)→bu l k=none
 | [],_=>rfl
 | x :: l,h=>by
  rw[map_cons,mem_cons,not_or] at h;rw[aP (fun e=>h.1 e.symm)]
  exact gi h.2
theorem kK : ∀(l acc:List (Key × V)),((acc++l).map (·.1)).Nodup→dh acc l=acc++l
 | [],acc,_=>by rw[append_nil];rfl
 | x :: l,acc,h=>by
  have hx:x.1∉acc.map (·.1):=fun e=>by
   rw[map_append,nodup_append] at h;exact h.2.2 _ e _ (by rw[map_cons];exact mem_cons_self) rfl
  show dh (br acc x.1 x.2) l=_
  rw[dE _ (gi hx),kK l (acc++[(x.1,x.2)]) (by rw[append_assoc];exact h),append_assoc]
  rfl
noncomputable def kvK (m:List (Key × Key)):List (Key × V):=m.map fun x=>(x.1,kV x.2)
noncomputable def CN:V→Key | .str s=>Sum.inr s | .int i=>Sum.inl i | _=>Sum.inl 0
theorem zn (k:Key):CN (kV k)=k:=by cases k <;> rfl
noncomputable def upS (m:List (Str × Str)):List (Key × Key):=m.map fun x=>(Sum.inr x.1,Sum.inr x.2)
noncomputable def upI (m:List (Int × Int)):List (Key × Key):=m.map fun x=>(Sum.inl x.1,Sum.inl x.2)
theorem wg (m:List (Str × Str)):kvK (upS m)=kvS m:=by unfold kvK upS kvS;rw[map_map];rfl
theorem tM (m:List (Int × Int)):kvK (upI m)=kvI m:=by unfold kvK upI kvI;rw[map_map];rfl
theorem pK (f:α→β) (hf : ∀a b,f a=f b→a=b) : ∀{l l':List α},(l.map f).Perm (l'.map f)→l.Perm l':=by
 intro l
 induction l with
 | nil =>
  intro l' h;have:l'.map f=[]:=List.Perm.eq_nil h.symm
  rw[map_eq_nil_iff.mp this]
 | cons a l ih =>
  intro l' h;have hm:f a∈l'.map f:=h.mem_iff.mp (by rw[map_cons];exact mem_cons_self)
  obtain⟨b,hb,e⟩:=mem_map.mp hm;obtain rfl:=hf _ _ e
  obtain⟨s,t,rfl⟩:=append_of_mem hb;have h2:(f b ::(l.map f)).Perm (f b ::((s++t).map f)):=by
   rw[map_cons] at h;refine h.trans ?_
   rw[map_append,map_cons,map_append];exact perm_middle
  have h3:=ih ((List.perm_cons _).mp h2);exact(h3.cons b).trans perm_middle.symm
theorem E1 (h:PM m) (hs : ∀x∈m,∃s,x.1=Sum.inr s) : ∃mS:List (Str × Str),m=upS mS∧PM mS:=by
 have h2 : ∀x∈m,∃s,x.2=Sum.inr s:=fun x hx=>by
  have:=h.2.mem_iff.mp (mem_map.mpr ⟨x,hx,rfl⟩)
  obtain⟨y,hy,e⟩:=mem_map.mp this;obtain⟨s,es⟩:=hs y hy;exact⟨s,by rw[← e,es]⟩
 have e:m=upS (m.map fun x=>((match x.1 with | .inr s=>s | _ => ""),(match x.2 with | .inr s=>s | _ => ""))):=by
  unfold upS;rw[map_map]
  conv=>lhs;rw[← map_id m]
  refine map_congr_left fun x hx=>?_
  obtain⟨s,es⟩:=hs x hx;obtain⟨s',es'⟩:=h2 x hx;obtain⟨x1,x2⟩:=x;simp only at es es';subst es es';rfl
 generalize (m.map fun x=>((match x.1 with | .inr s=>s | _=>("" : Str)),(match x.2 with | .inr s=>s | _=>("" : Str))))=mS at e
 refine⟨mS,e,?_⟩
 rw[e] at h;unfold PM upS at h;rw[map_map,map_map] at h;have e1:(mS.map ((fun x:Key × Key=>x.1) ∘ fun x=>(Sum.inr x.1,Sum.inr x.2)))=(mS.map (·.1)).map Sum.inr:=by rw[map_map];rfl
 have e2:(mS.map ((fun x:Key × Key=>x.2) ∘ fun x=>(Sum.inr x.1,Sum.inr x.2)))=(mS.map (·.2)).map Sum.inr:=by rw[map_map];rfl
 rw[e1,e2] at h;exact⟨(pairwise_map.mp h.1).imp fun hne z=>hne (by rw[z]),pK _ (fun _ _ e=>Sum.inr.inj e) h.2⟩
theorem EF (h:PM m) (hs : ∀x∈m,∃s,x.1=Sum.inl s) : ∃mI:List (Int × Int),m=upI mI∧PM mI:=by
 have h2 : ∀x∈m,∃s,x.2=Sum.inl s:=fun x hx=>by
  have:=h.2.mem_iff.mp (mem_map.mpr ⟨x,hx,rfl⟩)
  obtain⟨y,hy,e⟩:=mem_map.mp this;obtain⟨s,es⟩:=hs y hy;exact⟨s,by rw[← e,es]⟩
 have e:m=upI (m.map fun x=>((match x.1 with | .inl s=>s | _=>0),(match x.2 with | .inl s=>s | _=>0))):=by
  unfold upI;rw[map_map]
  conv=>lhs;rw[← map_id m]
  refine map_congr_left fun x hx=>?_
  obtain⟨s,es⟩:=hs x hx;obtain⟨s',es'⟩:=h2 x hx;obtain⟨x1,x2⟩:=x;simp only at es es';subst es es';rfl
 generalize (m.map fun x=>((match x.1 with | .inl s=>s | _=>(0:Int)),(match x.2 with | .inl s=>s | _=>(0:Int))))=mI at e
 refine⟨mI,e,?_⟩
 rw[e] at h;unfold PM upI at h;rw[map_map,map_map] at h;have e1:(mI.map ((fun x:Key × Key=>x.1) ∘ fun x=>(Sum.inl x.1,Sum.inl x.2)))=(mI.map (·.1)).map Sum.inl:=by rw[map_map];rfl
 have e2:(mI.map ((fun x:Key × Key=>x.2) ∘ fun x=>(Sum.inl x.1,Sum.inl x.2)))=(mI.map (·.2)).map Sum.inl:=by rw[map_map];rfl
 rw[e1,e2] at h;exact⟨(pairwise_map.mp h.1).imp fun hne z=>hne (by rw[z]),pK _ (fun _ _ e=>Sum.inl.inj e) h.2⟩
theorem we {i:Nat} {x:Key × Key} (hn:(m.map (·.1)).Nodup) (hx:m[i]? = some x):br (kvK (m.take i)) x.1 (kV x.2)=kvK (m.take (i+1)):=by
 have et:m.take (i+1)=m.take i++[x]:=by rw[take_add_one,hx];rfl
 have hd:((m.take i++[x]).map (·.1)).Nodup:=by
  rw[← et,map_take];exact hn.sublist (take_sublist _ _)
 rw[map_append,nodup_append] at hd;have hno:x.1∉(kvK (m.take i)).map (·.1):=fun h=>by
  unfold kvK at h;rw[map_map] at h;exact hd.2.2 _ h _ (by simp) rfl
 rw[dE _ (gi hno),et];unfold kvK;rw[map_append];rfl
theorem Eg (hn:(m.map (·.1)).Nodup) {x:Key × Key} (hx:x∈m):bu (kvK m) x.1=some (kV x.2):=by
 induction m with
 | nil=>cases hx
 | cons y m ih =>
  rw[map_cons,nodup_cons] at hn;unfold kvK;rw[map_cons];rcases mem_cons.mp hx with rfl | hx
  ·exact aZ rfl
  ·rw[aP (fun e=>hn.1 (by rw[show y.1=x.1 from e];exact mem_map.mpr ⟨x,hx,rfl⟩))]
   exact ih hn.2 hx
noncomputable def qH:Sp:=fun vs H Q _=>∃(d l a:Addr) (ks:List Key),vs=[.ref d,.ref a]∧aD H d l∧uY H a (ks.map kV)∧ks.Nodup∧ks.length≤40 ∧
 ∀(r:Addr) (m:List (Key × Key)) (H':Hp),H r=none→H' r=some (.dK (kvK m))→PM m→(∀x∈m,x.1∈ks)→m.length≤40→aD H' d l→But d l H H'→Q (.ref r) H'
noncomputable def rL:Sp:=fun vs H Q _=>∃(a:Addr) (m:List (Key × Key)),vs=[.ref a]∧H a=some (.dK (kvK m))∧(m.map (·.1)).Nodup∧(m.map (·.2)).Nodup∧m.length≤40∧∀r H',H r=none→ao H H'→H' r=some (.dK (kvK (swp m)))→Q (.ref r) H'
abbrev CB:=Fn P w K mg base "_law_leads" 3 ["_law_deal_here","_law_things"] (qH)
theorem oQ (T:Txt w K mg base) (L:FnL K mg "_law_leads" fV ["_law_deal_here","_law_things"]) (Fb : @Dz4 P w K mg base) : @CB P w K mg base:=by
 ctx_has z oN <;> obtain⟨d,l,a,ks,rfl,D,ha,hnd,hkl,k⟩:=h
 ·rfl
 refine⟨_,(af (aC 2 (ah Fb (aa (pvM 0) (aa (pvM 1) (aa ae ac)))))
  (af (aC 3 (ah Fb (aa (pvM 0) (aa (pvM 2) (aa (aG fW T.b_len (aa (pvM 2) ac)) ac)))))
  (af (aC 4 cj)
  (af (bE (bY rfl T.b_range (aa (aG fW T.b_len (aa (pvM 2) ac)) ac)) (aB 5) (ai (gG hu (pvM 4) (ak uK (pvM 2) (pvM 5)) (ak uK (pvM 3) (pvM 5)) rfl)))
  (ai (aA (pvM 4))))))),?_⟩
 ctx_has v
 refine⟨d,l,a,0,ks.map kV,rfl,D,ha,by decide,by rw[length_map];omega,by rw[length_map];omega,fun sa got rest H1 fsa hpm _ h1 D1 B1=>?_⟩
 obtain⟨gs,zs,rfl,hp⟩:=gA kV CN zn hpm;have hgl:gs.length≤40:=by have:=hp.length_eq;rw[length_append] at this;omega
 have hgn:gs.Nodup:=(nodup_append.mp (hp.nodup_iff.mpr hnd)).1
 ctx_has v h1
 refine⟨d,l,sa,_,gs.map kV,rfl,D1,.inr h1,by omega,by omega,by rw[length_map];omega,fun oa got2 rest2 H2 foa hpm2 hgl2 h2 D2 B2=>?_⟩
 obtain⟨os,zo,rfl,hp2⟩:=gA kV CN zn hpm2;rw[length_map,length_map] at hgl2;have hzo:zo=[]:=by
  have:=hp2.length_eq
  rw[length_append] at this;exact length_eq_zero_iff.mp (by omega)
 rw[hzo,append_nil] at hp2;have hol:=hp2.length_eq;ctx_has v
 intro r hr;have nr:=D2.ne hr;have h3s:=(ao.upd0 (o:=.dK []) hr) _ _ (B2.tup D1 h1);ctx_has v h3s
 rw[length_map];refine⟨by omega,by omega,?_⟩
 have fr:H r=none:=(B1.trans B2).free D2 hr
 have e1:(gs.zip os).map (·.1)=gs:=map_fst_zip (by omega)
 have e2:(gs.zip os).map (·.2)=os:=map_snd_zip (by omega)
 have hpm0:PM (gs.zip os):=by unfold PM;rw[e1,e2];exact⟨hgn,hp2⟩
 have hzl:(gs.zip os).length=gs.length:=by rw[List.length_zip];omega
 refine bW bL (fun i σ H'=>∃v5,σ=[some (.ref d),some (.ref a),some (.ref sa),some (.ref oa),some (.ref r),v5]∧H' r=some (.dK (kvK ((gs.zip os).take i)))∧H' sa=some (.tup (gs.map kV))∧H' oa=some (.tup (os.map kV))∧aD H' d l∧But d l H H')
  ⟨_,rfl,ab,h3s,(ao.upd0 hr) _ _ h2,D2.new hr,(B1.trans B2).new hr⟩ (fun _ _ _ _=>True.intro) ?_ ?_
 ·rintro i x σ H4 hi hx ⟨v5,rfl,h4r,h4s,h4o,D4,B4⟩
  rw[aJ] at hi;rw[fS hi] at hx;cases hx;have hil:i < gs.length:=by omega
  have hio:i < os.length:=by omega
  have a1:atI (gs.map kV) (0+(i:Int))=some (kV gs[i]):=by rw[Int.zero_add];exact aO (by simp[hil])
  have a2:atI (os.map kV) (0+(i:Int))=some (kV os[i]):=by rw[Int.zero_add];exact aO (by simp[hio])
  have hz:(gs.zip os)[i]? = some (gs[i],os[i]):=by simp[List.getElem?_zip_eq_some,hil,hio]
  ctx_has v h4s h4o a1 a2
  refine⟨gs[i],rfl,_,h4r,?_,by rw[ab,we hpm0.1 hz],?_,?_,D4.put nr.1 nr.2,B4.put fr⟩
  ·unfold kvK;rw[length_map,length_take];exact ax (by omega)
  ·rw[ag (bq h4s h4r (by intro z;cases z))];exact h4s
  ·rw[ag (bq h4o h4r (by intro z;cases z))];exact h4o
 ·rintro σ H4 ⟨v5,rfl,h4r,h4s,h4o,D4,B4⟩
  rw[aJ,take_of_length_le (by rw[hzl];omega)] at h4r
  ctx_has v
  exact k r _ H4 fr h4r hpm0 (fun x hx=>hp.mem_iff.mp (mem_append_left _ (by rw[← e1];exact mem_map.mpr ⟨x,hx,rfl⟩))) (by omega) D4 B4
abbrev xZ:=Fn P w K mg base "_law_moved" 2 ["_law_leads_here","_law_things"] (jT)
theorem oX (T:Txt w K mg base) (L:FnL K mg "_law_moved" eh ["_law_leads_here","_law_things"]) : @xZ P w K mg base:=by
 ctx_has z oO <;> obtain⟨x0,y0,rfl,h⟩:=h
 ·rfl
 refine⟨_,(ai (aA (aF aM T.b_tuple (aa (bn (N:=["_law_thing","_law_leads_here"]) (nt:=1) (js:=[0]) (aI ["_law_leads_here","_law_things"] (am eh).names) (je (K:=K) rfl (pvM 1)) (aB 0) aQ aV (dF hu (pvM 1) (pvM 0) (pvM 0) ⟨rfl,rfl,rfl,rfl⟩)) ac)))),?_⟩
 rcases h with⟨a,t,cs,m,e,ha,ht,hl,k⟩ | ⟨a,t,cs,m,e,ha,ht,hl,k⟩ <;> cases e
 ·ctx_has v ht
  intro D hD;refine cT aW (fun v=>match v with | .str c=>.str (ld m c) | _=>.non) hD (fun H' s=>.of (s _ _ ht)) (by simp;omega) ?_ ?_
  ·intro x H2 Q2 hx sm q2
   obtain⟨y,hy,rfl⟩:=mem_map.mp hx;have ha2:=sm _ _ ha;ctx_has v ft
   refine⟨.inl ⟨_,.inl ha2⟩,_,.inl ⟨_,Sum.inr y,.inl ha2,rfl,rfl⟩,?_⟩
   rw[ze];exact q2 H2 (ao.refl _)
  ·intro H2 sm h2
   ctx_has v h2
   intro p hp;refine k p _ (sm.upd_new hp) ?_
   rw[ab,map_map,map_map];rfl
 ·ctx_has v ht
  intro D hD;refine cT aW (fun v=>match v with | .int c=>.int (ld m c) | _=>.non) hD (fun H' s=>.of (s _ _ ht)) (by simp;omega) ?_ ?_
  ·intro x H2 Q2 hx sm q2
   obtain⟨y,hy,rfl⟩:=mem_map.mp hx;have ha2:=sm _ _ ha;ctx_has v ft
   refine⟨.inl ⟨_,.inl ha2⟩,_,.inl ⟨_,Sum.inl y,.inl ha2,rfl,rfl⟩,?_⟩
   rw[Cb];exact q2 H2 (ao.refl _)
  ·intro H2 sm h2
   ctx_has v h2
   intro p hp;refine k p _ (sm.upd_new hp) ?_
   rw[ab,map_map,map_map];rfl
theorem qr (T:Txt w K mg base) (L:FnL K mg "_law_back" gO ["_law_leads_here"]):Fn P w K mg base "_law_back" 1 ["_law_leads_here"] (rL):=by
 ctx_has z qY <;> obtain⟨a,m,rfl,ha,hn1,hn2,hl,k⟩:=h
 ·rfl
 refine⟨_,(af (aC 1 cj)
  (af (rD (bE (yK (pvM 0)) (aB 2) (ai (gG hu (pvM 1) (qJ hu (pvM 0) (pvM 2)) (pvM 2) rfl))))
  (ai (aA (pvM 1))))),?_⟩
 ctx_has v vQ ha
 intro r hr;have ar:a≠r:=aj ha hr
 have ha0:=(ao.upd0 (o:=.dK []) hr) _ _ ha;refine⟨a,_,ha0,_,ha0,fun o=>?_⟩
 have hw1:((swp m).map (·.1)).Nodup:=by unfold swp;rw[map_map];exact hn2
 refine bW me (fun i σ H'=>∃v2,σ=[some (.ref a),some (.ref r),v2]∧H' r=some (.dK (kvK ((swp m).take i)))∧H' a=some (.frz o (.dK (kvK m)))∧∀b u,b≠a→H b=some u→H' b=some u)
  ⟨_,rfl,by rw[ag ar.symm];exact ab,ab,fun b u hb e=>by rw[ag hb];exact(ao.upd0 hr) _ _ e⟩ (fun i σ H' zq41=>by obtain⟨_,_,_,h,_⟩:=zq41;exact(h)) ?_ ?_
 ·rintro i x σ H2 hi hx ⟨v2,rfl,h2r,h2a,k2⟩
  obtain⟨y,hy,rfl⟩ : ∃y,m[i]? = some y∧kV y.1=x:=by
   unfold kvK at hx;rw[map_map,List.getElem?_map] at hx;cases e:m[i]? with
   | none=>rw[e] at hx;cases hx
   | some nm=>rw[e] at hx;exact⟨nm,rfl,Option.some.inj hx⟩
  have hym:=mem_of_getElem? hy;have hsw:(swp m)[i]? = some (y.2,y.1):=by unfold swp;rw[List.getElem?_map,hy];rfl
  ctx_has v As
  have hsl:(swp m).length≤40:=by unfold swp;rw[length_map];exact hl
  refine⟨y.1,rfl,o,_,h2a,_,Eg hn1 hym,y.2,rfl,_,h2r,?_,by rw[ab];exact congrArg (fun z=>some (HO.dK z)) (we hw1 hsw),?_,fun b u hb e=>?_⟩
  ·unfold kvK
   rw[length_map];have:((swp m).take i).length≤(swp m).length:=List.length_take_le' _ _
   exact ax (by omega)
  ·rw[ag ar];exact h2a
  ·rw[ag (aj e hr)];exact k2 b u hb e
 ·rintro σ H2 ⟨v2,rfl,h2r,h2a,k2⟩
  have hl2:((kvK m).map fun x=>kV x.1).length=(swp m).length:=by unfold kvK swp;simp
  rw[hl2,take_length] at h2r;refine⟨⟨o,h2a⟩,?_⟩
  ctx_has v
  refine k r _ hr (fun b u e=>?_) (by rw[ag ar.symm];exact h2r)
  by_cases hb:b=a
  ·subst hb;rw[ab,← e,ha]
  ·rw[ag hb];exact k2 b u hb e
theorem ir (xs:List V):dN xs (some 2) none=xs.drop 2:=by
 have:=jE (fun x:V=>x) xs 2
 rwa [map_id',map_id'] at this
theorem wY (xs:List V):dN xs (some 3) none=xs.drop 3:=by
 have:=jE (fun x:V=>x) xs 3
 rwa [map_id',map_id'] at this
theorem Ao (mI:List (Int × Int)):(mI.map fun x=>!decide (x.1=x.2)).any id = !idI mI:=by
 unfold idI
 induction mI with
 | nil=>rfl
 | cons y m ih=>rw[map_cons,any_cons,all_cons,ih];cases decide (y.1=y.2) <;> simp
noncomputable def kX (t u:TS):TS:=fun D σ H=>∃R:St→Hp→Prop,t { D with nx:=R } σ H∧∀ σ H,R σ H→u D σ H
theorem bP {t u:TS} (h1:PS X st t) (h2:PSs X rest u):PSs X (st :: rest) (kX t u):=by
 intro pins s σ H D I h;obtain⟨R,h,hR⟩:=h;refine wpAny_execs_cons (thn (h1 pins s σ H { D with nx:=R } I h) fun f s1 q=>?_)
 cases f with
 | next =>
  obtain⟨σ',H',I',q⟩:=q;exact h2 pins s1 σ' H' D I' (hR _ _ q)
 | ret v=>exact q
 | brk=>exact q
 | cont=>exact q
theorem qU {a b:TS} (R:St→Hp→Prop) (h1:a { D with nx:=R } σ H) (h2 : ∀ σ H,R σ H→b D σ H):kX a b D σ H:=⟨R,h1,h2⟩
noncomputable def ndW:Wi→Bool
 | .sm _ _ _=>true
 | .bh _ _=>true
 | _=>false
noncomputable def zy:Wi→Str
 | .un _ => "unlike"
 | .mn _ _ _ _ => "many"
 | .sm _ _ _ => "sum"
 | .tb _ _ => "table"
 | .wy _ _ _ => "way"
 | .bh _ _ => "behind"
theorem AE {w:Addr} {W:Wi} (h:WS H w W) : ∃xs,H w=some (.tup (.str (zy W) :: xs)):=by
 cases W with
 | un cs=>obtain⟨c,h1,_⟩:=h;exact⟨_,h1⟩
 | mn av cs lo hi=>obtain⟨a,c,h1,_⟩:=h;exact⟨_,h1⟩
 | sm ts lo hi=>obtain⟨t,h1,_⟩:=h;exact⟨_,h1⟩
 | tb cs rows=>obtain⟨c,t,vs,h1,_⟩:=h;exact⟨_,h1⟩
 | wy cs ps es=>obtain⟨c,t,e,vs,h1,_⟩:=h;exact⟨_,h1⟩
 | bh cs gap=>obtain⟨c,h1,_⟩:=h;exact⟨_,h1⟩
theorem xN (W:Wi) : ¬ (zy W=Str.ofString "same"):=by cases W <;> simp only[zy] <;> decide+kernel
theorem AX (W:Wi):inV (V.str (zy W)) [V.str (Str.ofString "sum"),V.str (Str.ofString "behind")]=ndW W:=by cases W <;> simp only[zy,ndW] <;> decide+kernel
theorem ur {W:Wi} (h:ndW W=true) (hi:idI mI=false):bx mS mI W=none:=by
 cases W <;> simp[ndW] at h <;> simp[bx,hi]
theorem aw {a rest:TS} (h : ∀R:TS,R=rest→jk a R D σ H):jk a rest D σ H:=h rest rfl
abbrev A2:=Fn P w K mg base "_law_led_wish" 3 ["_law_turning","_law_wish_here"] (ji)
abbrev nz1:List Str:=["_law_turning","_law_wish_here","_law_names_here","_law_values","_law_inner","_law_found","_law_steps"]
theorem jt (T:Txt w K mg base) (L:FnL K mg "_law_led_wish" bf ["_law_turning","_law_wish_here"]) (Fd : @xZ P w K mg base) : @A2 P w K mg base:=by
 ctx_has z fE <;> obtain⟨t,w,na,va,mS,mI,W,rfl,T0,hW,hk,k⟩:=h
 ·rfl
 refine⟨_,(bP (qS (pvM 0) (du (n:=2) rfl (aY (aB 2) (aY (aB 3) cY))))
  (bP (aK (ay aR (ak ap (pvM 1) ae) au) (af aL
  (af aL
  (ai aL))) az)
  (bP (aK (PW.pt (gh (ay uP (ak ap (pvM 1) ae) (aE (aa au (aa au ac)))) (gg (kc (aG (xk rfl) T.b_any (aa (lM (bn (N:=["_law_key","_law_values"]) (nt:=1) (js:=[3]) (aI nz1 (am bf).names) (yK (pvM 3)) (aB 0) aQ aV (jH yd (pvM 0) (qJ hu (pvM 1) (pvM 0))))) ac)))))) (ai (aA iX)) az)
  (af (aK (ay aR (ak ap (pvM 1) ae) au) (ai (aA (aN eL (aE (aa au (aa (aF aM T.b_tuple (aa (bn (N:=["_law_a","_law_name","_law_names_here"]) (nt:=2) (js:=[2]) (aI nz1 (am bf).names) (cU K (ak ap (pvM 1) ae)) (du (n:=2) rfl (aY (aB 0) (aY (aB 1) cY))) dq aV (aE (aa (pvM 0) (aa (dF hu (pvM 2) (pvM 1) (pvM 1) ⟨rfl,rfl,rfl,rfl⟩) ac)))) ac)) ac))) (bI nV (pvM 1) (bQ ae) cA)))) az)
  (af (aK (ay aR (ak ap (pvM 1) ae) au) (ai (aA (aN eL (aE (aa au (aa (ah Fd (aa (pvM 3) (aa (ak ap (pvM 1) ae) ac))) (aa (ah Fd (aa (pvM 2) (aa (ak ap (pvM 1) ae) ac))) ac)))) (bI nV (pvM 1) (bQ ae) cA)))) az)
  (af (aC 5 (aE (aa (ak ap (pvM 1) ae) (aa (ah Fd (aa (pvM 2) (aa (ak ap (pvM 1) ae) ac))) ac))))
  (af (aK (ay aR (ak ap (pvM 1) ae) au) (ai (aA (aN eL (pvM 5) (aE (aa (aF aM T.b_tuple (aa (bn (N:=["_law_row","_law_values"]) (nt:=1) (js:=[3]) (aI nz1 (am bf).names) (cU K (ak ap (pvM 1) ae)) (aB 0) aQ aV (ah Fd (aa (pvM 1) (aa (pvM 0) ac)))) ac)) ac))))) az)
  (af (aK (ay aR (ak ap (pvM 1) ae) au) (af (cg 6 (N:=["_law_step","_law_values"]) (nt:=1) (js:=[3]) (aI nz1 (am bf).names) (cU K (ak ap (pvM 1) ae)) (aB 0) aQ aV (aE (aa (ak ap (pvM 0) ae) (aa (dF hu (pvM 1) (ak ap (pvM 0) ae) (ak ap (pvM 0) ae) ⟨rfl,rfl,rfl,rfl⟩) (aa (ak ap (pvM 0) ae) ac)))))
  (ai (aA (aN eL (pvM 5) (aE (aa (aF aM T.b_tuple (aa (pvM 6) ac)) (aa (ak ap (pvM 1) ae) ac))))))) az)
  (ai (aA (aN eL (pvM 5) (bI nV (pvM 1) (bQ ae) cA)))))))))))),?_⟩
 have e1:=T0.ht;refine qU (fun σ H'=>σ=[some (.ref t),some (.ref w),some (.ref na),some (.ref va),none,none,none]∧H'=H) ?_ ?_
 ·ctx_has v e1
 rintro σ H' ⟨rfl,rfl⟩
 obtain⟨xs,h0⟩:=AE hW;refine qU (fun σ H0=>σ=[some (.ref t),some (.ref w),some (.ref na),some (.ref va),none,none,none]∧H0=H') ?_ ?_
 ·ctx_has v h0
  rw[if_neg (xN W)];trivial
 rintro σ H0 ⟨rfl,rfl⟩
 refine qU (fun σ H1=>σ=[some (.ref t),some (.ref w),some (.ref na),some (.ref va),none,none,none]∧ao H0 H1∧(ndW W=true→idI mI=true)) ?_ ?_
 ·ctx_has v h0
  refine⟨by decide,fun p0 hp0=>?_⟩
  have s1:=ao.upd0 (o:=.tup [V.str (Str.ofString "sum"),V.str (Str.ofString "behind")]) hp0;refine⟨_,ab,rfl,rfl,?_⟩
  rw[AX];generalize upd H0 p0 (.tup [V.str (Str.ofString "sum"),V.str (Str.ofString "behind")])=H1 at s1 ⊢;cases hn:ndW W with
  | false =>
   rw[if_neg Bool.false_ne_true];exact⟨s1,fun z=>by cases z⟩
  | true =>
   rw[if_pos rfl];have T1:=T0.same s1;have e3:=T1.hv;ctx_has v mD
   refine⟨va,_,e3,_,e3,fun o D hD=>?_⟩
   have vD:D≠va:=fun z=>by rw[z,ab] at hD;cases hD
   have hD0:H1 D=none:=by rw[ag vD] at hD;exact hD
   refine cP me (fun j ys H'=>ys=((mI.take j).map fun x=>!decide (x.1=x.2)).map V.bl∧H' D=some (.lst ys)∧H' va=some (.frz o (.dK (kvI mI)))∧∀b u,b≠va→H1 b=some u→H' b=some u)
    ⟨rfl,ab,by rw[ag vD.symm];exact ab,fun b u hb e=>by rw[ag (aj e hD0),ag hb];exact e⟩ (fun j ys H' zq42=>by obtain⟨_,_,h,_⟩:=zq42;exact(h)) ?_ ?_
   ·rintro j x ys H2 hj hx ⟨rfl,h2D,h2v,k2⟩
    obtain⟨y,hy,rfl⟩ : ∃y,mI[j]? = some y∧V.int y.1=x:=by
     unfold kvI at hx;rw[map_map,List.getElem?_map] at hx;cases e:mI[j]? with
     | none=>rw[e] at hx;cases hx
     | some nm=>rw[e] at hx;exact⟨nm,rfl,Option.some.inj hx⟩
    have hjl:j < mI.length:=(List.getElem?_eq_some_iff.mp hy).1
    have hll:=T0.li;have hvy:bu (kvI mI) (Sum.inl y.1)=some (.int y.2):=by
     rw[← tM];exact Eg (m:=upI mI) (x:=(Sum.inl y.1,Sum.inl y.2)) (by unfold upI;rw[map_map];exact(pairwise_map.mpr ((pairwise_map.mp T0.pi.1).imp fun hne e=>hne (Sum.inl.inj e)))) (mem_map.mpr ⟨y,mem_of_getElem? hy,rfl⟩)
    ctx_has v As
    refine⟨o,_,h2v,_,hvy,rfl,h2D,by simp;exact ax (by omega),?_,ab,?_,fun b u hb e=>?_⟩
    ·rw[take_add_one,hy];simp
    ·rw[ag vD.symm];exact h2v
    ·rw[ag (aj e hD0)];exact k2 b u hb e
   ·rintro ys H2 ⟨rfl,h2D,h2v,k2⟩
    have hl2:((kvI mI).map fun x=>kV x.1).length=mI.length:=by unfold kvI;simp
    rw[hl2,take_length] at h2D;refine⟨⟨o,h2v⟩,D,rfl,_,by rw[ag vD];exact h2D,?_⟩
    have s2:ao H1 (upd H2 va (.dK (kvI mI))):=fun b u e=>by
     by_cases hb:b=va
     ·subst hb;rw[ab,← e,e3]
     ·rw[ag hb];exact k2 b u hb e
    generalize upd H2 va (.dK (kvI mI))=H3 at s2 ⊢;rw[Ao];have s03:=s1.trans s2;cases hid:idI mI with
    | false =>
     rw[if_pos (show(!false)=true from rfl)]
     have k1:=k .non H3 s03;rw[ur hn hid] at k1;exact k1 rfl
    | true =>
     rw[if_neg (show ¬ (!true)=true from Bool.false_ne_true)]
     exact⟨s03,fun _=>rfl⟩
 rintro σ H1 ⟨rfl,s1,hid⟩
 have T1:=T0.same s1;cases W with
 | un cs =>
  obtain⟨c,h1,h2⟩:=hW;have hk:cs.length≤12:=hk
  have h11:=s1 _ _ h1;refine aw fun R hR=>?_
  ctx_has v h11
  subst hR;refine aw fun R hR=>?_
  ctx_has v h11
  subst hR;ctx_has v h11
  refine dw T1.hn (s1 _ _ h2) (by omega) fun p2 H2 s2 hp2=>?_
  have h12:=s2 _ _ h11;ctx_has v h12
  refine⟨by decide,fun pf hpf=>?_⟩
  have s3:=ao.upd0 (o:=.tup [V.str (Str.ofString "unlike"),.ref p2]) hpf;have h3f:upd H2 pf (.tup [V.str (Str.ofString "unlike"),.ref p2]) pf=some (.tup [V.str (Str.ofString "unlike"),.ref p2]):=ab
  generalize upd H2 pf (.tup [V.str (Str.ofString "unlike"),.ref p2])=H3 at s3 h3f ⊢;have s03:=s1.trans (s2.trans s3);have h13:=s03 _ _ h1;have T3:=T0.same s03;ctx_has v h13 h3f
  intro p4 H4 h4 s4;rw[ir] at h4;refine⟨_,s4 _ _ h3f,_,h4,le_of_lt (ax (by simp)),fun p5 H5 h5 s5=>?_⟩
  have s35:=s4.trans s5;exact k _ _ (s03.trans s35) ⟨p5,rfl,p2,h5,s35 _ _ (s3 _ _ hp2)⟩
 | mn av cs lo hi =>
  obtain⟨a,c,h1,h2,h3⟩:=hW;have hk1:av.length≤20:=hk.1
  have hk2:cs.length≤12:=hk.2
  have h11:=s1 _ _ h1;refine aw fun R hR=>?_
  ctx_has v h11
  subst hR;refine aw fun R hR=>?_
  ctx_has v h11
  refine gr T1.hv (s1 _ _ h2) (by omega) fun p2 H2 s2 hp2=>?_
  have h12:=s2 _ _ h11;have T2:=T1.same s2;ctx_has v h12
  refine dw T2.hn (s2 _ _ (s1 _ _ h3)) (by omega) fun p3 H3 s3 hp3=>⟨by decide,fun pf hpf=>?_⟩
  have s4:=ao.upd0 (o:=.tup [V.str (Str.ofString "many"),.ref p2,.ref p3]) hpf;have h4f:upd H3 pf (.tup [V.str (Str.ofString "many"),.ref p2,.ref p3]) pf=some (.tup [V.str (Str.ofString "many"),.ref p2,.ref p3]):=ab
  generalize upd H3 pf (.tup [V.str (Str.ofString "many"),.ref p2,.ref p3])=H4 at s4 h4f ⊢;have h14:=s4 _ _ (s3 _ _ h12);ctx_has v h14 h4f
  intro p5 H5 h5 s5;rw[wY] at h5;refine⟨_,s5 _ _ h4f,_,h5,le_of_lt (ax (by simp)),fun p6 H6 h6 s6=>?_⟩
  have s46:=s5.trans s6;exact k _ _ (s1.trans (s2.trans (s3.trans (s4.trans s46)))) ⟨p6,rfl,p2,p3,h6,s46 _ _ (s4 _ _ (s3 _ _ hp2)),s46 _ _ (s4 _ _ hp3)⟩
 | sm ts lo hi =>
  obtain⟨tt,h1,as,h2,rfl,h3⟩:=hW;have hk:as.length≤12:=by have:(as.map (·.2)).length≤12:=hk;simpa using this
  have k1 : ∀v H',ao H0 H'→WOs H' v (if idI mI=true then some (.sm ((as.map (·.2)).map fun x=>(x.1,ld mS x.2)) lo hi) else none)→Q v H':=k
  have h11:=s1 _ _ h1;rw[hid rfl,if_pos rfl] at k1;have s03:=s1;have T3:=T1;have h13:=h11;refine aw fun R hR=>?_
  have h23:=s03 _ _ h2;ctx_has v h13 h23
  intro D3 hD3;refine da aW (f:=fun x:Addr × Int × Str=>(x.2.1,ld mS x.2.2)) (c:=fun y:Int × Str=>[V.int y.1,V.str y.2]) hD3 (fun H' s=>.of (s _ _ h23)) (by omega) ?_ ?_
  ·intro z hz H4 Q4 s4 q4
   have e4:=s4 _ _ (s03 _ _ (h3 z hz));have T4:=T3.same s4;have e5:=T4.hn;ctx_has v e4 ft
   refine⟨.inl ⟨_,.inl e5⟩,_,.inl ⟨_,Sum.inr z.2.2,.inl e5,rfl,rfl⟩,?_⟩
   rw[ze];exact⟨by decide,fun t' ht'=>q4 t' _ (ao.upd0 ht') ab⟩
  ·intro bs H4 hbs hbt s4 h4D
   ctx_has v h4D
   intro p hp;refine⟨by decide,fun pf hpf=>?_⟩
   have s5:=ao.upd0 (o:=.tup (bs.map fun x=>V.ref x.1)) hp
   have s6:=s5.upd_new (o:=.tup [V.str (Str.ofString "sum"),.ref p]) hpf;have pp:p≠pf:=fun z=>by rw[← z,ab] at hpf;cases hpf
   have h6p:upd (upd H4 p (.tup (bs.map fun x=>V.ref x.1))) pf (.tup [V.str (Str.ofString "sum"),.ref p]) p=some (.tup (bs.map fun x=>V.ref x.1)):=by rw[ag pp,ab]
   have h6f:upd (upd H4 p (.tup (bs.map fun x=>V.ref x.1))) pf (.tup [V.str (Str.ofString "sum"),.ref p]) pf=some (.tup [V.str (Str.ofString "sum"),.ref p]):=ab
   generalize upd (upd H4 p (.tup (bs.map fun x=>V.ref x.1))) pf (.tup [V.str (Str.ofString "sum"),.ref p])=H6 at s6 h6p h6f ⊢
   have h16:=s6 _ _ (s4 _ _ h13);refine⟨_,h16,fun p7 H7 h7 s7=>?_⟩
   rw[ir] at h7;refine⟨_,s7 _ _ h6f,_,h7,le_of_lt (ax (by simp)),fun p8 H8 h8 s8=>?_⟩
   have s68:=s7.trans s8;exact k1 _ _ (s03.trans (s4.trans (s6.trans s68))) ⟨p8,rfl,p,h8,bs,s68 _ _ h6p,by rw[hbs,map_map];rfl,fun x hx=>s68 _ _ (s6 _ _ (hbt x hx))⟩
 | tb cs rows =>
  obtain⟨c,tr,vs,h1,h2,h3,as,rfl,rfl,h4⟩:=hW;have hk1:cs.length≤12:=hk.1
  have hk2:as.length≤60:=by have:=hk.2.1;rw[length_map] at this;exact this
  have h11:=s1 _ _ h1;refine aw fun R hR=>?_
  ctx_has v h11
  subst hR;refine aw fun R hR=>?_
  ctx_has v h11
  subst hR;ctx_has v h11
  refine dw T1.hn (s1 _ _ h2) (by omega) fun p2 H2 s2 hp2=>?_
  have h12:=s2 _ _ h11;ctx_has v h12
  refine⟨by decide,fun pf hpf=>?_⟩
  have s3:=ao.upd0 (o:=.tup [V.str (Str.ofString "table"),.ref p2]) hpf;have h3f:upd H2 pf (.tup [V.str (Str.ofString "table"),.ref p2]) pf=some (.tup [V.str (Str.ofString "table"),.ref p2]):=ab
  generalize upd H2 pf (.tup [V.str (Str.ofString "table"),.ref p2])=H3 at s3 h3f ⊢;have s03:=s1.trans (s2.trans s3);have h13:=s03 _ _ h1;have T3:=T0.same s03;have h33:=s03 _ _ h3;ctx_has v h13 h33
  intro D hD;refine da aW (f:=fun x:Addr × List Int=>x.2.map (ld mI)) (c:=fun r:List Int=>r.map V.int) hD (fun H' s=>.of (s _ _ h33)) (by omega) ?_ ?_
  ·intro z hz H4 Q4 s4 q4
   have T4:=T3.same s4;ctx_has v
   exact gr T4.hv (s4 _ _ (s03 _ _ (h4 z hz))) (by have:=hk.2.2 z.2 (mem_map.mpr ⟨z,hz,rfl⟩);omega) fun p' H5 s5 h5=>q4 p' H5 s5 h5
  ·intro bs H4 hbs hbt s4 h4D
   ctx_has v h4D
   intro p5 hp5;have s5:=ao.upd0 (o:=.tup (bs.map fun x=>V.ref x.1)) hp5
   refine⟨by decide,fun p6 hp6=>?_⟩
   have s6:=s5.upd_new (o:=.tup [V.ref p5]) hp6;have pp:p5≠p6:=fun z=>by rw[← z,ab] at hp6;cases hp6
   have h6p:upd (upd H4 p5 (.tup (bs.map fun x=>V.ref x.1))) p6 (.tup [V.ref p5]) p5=some (.tup (bs.map fun x=>V.ref x.1)):=by rw[ag pp,ab]
   have s46:=s4.trans s6;refine⟨_,s46 _ _ h3f,_,ab,le_of_lt (ax (by simp)),fun p7 H7 h7 s7=>?_⟩
   exact k _ _ (s03.trans (s46.trans s7)) ⟨p7,rfl,p2,p5,_,h7,s7 _ _ (s46 _ _ (s3 _ _ hp2)),s7 _ _ h6p,bs,rfl,by rw[hbs,map_map];rfl,fun x hx=>s7 _ _ (s6 _ _ (hbt x hx))⟩
 | wy cs ps es =>
  obtain⟨c,tr,e,vs,h1,h2,h3,⟨as,rfl,rfl,h4⟩,h5⟩:=hW;have hk1:cs.length≤12:=hk.1
  have hk2:as.length≤60:=by have:=hk.2;rw[length_map] at this;exact this
  have h11:=s1 _ _ h1;refine aw fun R hR=>?_
  ctx_has v h11
  subst hR;refine aw fun R hR=>?_
  ctx_has v h11
  subst hR;ctx_has v h11
  refine dw T1.hn (s1 _ _ h2) (by omega) fun p2 H2 s2 hp2=>?_
  have h12:=s2 _ _ h11;ctx_has v h12
  refine⟨by decide,fun pf hpf=>?_⟩
  have s3:=ao.upd0 (o:=.tup [V.str (Str.ofString "way"),.ref p2]) hpf;have h3f:upd H2 pf (.tup [V.str (Str.ofString "way"),.ref p2]) pf=some (.tup [V.str (Str.ofString "way"),.ref p2]):=ab
  generalize upd H2 pf (.tup [V.str (Str.ofString "way"),.ref p2])=H3 at s3 h3f ⊢;have s03:=s1.trans (s2.trans s3);have h13:=s03 _ _ h1;have T3:=T0.same s03;have h33:=s03 _ _ h3;ctx_has v h13 h33
  intro D hD;refine da aW (f:=fun x:Addr × Int × Int × Int=>(x.2.1,ld mI x.2.2.1,x.2.2.2)) (c:=fun y:Int × Int × Int=>[V.int y.1,V.int y.2.1,V.int y.2.2]) hD (fun H' s=>.of (s _ _ h33)) (by omega) ?_ ?_
  ·intro z hz H4 Q4 s4 q4
   have e4:=s4 _ _ (s03 _ _ (h4 z hz));have T4:=T3.same s4;have e5:=T4.hv;ctx_has v e4 ft
   refine⟨.inl ⟨_,.inl e5⟩,_,.inl ⟨_,Sum.inl z.2.2.1,.inl e5,rfl,rfl⟩,?_⟩
   rw[Cb];exact⟨by decide,fun t' ht'=>q4 t' _ (ao.upd0 ht') ab⟩
  ·intro bs H4 hbs hbt s4 h4D
   have h14:=s4 _ _ h13;ctx_has v h4D h14
   intro p5 hp5;have s5:=ao.upd0 (o:=.tup (bs.map fun x=>V.ref x.1)) hp5
   refine⟨_,s5 _ _ h14,_,aO (j:=3) rfl,by decide,fun p6 hp6=>?_⟩
   have s6:=s5.upd_new (o:=.tup [V.ref p5,V.ref e]) hp6;have pp:p5≠p6:=fun z=>by rw[← z,ab] at hp6;cases hp6
   have h6p:upd (upd H4 p5 (.tup (bs.map fun x=>V.ref x.1))) p6 (.tup [V.ref p5,V.ref e]) p5=some (.tup (bs.map fun x=>V.ref x.1)):=by rw[ag pp,ab]
   have s46:=s4.trans s6;refine⟨_,s46 _ _ h3f,_,ab,le_of_lt (ax (by simp)),fun p7 H7 h7 s7=>?_⟩
   exact k _ _ (s03.trans (s46.trans s7)) ⟨p7,rfl,p2,p5,e,_,h7,s7 _ _ (s46 _ _ (s3 _ _ hp2)),s7 _ _ h6p,⟨bs,rfl,by rw[hbs,map_map];rfl,fun x hx=>s7 _ _ (s6 _ _ (hbt x hx))⟩,s7 _ _ (s46 _ _ (s03 _ _ h5))⟩
 | bh cs gap =>
  obtain⟨c,h1,h2⟩:=hW;have hk:cs.length≤12:=hk
  have k1 : ∀v H',ao H0 H'→WOs H' v (if idI mI=true then some (.bh (cs.map (ld mS)) gap) else none)→Q v H':=k
  have h11:=s1 _ _ h1;rw[hid rfl,if_pos rfl] at k1;have s03:=s1;have T3:=T1;have h13:=h11;refine aw fun R hR=>?_
  ctx_has v h11
  subst hR;refine aw fun R hR=>?_
  ctx_has v h11
  subst hR;ctx_has v h13
  refine dw T3.hn (s03 _ _ h2) (by omega) fun p2 H4 s4 hp2=>?_
  have h14:=s4 _ _ h13;ctx_has v h14
  refine⟨by decide,fun pf hpf=>?_⟩
  have s5:=ao.upd0 (o:=.tup [V.str (Str.ofString "behind"),.ref p2]) hpf;have h5f:upd H4 pf (.tup [V.str (Str.ofString "behind"),.ref p2]) pf=some (.tup [V.str (Str.ofString "behind"),.ref p2]):=ab
  generalize upd H4 pf (.tup [V.str (Str.ofString "behind"),.ref p2])=H5 at s5 h5f ⊢;have h15:=s5 _ _ h14;ctx_has v h15 h5f
  intro p6 H6 h6 s6;rw[ir] at h6;refine⟨_,s6 _ _ h5f,_,h6,le_of_lt (ax (by simp)),fun p7 H7 h7 s7=>?_⟩
  have s57:=s6.trans s7;exact k1 _ _ (s03.trans (s4.trans (s5.trans s57))) ⟨p7,rfl,p2,h7,s57 _ _ (s5 _ _ hp2)⟩
abbrev Cj:=Fn P w K mg base "_law_led_wish" 4 ["_law_turning","_law_wish_here"] (gR)
theorem jw (T:Txt w K mg base) (L:FnL K mg "_law_led_wish" bf ["_law_turning","_law_wish_here"]) (Fab : @A2 P w K mg base) (Fd : @xZ P w K mg base) : @Cj P w K mg base:=by
 ctx_has z fE <;> obtain⟨t,w,na,va,mS,mI,c,us,W,rfl,T0,hW,hk,hul,k⟩:=h
 ·rfl
 refine⟨_,(af (qS (pvM 0) (du (n:=2) rfl (aY (aB 2) (aY (aB 3) cY))))
  (af (aK (ay aR (ak ap (pvM 1) ae) au) (af (aC 4 (ah Fab (aa (pvM 0) (aa (ak ap (pvM 1) ae) ac))))
  (af (aK (gT (lR (pvM 4))) (ai (aA iX)) az)
  (ai (aA (aE (aa au (aa (dF hu (pvM 2) (ak ap (pvM 1) ae) (ak ap (pvM 1) ae) ⟨rfl,rfl,rfl,rfl⟩) (aa (ah Fd (aa (pvM 3) (aa (ak ap (pvM 1) ae) ac))) (aa (pvM 4) ac))))))))) az)
  (af aL
  (af aL
  (af aL
  (af aL
  (af aL
  (af aL
  (ai aL))))))))),?_⟩
 have e1:=T0.ht;obtain⟨tt,uu,h1,h2,h3⟩:=hW;ctx_has v e1 h1
 refine⟨t,uu,na,va,mS,mI,W,rfl,T0,h3,hk,fun v H1 s1 hv=>?_⟩
 have k1 : ∀v H',ao H H'→WO H' v ((bx mS mI W).map (.sa (ld mS c) (us.map (ld mI))))→Q v H':=k
 cases ho:bx mS mI W with
 | none =>
  rw[ho] at hv k1;cases hv;ctx_has v decide_true
  exact k1 _ _ s1 rfl
 | some W' =>
  rw[ho] at hv k1;obtain⟨w',rfl,hw'⟩:=hv;have T1:=T0.same s1;have e5:=T1.hn;have h11:=s1 _ _ h1;ctx_has v h11 decide_false Bool.false_eq_true ft
  refine⟨.inl ⟨_,.inl e5⟩,_,.inl ⟨_,Sum.inr c,.inl e5,rfl,rfl⟩,?_⟩
  rw[ze];refine gr T1.hv (s1 _ _ h2) (by omega) fun p H2 s2 hp=>⟨by decide,fun w2 hw2=>?_⟩
  have s3:=ao.upd0 (o:=.tup [.str "same",.str (ld mS c),.ref p,.ref w']) hw2;exact k1 _ _ (s1.trans (s2.trans s3)) ⟨w2,rfl,p,w',ab,s3 _ _ hp,cK hw' fun a xs e=>s3 _ _ (s2 _ _ e)⟩
noncomputable def sk {α:Type} (f:α→PySem.W.Ky) (l:List α):List α:=l.mergeSort fun a b=>!((f b).lt (f a))
theorem bG (f:α→PySem.W.Ky) (l:List α):(sk f l).Perm l:=List.mergeSort_perm l _
theorem Bb (f:α→PySem.W.Ky) (l:List α):(sk f l).Pairwise fun a b=>(f a).le (f b):=by
 have:=List.pairwise_mergeSort (le:=fun a b:α=>!((f b).lt (f a))) (fun a b c h1 h2=>by
  simp only[Bool.not_eq_true'] at h1 h2 ⊢;exact PySem.W.Ky.le_trans h1 h2) (fun a b=>by
  cases h:(f b).lt (f a) with
  | false=>rfl
  | true=>simp[PySem.W.Ky.asym h]) l
 exact this.imp fun h=>by simpa [PySem.W.Ky.le] using h
theorem ik (f:α→PySem.W.Ky) (l:List α):((sk f l).map f).Pairwise PySem.W.Ky.le:=pairwise_map.mpr (Bb f l)
theorem er {f:α→PySem.W.Ky} {l l':List α} (hp:l'.Perm l) (hs:(l'.map f).Pairwise PySem.W.Ky.le) (hi : ∀a∈l,∀b∈l,f a=f b→a=b):l'=sk f l :=
 List.Perm.eq_of_pairwise (le:=fun a b=>(f a).le (f b)) (fun a b ha hb h1 h2=>hi a (hp.mem_iff.mp ha) b ((bG f l).mem_iff.mp hb) (PySem.W.Ky.le_antisymm h1 h2)) (pairwise_map.mp hs) (Bb f l) (hp.trans (bG f l).symm)
theorem cD {f:α→PySem.W.Ky} {l l':List α} (hp:l'.Perm l) (hi : ∀a∈l,∀b∈l,f a=f b→a=b):sk f l'=sk f l:=er ((bG f l').trans hp) (ik f l') hi
theorem sN (l:List Str) : ∀a∈l,∀b∈l,PySem.W.Ky.s a=PySem.W.Ky.s b→a=b:=fun _ _ _ _ h=>by cases h;rfl
theorem wb (l:List Int) : ∀a∈l,∀b∈l,PySem.W.Ky.i a=PySem.W.Ky.i b→a=b:=fun _ _ _ _ h=>by cases h;rfl
theorem Bs (l:List (List Int)) : ∀a∈l,∀b∈l,PySem.W.Ky.r a=PySem.W.Ky.r b→a=b:=fun _ _ _ _ h=>by cases h;rfl
noncomputable def kP (p:Int × Int × Int):PySem.W.Ky:=.r [p.1,p.2.1,p.2.2]
theorem yN (l:List (Int × Int × Int)) : ∀a∈l,∀b∈l,kP a=kP b→a=b:=fun a _ b _ h=>by
 obtain⟨a1,a2,a3⟩:=a;obtain⟨b1,b2,b3⟩:=b;unfold kP at h;simp at h
 obtain⟨rfl,rfl,rfl⟩:=h;rfl
noncomputable def kT {α:Type} (t:α × Str):PySem.W.Ky:=.s t.2
theorem lG {α β:Type} {f:α→β} {t t':α} : ∀{l:List α},(l.map f).Nodup→t∈l→t'∈l→f t=f t'→t=t'
 | [],_,h,_,_=>by simp at h
 | x :: l,hn,h,h',e=>by
  have hn:(f x :: l.map f).Nodup:=hn
  obtain⟨h1,h2⟩:=nodup_cons.mp hn;rcases mem_cons.mp h with rfl | h
  ·rcases mem_cons.mp h' with rfl | h'
   ·rfl
   ·exact absurd (mem_map.mpr ⟨t',h',e.symm⟩) h1
  ·rcases mem_cons.mp h' with h' | h'
   ·exact absurd (mem_map.mpr ⟨t,h,by rw[← h'];exact e⟩:f x∈l.map f) h1
   ·exact lG h2 h h' e
theorem mR {l:List (α × Str)} (hn:(l.map (·.2)).Nodup) : ∀a∈l,∀b∈l,kT a=kT b→a=b:=fun a ha b hb h=>lG hn ha hb (by unfold kT at h;injection h)
noncomputable abbrev noS:Str := ""
noncomputable def bv {α:Type} (d:α) (pl:List Nat) (r:List α):List α:=pl.map fun i=>r.getD i d
noncomputable def plc (cs:List Str):List Nat:=(sk kT ((range cs.length).zip cs)).map (·.1)
theorem eJ (d:α) (r:List α):bv d (range r.length) r=r:=by
 apply ext_getElem?
 intro i;unfold bv
 by_cases hi:i < r.length
 ·simp[hi]
 ·simp[hi]
theorem fC (d:α) {pl:List Nat} {r:List α} (h:pl.Perm (range r.length)):(bv d pl r).Perm r:=by
 have:=h.map fun i=>r.getD i d
 have e:=eJ d r;unfold bv at e ⊢
 rwa [e] at this
theorem zr {d:α} {r s:List α} (h:pl.Perm (range n)) (hr:r.length=n) (hs:s.length=n) (e:bv d pl r=bv d pl s):r=s:=by
 apply List.ext_getElem (hr.trans hs.symm)
 intro i h1 h2;have hi:i∈pl:=h.mem_iff.mpr (mem_range.mpr (by omega))
 have:=List.map_inj_left.mp e i hi
 simpa [getD_eq_getElem?_getD,h1,h2] using this
theorem dH (d:α) (e:β) {pl:List Nat} {r:List α} {s:List β}:(bv d pl r).zip (bv e pl s)=pl.map fun i=>(r.getD i d,s.getD i e):=by
 unfold bv
 induction pl with
 | nil=>rfl
 | cons i pl ih=>simp only[map_cons,List.zip_cons_cons,ih]
theorem fP (cs:List Str):(plc cs).Perm (range cs.length):=by
 have:=(bG kT ((range cs.length).zip cs)).map (·.1)
 rwa [map_fst_zip (by simp)] at this
theorem qR {r:List α} {cs:List Str} (hl:cs.length≤r.length) (hn:cs.Nodup):((r.zip cs).map (·.2)).Nodup:=by
 rw[map_snd_zip hl];exact hn
theorem pS {cs:List Str} (hn:cs.Nodup):bv noS (plc cs) cs=sk PySem.W.Ky.s cs:=by
 refine er (fC noS (fP cs)) ?_ (sN cs)
 have e:bv noS (plc cs) cs=(sk kT ((range cs.length).zip cs)).map (·.2):=by
  unfold bv plc;rw[map_map];refine map_congr_left fun z hz=>?_
  have:=(bG kT ((range cs.length).zip cs)).mem_iff.mp hz
  obtain⟨k,hk,ek⟩:=List.getElem_of_mem this;have hkl:k < cs.length:=by simpa using hk
  rw[← ek];simp[getD_eq_getElem?_getD,hkl]
 rw[e,map_map];exact ik kT ((range cs.length).zip cs)
theorem qN {cs:List Str} {r:List Int} (hn:cs.Nodup) (hl:r.length=cs.length):bv 0 (plc cs) r=(sk kT (r.zip cs)).map (·.1):=by
 have h1:(bv 0 (plc cs) r).zip (bv noS (plc cs) cs)=sk kT (r.zip cs):=by
  refine er ?_ ?_ (mR (qR (by omega) hn))
  ·rw[dH]
   have:=(fP cs).map fun i=>(r.getD i 0,cs.getD i noS)
   rw[← dH,← dH,← hl,eJ,hl,eJ] at this;rw[← dH];exact this
  ·have e:((bv 0 (plc cs) r).zip (bv noS (plc cs) cs)).map kT=(bv noS (plc cs) cs).map PySem.W.Ky.s:=by
    have:(kT:Int × Str→PySem.W.Ky)=PySem.W.Ky.s ∘ Prod.snd:=rfl
    rw[this,← map_map,map_snd_zip (by unfold bv;simp)]
   rw[e,pS hn];exact ik PySem.W.Ky.s cs
 rw[← h1,map_fst_zip (by unfold bv;simp)]
noncomputable def dJ:Wi→Wi
 | .un cs=>.un (sk .s cs)
 | .mn av cs lo hi=>.mn (sk .i av) (sk .s cs) lo hi
 | .sm ts lo hi=>.sm (sk kT ts) lo hi
 | .tb cs rows=>.tb (sk .s cs) (sk .r (rows.map (bv 0 (plc cs))))
 | .wy cs ps es=>.wy cs (sk kP ps) (sk .i es)
 | .bh cs gap=>.bh cs gap
noncomputable def cL:Wx→Wx
 | .pl W=>.pl (dJ W)
 | .sa c vs W=>.sa c (sk .i vs) (dJ W)
noncomputable def qo:Wi→Wi→Prop
 | .un cs,.un cs'=>cs'.Perm cs
 | .mn av cs lo hi,.mn av' cs' lo' hi'=>av'.Perm av∧cs'.Perm cs∧lo'=lo∧hi'=hi
 | .sm ts lo hi,.sm ts' lo' hi'=>ts'.Perm ts∧lo'=lo∧hi'=hi
 | .tb cs rows,.tb cs' rows'=>∃pl:List Nat,pl.Perm (range cs.length)∧cs'=bv noS pl cs∧rows'.Perm (rows.map (bv 0 pl))
 | .wy cs ps es,.wy cs' ps' es'=>cs'=cs∧ps'.Perm ps∧es'.Perm es
 | .bh cs gap,.bh cs' gap'=>cs'=cs∧gap'=gap
 | _,_=>False
noncomputable def uz:Wx→Wx→Prop
 | .pl W,.pl W'=>qo W W'
 | .sa c vs W,.sa c' vs' W'=>c'=c∧vs'.Perm vs∧qo W W'
 | _,_=>False
theorem il : ∀{W:Wi},okW ws ns W→qo W (dJ W)
 | .un cs,_=>bG _ _
 | .mn av cs lo hi,_=>⟨bG _ _,bG _ _,rfl,rfl⟩
 | .sm ts lo hi,_=>⟨bG _ _,rfl,rfl⟩
 | .tb cs rows,h=>⟨plc cs,fP cs,(pS h.1.2.1).symm,bG _ _⟩
 | .wy cs ps es,_=>⟨rfl,bG _ _,bG _ _⟩
 | .bh cs gap,_=>⟨rfl,rfl⟩
theorem iS : ∀{W:Wx},okX ws ns W→uz W (cL W)
 | .pl W,h=>il (W:=W) h
 | .sa c vs W,h=>⟨rfl,bG _ _,il h.2.2.1⟩
theorem jS {cs:List Str} (h:okC ws cs) (p:cs'.Perm cs):okC ws cs':=⟨fun e=>h.1 (by rw[e] at p;exact p.symm.eq_nil),p.nodup_iff.mpr h.2.1,fun c hc=>h.2.2.1 c (p.mem_iff.mp hc),by rw[p.length_eq];exact h.2.2.2⟩
theorem rR {vs vs':List Int} (h:okV ns vs) (p:vs'.Perm vs):okV ns vs':=⟨p.nodup_iff.mpr h.1,fun c hc=>h.2.1 c (p.mem_iff.mp hc),by rw[p.length_eq];exact h.2.2⟩
theorem rE : ∀{W W':Wi},okW ws ns W→qo W W'→okW ws ns W'
 | .un cs,.un cs',h,m=>jS h m
 | .mn av cs lo hi,.mn av' cs' lo' hi',h,m=>⟨jS h.1 m.2.1,rR h.2 m.1⟩
 | .sm ts lo hi,.sm ts' lo' hi',h,m=>⟨jS h.1 (m.1.map _),fun x hx=>h.2 x (m.1.mem_iff.mp hx)⟩
 | .tb cs rows,.tb cs' rows',h,⟨pl,hp,e,hr⟩=>by
  subst e;have hl:(bv noS pl cs).length=cs.length:=by unfold bv;rw[length_map,hp.length_eq,length_range]
  have rl : ∀r,(bv (0:Int) pl r).length=cs.length:=fun r=>by unfold bv;rw[length_map,hp.length_eq,length_range]
  refine⟨jS h.1 (fC noS hp),hr.nodup_iff.mpr ?_,fun r hm=>?_,by rw[hr.length_eq,length_map];exact h.2.2.2⟩
  ·refine pairwise_map.mpr (List.Pairwise.imp_of_mem (fun {a b} ha hb ne e=>ne (zr hp (h.2.2.1 a ha) (h.2.2.1 b hb) e)) h.2.1)
  ·obtain⟨r0,_,rfl⟩:=mem_map.mp (hr.mem_iff.mp hm)
   rw[hl,rl]
 | .wy cs ps es,.wy cs' ps' es',h,⟨e,p,q⟩=>by
  subst e;exact⟨h.1,(p.map _).nodup_iff.mpr h.2.1,by rw[p.length_eq];exact h.2.2.1,by rw[q.length_eq];exact h.2.2.2⟩
 | .bh cs gap,.bh cs' gap',h,m=>by
  obtain⟨rfl,rfl⟩:=m;exact h
theorem wX : ∀{W W':Wi},qo W W'→(ga W').Perm (ga W)
 | .un cs,.un cs',m=>m
 | .mn av cs lo hi,.mn av' cs' lo' hi',m=>m.2.1
 | .sm ts lo hi,.sm ts' lo' hi',m=>m.1.map _
 | .tb cs rows,.tb cs' rows',⟨pl,hp,e,hr⟩=>by subst e;exact fC noS hp
 | .wy cs ps es,.wy cs' ps' es',⟨e,p,q⟩=>by subst e;exact .refl _
 | .bh cs gap,.bh cs' gap',m=>by obtain⟨rfl,rfl⟩:=m;exact .refl _
theorem vF : ∀{W W':Wx},okX ws ns W→uz W W'→okX ws ns W'
 | .pl W,.pl W',h,m=>rE (W:=W) h m
 | .sa c vs W,.sa c' vs' W',h,⟨e,p,m⟩=>by
  subst e;exact⟨h.1,rR h.2.1 p,rE h.2.2.1 m,fun z=>h.2.2.2 ((wX m).mem_iff.mp z)⟩
theorem pC : ∀{W W':Wi},okW ws ns W→qo W W'→dJ W'=dJ W
 | .un cs,.un cs',h,m=>by unfold dJ;dsimp only;rw[cD m (sN cs)]
 | .mn av cs lo hi,.mn av' cs' lo' hi',h,⟨a,b,c,d⟩=>by unfold dJ;dsimp only;rw[cD a (wb av),cD b (sN cs),c,d]
 | .sm ts lo hi,.sm ts' lo' hi',h,⟨a,c,d⟩=>by unfold dJ;dsimp only;rw[cD a (mR h.1.2.1),c,d]
 | .tb cs rows,.tb cs' rows',h,⟨pl,hp,e,hr⟩=>by
  subst e;unfold dJ;dsimp only;have hpc:=fC noS hp;have hl:(bv noS pl cs).length=cs.length:=hpc.length_eq
  rw[cD hpc (sN cs)];have e2:(rows.map (bv 0 pl)).map (bv 0 (plc (bv noS pl cs)))=rows.map (bv 0 (plc cs)):=by
   rw[map_map];refine map_congr_left fun r hrm=>?_
   have hrl:=h.2.2.1 r hrm
   show bv 0 (plc (bv noS pl cs)) (bv 0 pl r)=_
   have hpr:pl.Perm (range r.length):=by rw[hrl];exact hp
   rw[qN (hpc.nodup_iff.mpr h.1.2.1) (by rw[hl,(fC 0 hpr).length_eq];exact hrl),qN h.1.2.1 hrl]
   congr 1
   refine cD ?_ (mR (qR (by omega) h.1.2.1))
   rw[dH];have:=hp.map fun i=>(r.getD i 0,cs.getD i noS)
   rw[← dH,← dH,← hrl,eJ,hrl,eJ] at this;rw[← dH];exact this
  rw[cD (hr.map _) (Bs _),e2]
 | .wy cs ps es,.wy cs' ps' es',h,⟨e,p,q⟩=>by subst e;unfold dJ;dsimp only;rw[cD p (yN ps),cD q (wb es)]
 | .bh cs gap,.bh cs' gap',h,m=>by obtain⟨rfl,rfl⟩:=m;rfl
theorem mw : ∀{W W':Wx},okX ws ns W→uz W W'→cL W'=cL W
 | .pl W,.pl W',h,m=>by unfold cL;dsimp only;rw[pC (W:=W) h m]
 | .sa c vs W,.sa c' vs' W',h,⟨e,p,m⟩=>by subst e;unfold cL;dsimp only;rw[pC h.2.2.1 m,cD p (wb vs)]
noncomputable def nN:Sp:=fun vs H Q _=>∃(p:Addr) (zs:List (V × PySem.W.Ky)),vs=[.ref p]∧(H p=some (.lst (zs.map (·.1)))∨H p=some (.tup (zs.map (·.1))))∧zs.length≤60∧(∀z∈zs,KyV H z.1 z.2)∧(∃t:Nat,∀z∈zs,z.2.tag=t∧z.2≠.r []) ∧
 ∀(r:Addr) (zs':List (V × PySem.W.Ky)) (H':Hp),ao H H'→zs'.Perm zs→(zs'.map (·.2)).Pairwise PySem.W.Ky.le→H' r=some (.tup (zs'.map (·.1)))→Q (.ref r) H'
noncomputable def Ent (H:Hp) (e:Addr × V × PySem.W.Ky):Prop:=∃kv,H e.1=some (.tup [kv,e.2.1])∧KyV H kv e.2.2
theorem Ent.keep {e:Addr × V × PySem.W.Ky} (h:Ent H e) (k : ∀a xs,H a=some (.tup xs)→H' a=some (.tup xs)):Ent H' e:=by
 obtain⟨kv,h1,h2⟩:=h;refine⟨kv,k _ _ h1,?_⟩
 obtain⟨a,v,y⟩:=e;cases y with
 | s x=>exact h2
 | i x=>exact h2
 | r l=>obtain⟨b,e1,e2⟩:=h2;exact⟨b,e1,k _ _ e2⟩
noncomputable def DX:Sp:=fun vs H Q _=>∃(p:Addr) (x kv:V) (k:PySem.W.Ky) (es:List (Addr × V × PySem.W.Ky)),vs=[.ref p,x,kv]∧H p=some (.lst (es.map fun e=>V.ref e.1))∧es.length≤60∧(∀e∈es,Ent H e)∧KyV H kv k∧(∀e∈es,e.2.2.tag=k.tag)∧(es.map (·.2.2)).Pairwise PySem.W.Ky.le ∧
 ∀(es':List (Addr × V × PySem.W.Ky)) (H':Hp),(∀b o,b≠p→H b=some o→H' b=some o)→H' p=some (.lst (es'.map fun e=>V.ref e.1))→(∀e∈es',Ent H' e)→(es'.map (·.2)).Perm ((x,k) :: es.map (·.2))→(es'.map (·.2.2)).Pairwise PySem.W.Ky.le→Q .non H'
noncomputable def Ee:Sp:=fun vs H Q _=>∃(a b:Addr) (zs:List (V × PySem.W.Ky)) (kvs:List V),vs=[.ref a,.ref b]∧H a=some (.lst (zs.map (·.1)))∧H b=some (.lst kvs)∧kvs.length=zs.length∧(∀(i:Nat) v z,kvs[i]? = some v→zs[i]? = some z→KyV H v z.2)∧zs.length≤60∧(∃t:Nat,∀z∈zs,z.2.tag=t) ∧
 ∀(r:Addr) (zs':List (V × PySem.W.Ky)) (H':Hp),ao H H'→zs'.Perm zs→(zs'.map (·.2)).Pairwise PySem.W.Ky.le→H' r=some (.lst (zs'.map (·.1)))→Q (.ref r) H'
abbrev Am:=Fn P w K mg base "in_order" 1 ["things"] (nN)
theorem tu (T:Txt w K mg base) (L:FnL K mg "in_order" iY ["things"]) : @Am P w K mg base:=by
 ctx_has z sQ <;> obtain⟨p,zs,rfl,hp,hl,hk,ht,k⟩:=h
 ·rfl
 refine⟨_,(ai (aA (aF aM T.b_tuple (aa (aG vm T.b_sorted (aa (pvM 0) ac)) ac)))),?_⟩
 ctx_has v yS
 refine⟨zs,hp,by omega,hk,ht,fun q zs' hq hpm hsr=>⟨_,ab,fun r hr=>?_⟩⟩
 exact k r zs' _ ((ao.upd0 hq).upd_new hr) hpm hsr ab
abbrev DT:=Fn P w K mg base "_law_insert" 1 ["_law_found","_law_thing","_law_key"] (DX)
theorem nO (T:Txt w K mg base) (L:FnL K mg "_law_insert" fc ["_law_found","_law_thing","_law_key"]) : @DT P w K mg base:=by
 ctx_has z no <;> obtain⟨p,x,kv,y,es,rfl,hp,hl,he,hkv,htg,hso,k⟩:=h
 ·rfl
 refine⟨_,(af (aC 3 ae)
  (af (fO PassesOwn.never (PW.pt (gh (ay Bp (pvM 3) (aG bj T.b_len (aa (pvM 0) ac))) (gg (ay (BE hu) (ak uK (ak fI (pvM 0) (pvM 3)) ae) (pvM 2))))) (ai (aC 3 (aN bw (pvM 3) ae))))
  (ai (bU (eG PySem.F.slot_list_insert PySem.F.type_list_insert xF (pvM 0) (aa (pvM 3) (aa (aE (aa (pvM 2) (aa (pvM 1) ac))) ac))))))),?_⟩
 dsimp only [jk,wH,vh,tC,eV,A5,jK,uq,L2.fM,List.map,List.append_eq,length_cons,length_nil,replicate,cons_append,List.nil_append,Nat.reduceAdd,Nat.reduceSub,List.set,List.set_cons_zero,List.set_cons_succ];refine fQ (fun μ σ H'=>∃i:Nat,σ=[some (.ref p),some x,some kv,some (.int i)]∧H'=H∧i≤es.length∧(∀(j:Nat) e,j < i→es[j]? = some e→PySem.W.Ky.le e.2.2 y)∧μ=es.length - i)
  (fun σ H'=>∃i:Nat,σ=[some (.ref p),some x,some kv,some (.int i)]∧H'=H∧i≤es.length∧(∀(j:Nat) e,j < i→es[j]? = some e→PySem.W.Ky.le e.2.2 y)∧(∀e,es[i]? = some e→¬ PySem.W.Ky.le e.2.2 y))
  ⟨_,0,rfl,rfl,zero_le _,fun j e hj=>by omega,rfl⟩ ?_ ?_
 ·rintro R hR μ σ H ⟨i,rfl,rfl,hi,hle,rfl⟩
  ctx_has v hp Df
  refine cW (fun h1=>?_) (fun h1=>?_)
  ·have hil:i < es.length:=by rw[length_map] at h1;omega
   obtain⟨⟨ea,ev,ek⟩,hei⟩ : ∃e,es[i]? = some e:=⟨_,List.getElem?_eq_getElem hil⟩;obtain⟨kv2,e1,e2⟩:=he _ (mem_of_getElem? hei);refine⟨_,aO (by rw[List.getElem?_map,hei];rfl),ea,rfl,_,e1,_,aO (j:=0) rfl,ek,e2,y,hkv,htg _ (mem_of_getElem? hei),?_⟩
   refine cW (fun h2=>?_) (fun h2=>?_)
   ·refine⟨fun σ' H'=>σ'=[some (.ref p),some x,some kv,some (.int ((i:Int)+1))]∧H'=H,?_,rfl,rfl⟩
    rintro _ _ ⟨rfl,rfl⟩
    refine⟨es.length - (i+1),by omega,i+1,by simp,rfl,by omega,fun j e hj ej=>?_,rfl⟩
    by_cases hji:j=i
    ·subst hji
     rw[hei] at ej;cases ej;exact h2
    ·exact hle j e (by omega) ej
   ·refine hR _ _ ⟨i,rfl,rfl,hi,hle,fun e ee=>?_⟩
    rw[hei] at ee;cases ee;exact h2
  ·refine hR _ _ ⟨i,rfl,rfl,hi,hle,fun e ee=>?_⟩
   have:=(List.getElem?_eq_some_iff.mp ee).1
   rw[length_map] at h1;omega
 ·rintro σ H ⟨i,rfl,rfl,hi,hle,hno⟩
  ctx_has v hp
  refine⟨by decide,fun t ht=>?_⟩
  have htp:p≠t:=aj hp ht
  have s1:=ao.upd0 (o:=.tup [kv,x]) ht;refine⟨_,s1 _ _ hp,by omega,by rw[length_map];omega,by rw[length_map];exact ax (by omega),?_⟩
  have hdr : ∀e∈es.drop i,PySem.W.Ky.le y e.2.2:=fun e hm=>by
   obtain⟨j,hj,ej⟩:=List.getElem_of_mem hm;rw[List.getElem_drop] at ej;have hil:i < es.length:=by rw[length_drop] at hj;omega
   have h1:=PySem.W.Ky.le_of_not (hno _ (List.getElem?_eq_getElem hil))
   by_cases hj0:j=0
   ·subst hj0
    rw[← ej];exact h1
   ·have h2:=List.pairwise_iff_getElem.mp (pairwise_map.mp hso) i (i+j) hil (by rw[length_drop] at hj;omega) (by omega)
    rw[ej] at h2;exact PySem.W.Ky.le_trans h1 h2
  have htk : ∀e∈es.take i,PySem.W.Ky.le e.2.2 y:=fun e hm=>by
   obtain⟨j,hj,ej⟩:=List.getElem_of_mem hm;rw[length_take] at hj;rw[List.getElem_take] at ej;exact hle j e (by omega) (by rw[List.getElem?_eq_getElem (by omega),ej])
  have kp : ∀b o,b≠p→H b=some o→upd (upd H t (.tup [kv,x])) p (.lst ((es.map fun e=>V.ref e.1).take ((i:Int)).toNat++V.ref t ::(es.map fun e=>V.ref e.1).drop ((i:Int)).toNat)) b=some o:=fun b o hb e=>by rw[ag hb];exact s1 _ _ e
  have ktup : ∀a xs,H a=some (.tup xs)→upd (upd H t (.tup [kv,x])) p (.lst ((es.map fun e=>V.ref e.1).take ((i:Int)).toNat++V.ref t ::(es.map fun e=>V.ref e.1).drop ((i:Int)).toNat)) a=some (.tup xs):=fun a xs e=>kp _ _ (bq e hp (by intro z;cases z)) e
  have hE:Ent (upd (upd H t (.tup [kv,x])) p (.lst ((es.map fun e=>V.ref e.1).take ((i:Int)).toNat++V.ref t ::(es.map fun e=>V.ref e.1).drop ((i:Int)).toNat))) (t,x,y):=by
   refine⟨kv,by rw[ag htp.symm,ab],?_⟩
   cases y with
   | s z=>exact hkv
   | i z=>exact hkv
   | r l=>obtain⟨c,c1,c2⟩:=hkv;exact⟨c,c1,ktup _ _ c2⟩
  refine k (es.take i++(t,x,y) :: es.drop i) _ kp ?_ (fun e hm=>?_) ?_ ?_
  ·rw[ab,map_append,map_cons,map_take,map_drop]
   simp
  ·rcases mem_append.mp hm with z | z
   ·exact(he e (mem_of_mem_take z)).keep ktup
   ·rcases mem_cons.mp z with rfl | z
    ·exact hE
    ·exact(he e (List.mem_of_mem_drop z)).keep ktup
  ·rw[map_append,map_cons]
   refine perm_middle.trans ?_
   rw[← map_append,List.take_append_drop]
  ·rw[pairwise_map,List.pairwise_append]
   refine⟨(pairwise_map.mp hso).sublist (take_sublist _ _),List.pairwise_cons.mpr ⟨fun e hm=>hdr e hm,(pairwise_map.mp hso).sublist (List.drop_sublist _ _)⟩,fun e hm e' hm'=>?_⟩
   rcases mem_cons.mp hm' with rfl | z
   ·exact htk e hm
   ·exact PySem.W.Ky.le_trans (htk e hm) (hdr e' z)
abbrev CJ:=Fn P w K mg base "_law_by_key" 2 ["_law_things","_law_keys"] (Ee)
theorem nL (T:Txt w K mg base) (L:FnL K mg "_law_by_key" dz ["_law_things","_law_keys"]) (FN : @DT P w K mg base) : @CJ P w K mg base:=by
 ctx_has z nF <;> obtain⟨a,b,zs,kvs,rfl,ha,hb,hkl,hkv,hl,⟨tg,htg⟩,k⟩:=h
 ·rfl
 refine⟨_,(af (aC 2 (bA ac))
  (af (bE (bY rfl T.b_range (aa (aG bj T.b_len (aa (pvM 0) ac)) ac)) (aB 3) (ai (bU (ah FN (aa (pvM 2) (aa (ak fI (pvM 0) (pvM 3)) (aa (ak fI (pvM 1) (pvM 3)) ac)))))))
  (ai (aA (bn (N:=["_law_key","_law_thing"]) (nt:=2) (js:=[]) (aI ["_law_things","_law_keys","_law_found","_law_k"] (am dz).names) (eY (K:=K) rfl (pvM 2)) (du (n:=2) rfl (aY (aB 0) (aY (aB 1) cY))) dq aV (pvM 1)))))),?_⟩
 ctx_has v ha
 refine⟨le_of_lt (ax (by simp)),fun p hp=>?_⟩
 have s1:=ao.upd0 (o:=.lst []) hp;refine⟨_,s1 _ _ ha,by omega,by rw[length_map];omega,?_⟩
 rw[show((((zs.map (·.1)).length:Nat):Int)).toNat=zs.length by simp]
 refine bW bL (fun i σ H'=>∃(v:Option V) (es:List (Addr × V × PySem.W.Ky)),σ=[some (.ref a),some (.ref b),some (.ref p),v]∧H' p=some (.lst (es.map fun e=>V.ref e.1))∧(∀e∈es,Ent H' e)∧(es.map (·.2)).Perm (zs.take i)∧(es.map (·.2.2)).Pairwise PySem.W.Ky.le∧ao H H')
  ⟨none,[],rfl,ab,by simp,by simp,by simp,s1⟩ (fun _ _ _ _=>True.intro) ?_ ?_
 ·rintro i x σ H2 hi hx ⟨v,es,rfl,h2p,he,hpm,hso,s2⟩
  rw[aJ] at hi;rw[fS hi] at hx;cases hx;have h2a:=s2 _ _ ha;have h2b:=s2 _ _ hb;have hzi:zs[i]? = some zs[i]:=List.getElem?_eq_getElem hi
  have hki:kvs[i]? = some kvs[i]:=List.getElem?_eq_getElem (by omega)
  have hel:es.length≤60:=by have:=hpm.length_eq;rw[length_map,length_take] at this;omega
  have e1:atI (zs.map (·.1)) ((0:Int)+i)=some zs[i].1:=by rw[Int.zero_add];exact aO (by rw[List.getElem?_map,hzi];rfl)
  have e2:atI kvs ((0:Int)+i)=some kvs[i]:=by rw[Int.zero_add];exact aO hki
  ctx_has v h2a h2b e1 e2
  refine⟨p,_,_,zs[i].2,es,rfl,h2p,hel,he,(hkv i _ _ hki hzi).same s2,fun e hm=>?_,hso,fun es' H3 kp h3p he' hpm' hso'=>⟨es',h3p,he',?_,hso',fun b' o e=>kp b' o (aj e hp) (s2 _ _ e)⟩⟩
  ·rw[htg zs[i] (List.getElem_mem hi),htg e.2 (mem_of_mem_take (hpm.mem_iff.mp (mem_map.mpr ⟨e,hm,rfl⟩)))]
  ·refine hpm'.trans ?_
   rw[take_add_one,hzi];exact(hpm.cons _).trans (List.perm_append_comm (l₁:=[zs[i]]))
 ·rintro σ H2 ⟨v,es,rfl,h2p,he,hpm,hso,s2⟩
  rw[aJ,take_length] at hpm;have hel:es.length≤60:=by have:=hpm.length_eq;rw[length_map] at this;omega
  ctx_has v h2p
  intro D hD;refine cP cq (fun i ys H'=>ys=(es.take i).map (·.2.1)∧H' D=some (.lst ys)∧ao H2 H') ⟨by simp,ab,ao.upd0 hD⟩ (fun i ys H' zq43=>by obtain⟨_,_,s⟩:=zq43;exact(.of (s _ _ h2p))) ?_ ?_
  ·rintro i x ys H3 hi hx ⟨rfl,h3D,s3⟩
   rw[length_map] at hi;have hei:es[i]? = some es[i]:=List.getElem?_eq_getElem hi
   rw[List.getElem?_map,hei] at hx;cases hx;obtain⟨kv2,e1,e2⟩:=(he es[i] (List.getElem_mem hi)).keep fun a xs e=>s3 _ _ e
   ctx_has v e1
   refine⟨h3D,by simp;exact ax (by omega),?_,ab,fun b' o e=>by rw[ag (aj e hD)];exact s3 _ _ e⟩
   rw[take_add_one,hei,map_append];rfl
  ·rintro ys H3 ⟨rfl,h3D,s3⟩
   rw[length_map,take_length] at h3D;refine k D (es.map (·.2)) H3 (s2.trans s3) hpm ?_ ?_
   ·rw[map_map];exact hso
   ·rw[map_map];exact h3D
abbrev Ch:=Fn P w K mg base "_law_rising" 3 ["_law_things"] (nN)
theorem nS (T:Txt w K mg base) (L:FnL K mg "_law_rising" fb ["_law_things"]) (Fl : @CJ P w K mg base) : @Ch P w K mg base:=by
 ctx_has z lZ <;> obtain⟨p,zs,rfl,hp,hl,hk,ht,k⟩:=h
 ·rfl
 refine⟨_,(ai (aA (aF aM T.b_tuple (aa (ah Fl (aa (aF iP T.b_list (aa (pvM 0) ac)) (aa (aF iP T.b_list (aa (pvM 0) ac)) ac))) ac)))),?_⟩
 ctx_has v qx
 have hq:uY H p (zs.map (·.1)):=hp
 refine⟨_,hq,fun l1 h1=>?_⟩
 have s1:=ao.upd0 (o:=.lst (zs.map (·.1))) h1;refine⟨_,hq.imp (fun e=>s1 _ _ e) (fun e=>s1 _ _ e),fun l2 h2=>?_⟩
 have s2:=s1.upd_new (o:=.lst (zs.map (·.1))) h2;have n12:l1≠l2:=fun z=>by rw[← z,ab] at h2;cases h2
 refine⟨l1,l2,zs,zs.map (·.1),rfl,by rw[ag n12,ab],ab,by simp,fun i v z e1 e2=>?_,hl,?_,fun r zs' H3 s3 hpm hso hr3=>⟨r,rfl,_,hr3,fun q hq=>?_⟩⟩
 ·rw[List.getElem?_map,e2] at e1
  cases e1;exact(hk z (mem_of_getElem? e2)).same s2
 ·obtain⟨tg,h⟩:=ht
  exact⟨tg,fun z hz=>(h z hz).1⟩
 ·exact k q zs' _ ((s2.trans s3).upd_new hq) hpm hso ab
theorem bo {F:α→β} {zs m:List β} (h:zs.Perm m) : ∀{l:List α},m=l.map F→∃l':List α,l'.Perm l∧zs=l'.map F:=by
 induction h with
 | nil =>
  intro l e;cases l with
  | nil=>exact⟨[],.refl _,rfl⟩
  | cons a l=>cases e
 | cons x h ih =>
  intro l e;cases l with
  | nil=>cases e
  | cons a l =>
   obtain⟨e1,e2⟩:=List.cons.inj e;obtain⟨l',h1,h2⟩:=ih e2;exact⟨a :: l',h1.cons a,by rw[e1,h2];rfl⟩
 | swap x y m =>
  intro l e;cases l with
  | nil=>cases e
  | cons a l =>
   cases l with
   | nil=>cases (List.cons.inj e).2
   | cons b l =>
    obtain⟨e1,e2⟩:=List.cons.inj e;obtain⟨e2,e3⟩:=List.cons.inj e2;exact⟨b :: a :: l,.swap _ _ _,by rw[e1,e2,e3];rfl⟩
 | trans _ _ ih1 ih2 =>
  intro l e;obtain⟨l2,h1,h2⟩:=ih2 e;obtain⟨l3,h3,h4⟩:=ih1 h2;exact⟨l3,h3.trans h1,h4⟩
theorem yY (h:α→β) (g:β→PySem.W.Ky) {l:List α} (hi : ∀a∈l.map h,∀b∈l.map h,g a=g b→a=b):(sk (fun a=>g (h a)) l).map h=sk g (l.map h) :=
 er ((bG _ l).map h) (by rw[map_map];exact ik (fun a=>g (h a)) l) hi
theorem rF {p:Addr} {l:List α} {Q:VK} {E:XK} (F:α→V) (f:α→PySem.W.Ky) (hp:H p=some (.lst (l.map F))∨H p=some (.tup (l.map F))) (hl:l.length≤60) (hk : ∀a∈l,KyV H (F a) (f a)) (ht : ∃t:Nat,∀a∈l,(f a).tag=t∧f a≠.r [])
  (hi : ∀a∈l,∀b∈l,f a=f b→a=b) (q : ∀r H',ao H H'→H' r=some (.tup ((sk f l).map F))→Q (.ref r) H'):nN [.ref p] H Q E:=by
 refine⟨p,l.map fun a=>(F a,f a),rfl,by rw[map_map];exact hp,by simpa using hl,fun z hz=>?_,?_,fun r zs' H' s hpm hso hr=>?_⟩
 ·obtain⟨a,ha,rfl⟩:=mem_map.mp hz
  exact hk a ha
 ·obtain⟨t,h⟩:=ht
  refine⟨t,fun z hz=>?_⟩
  obtain⟨a,ha,rfl⟩:=mem_map.mp hz;exact h a ha
 ·obtain⟨l',h1,rfl⟩:=bo hpm rfl
  rw[map_map] at hso hr;have e:l'=sk f l:=er h1 hso hi
  rw[e] at hr;exact q r H' s hr
theorem ip {p:Addr} {cs:List Str} {Q:VK} {E:XK} (hp:H p=some (.tup (cs.map V.str))) (hl:cs.length≤60) (q : ∀r H',ao H H'→H' r=some (.tup ((sk .s cs).map V.str))→Q (.ref r) H'):nN [.ref p] H Q E :=
 rF V.str .s (.inr hp) hl (fun _ _=>rfl) ⟨0,fun _ _=>⟨rfl,fun z=>nomatch z⟩⟩ (sN cs) q
theorem im {p:Addr} {cs:List Int} {Q:VK} {E:XK} (hp:H p=some (.tup (cs.map V.int))) (hl:cs.length≤60) (q : ∀r H',ao H H'→H' r=some (.tup ((sk .i cs).map V.int))→Q (.ref r) H'):nN [.ref p] H Q E :=
 rF V.int .i (.inr hp) hl (fun _ _=>rfl) ⟨1,fun _ _=>⟨rfl,fun z=>nomatch z⟩⟩ (wb cs) q
theorem tJ {p:Addr} {as:List (Addr × List Int)} {Q:VK} {E:XK} (hp:H p=some (.lst (as.map fun x=>V.ref x.1))∨H p=some (.tup (as.map fun x=>V.ref x.1))) (hl:as.length≤60) (hr : ∀x∈as,H x.1=some (.tup (x.2.map V.int)))
  (hn:(as.map (·.2)).Nodup) (h0 : ∀x∈as,x.2≠[]) (q : ∀r vs H',ao H H'→H' r=some (.tup vs)→dn H' vs (sk .r (as.map (·.2)))→Q (.ref r) H'):nN [.ref p] H Q E :=
 rF (fun x=>V.ref x.1) (fun x=>.r x.2) hp hl (fun x hx=>⟨x.1,rfl,hr x hx⟩) ⟨2,fun x hx=>⟨rfl,fun z=>h0 x hx (by injection z)⟩⟩ (fun a ha b hb e=>lG hn ha hb (by injection e))
  fun r H' s hr'=>q r _ H' s hr' ⟨sk (fun x=>.r x.2) as,rfl,(yY (fun x:Addr × List Int=>x.2) .r (Bs _)).symm,fun x hx=>s _ _ (hr x ((bG _ as).mem_iff.mp hx))⟩
theorem qc {p:Addr} {Q:VK} {E:XK} (hp:H p=some (.tup (as.map fun x=>V.ref x.1))) (hl:as.length≤60) (hr : ∀x∈as,H x.1=some (.tup [.int x.2.1,.int x.2.2.1,.int x.2.2.2]))
  (hn:(as.map (·.2)).Nodup) (q : ∀r vs H',ao H H'→H' r=some (.tup vs)→jM H' vs (sk kP (as.map (·.2)))→Q (.ref r) H'):nN [.ref p] H Q E :=
 rF (fun x:Addr × Int × Int × Int=>V.ref x.1) (fun x=>kP x.2) (.inr hp) hl (fun x hx=>(⟨x.1,rfl,hr x hx⟩ : ∃a,V.ref x.1 = .ref a∧H a=some (.tup ([x.2.1,x.2.2.1,x.2.2.2].map V.int)))) ⟨2,fun x hx=>⟨rfl,fun z=>by unfold kP at z;injection z with z;cases z⟩⟩ (fun a ha b hb e=>lG hn ha hb (yN (as.map (·.2)) _ (mem_map.mpr ⟨a,ha,rfl⟩) _ (mem_map.mpr ⟨b,hb,rfl⟩) e))
  fun r H' s hr'=>q r _ H' s hr' ⟨sk (fun x=>kP x.2) as,rfl,yY (fun x:Addr × Int × Int × Int=>x.2) kP (yN _),fun x hx=>s _ _ (hr x ((bG _ as).mem_iff.mp hx))⟩
theorem pI {f:α→β} {l:List α} (h:(l.map f).Nodup):l.Nodup:=(pairwise_map.mp h).imp fun ne e=>ne (by rw[e])
noncomputable def bM (H:Hp):Prop:=kH tabs H
theorem bM.same (h:bM H) (e:ao H H'):bM H':=fun t ht=>e _ _ (h t ht)
theorem bM.t1 (h:bM H):H 103=some (.tab (qL "plain_table")):=h (105,103,qL "plain_table") (by simp[tabs])
theorem bM.t2 (h:bM H):H 108=some (.tab (qL "plain_form")):=h (112,108,qL "plain_form") (by simp[tabs])
noncomputable def El:Sp:=fun vs H Q _=>∃(w:Addr) (ws cs:List Str) (ns:List Int) (rows:List (List Int)),vs=[.ref w]∧bM H∧WS H w (.tb cs rows)∧okW ws ns (.tb cs rows)∧∀r H',ao H H'→WS H' r (dJ (.tb cs rows))→Q (.ref r) H'
noncomputable def yn:Sp:=fun vs H Q _=>∃(w:Addr) (ws:List Str) (ns:List Int) (W:Wi),vs=[.ref w]∧bM H∧WS H w W∧okW ws ns W∧∀r H',ao H H'→WS H' r (dJ W)→Q (.ref r) H'
noncomputable def yW:Sp:=fun vs H Q _=>∃(w:Addr) (ws:List Str) (ns:List Int) (c:Str) (us:List Int) (W:Wi),vs=[.ref w]∧bM H∧WX H w (.sa c us W)∧okX ws ns (.sa c us W)∧∀r H',ao H H'→WX H' r (cL (.sa c us W))→Q (.ref r) H'
theorem nK (T:Txt w K mg base) (L:tZ K mg "plain_table" bK ["wish"] 103) (Ff : @Am P w K mg base):Fn P w K mg base "plain_table" 2 ["wish"] (El):=by
 have nd:=gS.nd;refine L.ok gS (fun vs H Q E h=>?_) (fun f c hc A outer s H vs Q E hr h=>?_) <;> obtain⟨w,ws,cs,ns,rows,rfl,tb,hW,hok,k⟩:=h
 ·rfl
 have hu:=sV hr;refine⟨_,(af (aC 1 (zu (pt:=103) (q:=qL "plain_table") (j:=0) hr rfl rfl T.b_sorted rfl T.b_range (aa (aG bZ T.b_len (aa (ak ap (pvM 0) ae) ac)) ac) rfl hc T.bm rfl rfl rfl rfl rfl rfl rfl (fun _ _ _ _=>rfl) rfl rfl rfl rfl rfl (by decide+kernel) (by decide) (by decide) (by decide) (fun _ _=>rfl) (fun _ _=>rfl)))
  (af (cg 2 (N:=["row","places"]) (nt:=1) (js:=[1]) (aI ["wish","places","rows"] (am bK).names) (cU K (ak ap (pvM 0) ae)) (aB 0) aQ aV (aF aM T.b_tuple (aa (bn (N:=["place","row"]) (nt:=1) (js:=[0]) (aI ["row","places"] (Dj (am bK).kind (am bK).names _)) (eY (K:=K) rfl (pvM 1)) (aB 0) aQ aV (ak uK (pvM 1) (pvM 0))) ac)))
  (ai (aA (aE (aa au (aa (ah Ff (aa (ak ap (pvM 0) ae) ac)) (aa (ah Ff (aa (pvM 2) ac)) ac)))))))),?_⟩
 obtain⟨c,t,vs,h1,h2,h3,as,rfl,rfl,h4⟩:=hW;ctx_has v h1 h2 zE
 have hcl:cs.length≤12:=hok.1.2.2.2
 have hnd:cs.Nodup:=hok.1.2.1
 have hal:as.length≤7:=by have:=hok.2.2.2;rw[length_map] at this;exact this
 refine⟨cs,rfl,by simp,by omega,tb.t1,fun H2 r zs' s2 hr2 hpm hso=>?_⟩
 have ez:zs'=sk kT ((range cs.length).zip cs):=er hpm hso (mR (qR (by simp) hnd))
 have ez2:zs'.map (fun z=>V.int z.1)=(plc cs).map fun i:Nat=>V.int i:=by rw[ez];unfold plc;rw[map_map];rfl
 rw[ez2];have s3:=s2.upd_new (o:=.lst ((plc cs).map fun i:Nat=>V.int i)) hr2
 have h3r:upd H2 r (.lst ((plc cs).map fun i:Nat=>V.int i)) r=some (.lst ((plc cs).map fun i:Nat=>V.int i)):=ab
 generalize upd H2 r (.lst ((plc cs).map fun i:Nat=>V.int i))=H3 at s3 h3r ⊢
 have hpl:(plc cs).length=cs.length:=by rw[(fP cs).length_eq,length_range]
 refine⟨_,s3 _ _ h1,_,aO (j:=2) rfl,t,rfl,_,s3 _ _ h3,fun D hD=>?_⟩
 refine da aW (f:=fun x:Addr × List Int=>bv 0 (plc cs) x.2) (c:=fun r:List Int=>r.map V.int) hD (fun H' s=>.of (s _ _ (s3 _ _ h3))) (by omega) ?_ ?_
 ·intro z hz H4 Q4 s4 q4
  have h4r:=s4 _ _ h3r;have h4z:=s4 _ _ (s3 _ _ (h4 z hz));have hzl:z.2.length=cs.length:=hok.2.2.1 z.2 (mem_map.mpr ⟨z,hz,rfl⟩)
  ctx_has v h4r
  intro D2 hD2;refine cT cq (fun v=>match v with | .int i=>.int (z.2.getD i.toNat 0) | _=>.non) hD2 (fun H' s=>.of (s _ _ h4r)) (by rw[length_map];omega) ?_ ?_
  ·intro x H5 Q5 hx s5 q5
   obtain⟨i,hi,rfl⟩:=mem_map.mp hx;have hil:i < z.2.length:=by rw[hzl];exact mem_range.mp ((fP cs).mem_iff.mp hi)
   have h5z:=s5 _ _ h4z;ctx_has v h5z
   refine⟨_,aO (by rw[List.getElem?_map,List.getElem?_eq_getElem hil];rfl),?_⟩
   have:=q5 H5 (ao.refl _)
   simpa [getD_eq_getElem?_getD,hil] using this
  ·intro H5 s5 h5
   ctx_has v h5
   intro t' ht';refine q4 t' _ (s5.upd_new ht') ?_
   rw[ab];unfold bv;rw[map_map,map_map];rfl
 ·intro bs H4 hbs hbt s4 h4D
  have s04:=s3.trans s4;refine⟨_,s04 _ _ h1,_,aO (j:=1) rfl,?_⟩
  refine ip (s04 _ _ h2) (by omega) fun r2 H5 s5 h5r=>?_
  have hok2:=rE hok (il hok);have ebs:bs.map (·.2)=(as.map (·.2)).map (bv 0 (plc cs)):=by rw[hbs,map_map];rfl
  have hbl:bs.length≤60:=by have:=congrArg List.length hbs;rw[length_map,length_map] at this;omega
  have hbn:(bs.map (·.2)).Nodup:=by rw[ebs];exact(bG _ _).nodup_iff.mp hok2.2.1
  refine tJ (.inl (s5 _ _ h4D)) hbl (fun x hx=>s5 _ _ (hbt x hx)) hbn (fun x hx e=>?_) fun r3 vs H6 s6 h6r hrv=>⟨by decide,fun w' hw'=>?_⟩
  ·have:x.2∈bs.map (·.2):=mem_map.mpr ⟨x,hx,rfl⟩
   rw[ebs,e] at this;obtain⟨r0,_,e0⟩:=mem_map.mp this;have hc0:=hok.1.1;unfold bv at e0;rw[map_eq_nil_iff] at e0;rw[e0] at hpl;exact hc0 (length_eq_zero_iff.mp hpl.symm)
  ·have s7:=ao.upd0 (o:=.tup [V.str (Str.ofString "table"),V.ref r2,V.ref r3]) hw'
   refine k w' _ (((s04.trans s5).trans s6).trans s7) ⟨r2,r3,vs,ab,s7 _ _ (s6 _ _ h5r),s7 _ _ h6r,?_⟩
   rw[ebs] at hrv;exact hrv.keep fun a xs e=>s7 _ _ e
abbrev Ag:=Fn P w K mg base "plain_form" 3 ["wish"] (yn)
theorem on (T:Txt w K mg base) (L:tZ K mg "plain_form" dj ["wish"] 108) (Ff : @Am P w K mg base) (FK:Fn P w K mg base "plain_table" 2 ["wish"] (El)) : @Ag P w K mg base:=by
 have nd:=dv.nd;refine L.ok dv (fun vs H Q E h=>?_) (fun f c hc A outer s H vs Q E hr h=>?_) <;> obtain⟨w,ws,ns,W,rfl,tb,hW,hok,k⟩:=h
 ·rfl
 have hu:=sV hr;refine⟨_,(af (aK (ay aR (ak ap (pvM 0) ae) au) (ai (aA (aE (aa au (aa (ah Ff (aa (ak ap (pvM 0) ae) ac)) ac))))) az)
  (af (aK (ay aR (ak ap (pvM 0) ae) au) (ai (aA (aE (aa au (aa (ah Ff (aa (ak ap (pvM 0) ae) ac)) (aa (ah Ff (aa (ak ap (pvM 0) ae) ac)) (aa (ak ap (pvM 0) ae) (aa (ak ap (pvM 0) ae) ac)))))))) az)
  (af (aK (ay aR (ak ap (pvM 0) ae) au) (ai (aA (aE (aa au (aa (aF aM T.b_tuple (aa (yw (pt:=108) (q:=qL "plain_form") hr rfl T.b_sorted (ak ap (pvM 0) ae) rfl hc T.bm rfl rfl rfl (fun _ _ _ _=>rfl) rfl rfl rfl rfl (by decide+kernel) (by decide) (fun _ _=>rfl)) ac)) (aa (ak ap (pvM 0) ae) (aa (ak ap (pvM 0) ae) ac))))))) az)
  (af (aK (ay aR (ak ap (pvM 0) ae) au) (ai (aA (ah FK (aa (pvM 0) ac)))) az)
  (af (aK (ay aR (ak ap (pvM 0) ae) au) (ai (aA (aE (aa au (aa (ak ap (pvM 0) ae) (aa (ah Ff (aa (ak ap (pvM 0) ae) ac)) (aa (ah Ff (aa (ak ap (pvM 0) ae) ac)) ac))))))) az)
  (af (aK (ay aR (ak ap (pvM 0) ae) au) (ai aL) az)
  (ai (aA (pvM 0))))))))),?_⟩
 cases W with
 | un cs =>
  obtain⟨c,h1,h2⟩:=hW;have hcl:cs.length≤12:=hok.2.2.2
  refine aw fun R hR=>?_
  ctx_has v h1
  refine ip h2 (by omega) fun r H1 s1 h1r=>⟨by decide,fun w' hw'=>?_⟩
  have s2:=ao.upd0 (o:=.tup [V.str (Str.ofString "unlike"),V.ref r]) hw';exact k w' _ (s1.trans s2) ⟨r,ab,s2 _ _ h1r⟩
 | mn av cs lo hi =>
  obtain⟨a,c,h1,h2,h3⟩:=hW;have hcl:cs.length≤12:=hok.1.2.2.2
  have hvl:av.length≤20:=hok.2.2.2
  refine aw fun R hR=>?_
  ctx_has v h1
  subst hR;refine aw fun R hR=>?_
  ctx_has v h1
  refine im h2 (by omega) fun r H1 s1 h1r=>?_
  have h11:=s1 _ _ h1;ctx_has v h11
  refine ip (s1 _ _ h3) (by omega) fun r2 H2 s2 h2r=>?_
  have h12:=s2 _ _ h11;ctx_has v h12
  refine⟨by decide,fun w' hw'=>?_⟩
  have s3:=ao.upd0 (o:=.tup [V.str (Str.ofString "many"),V.ref r,V.ref r2,V.int lo,V.int hi]) hw';exact k w' _ ((s1.trans s2).trans s3) ⟨r,r2,ab,s3 _ _ (s2 _ _ h1r),s3 _ _ h2r⟩
 | sm ts lo hi =>
  obtain⟨t,h1,as,h2,rfl,h3⟩:=hW;have hal:as.length≤12:=by have:=hok.1.2.2.2;rw[length_map,length_map] at this;exact this
  refine aw fun R hR=>?_
  ctx_has v h1
  subst hR;refine aw fun R hR=>?_
  ctx_has v h1
  subst hR;refine aw fun R hR=>?_
  ctx_has v h1 yH
  refine⟨as.map fun x=>(V.ref x.1,x.2.2),by rw[map_map];exact h2,by rw[length_map];omega,tb.t2,fun z hz=>?_,fun H2 r zs' s2 hr2 hpm hso=>⟨_,ab,fun l hl=>?_⟩⟩
  ·obtain⟨x,hx,rfl⟩:=mem_map.mp hz
   exact⟨x.1,rfl,_,h3 x hx,aO (j:=1) rfl⟩
  ·obtain⟨as',hp',rfl⟩:=bo hpm rfl
   rw[map_map] at hso;have hT:as'.map (·.2)=sk kT (as.map (·.2)):=er (hp'.map _) (by rw[map_map];exact hso) (mR hok.1.2.1)
   have s4:=(s2.upd_new hr2).upd_new (o:=.tup ((as'.map fun x=>(V.ref x.1,x.2.2)).map fun x=>x.1)) hl
   have h4l:upd (upd H2 r (.lst ((as'.map fun x=>(V.ref x.1,x.2.2)).map fun x=>x.1))) l (.tup ((as'.map fun x=>(V.ref x.1,x.2.2)).map fun x=>x.1)) l=some (.tup (as'.map fun x=>V.ref x.1)):=by rw[ab,map_map];rfl
   generalize upd (upd H2 r (.lst ((as'.map fun x=>(V.ref x.1,x.2.2)).map fun x=>x.1))) l (.tup ((as'.map fun x=>(V.ref x.1,x.2.2)).map fun x=>x.1))=H4 at s4 h4l ⊢
   refine⟨_,s4 _ _ h1,_,aO (j:=2) rfl,_,s4 _ _ h1,_,aO (j:=3) rfl,by decide,fun p hp=>?_⟩
   have s5:=ao.upd0 (o:=.tup [V.str (Str.ofString "sum"),V.ref l,bV lo,bV hi]) hp;exact k p _ (s4.trans s5) ⟨l,ab,as',s5 _ _ h4l,hT,fun x hx=>s5 _ _ (s4 _ _ (h3 x (hp'.mem_iff.mp hx)))⟩
 | tb cs rows =>
  obtain⟨c,t,vs,h1,h2,h3,h4⟩:=id hW;refine aw fun R hR=>?_
  ctx_has v h1
  subst hR;refine aw fun R hR=>?_
  ctx_has v h1
  subst hR;refine aw fun R hR=>?_
  ctx_has v h1
  subst hR;refine aw fun R hR=>?_
  ctx_has v h1
  exact⟨w,ws,cs,ns,rows,rfl,tb,hW,hok,k⟩
 | wy cs ps es =>
  obtain⟨c,t,e,vs,h1,h2,h3,⟨as,rfl,rfl,h4⟩,h5⟩:=hW;have hpl:as.length≤60:=by have:=hok.2.2.1;rw[length_map] at this;exact this
  have hel:es.length≤60:=hok.2.2.2
  have hpn:(as.map (·.2)).Nodup:=pI hok.2.1
  refine aw fun R hR=>?_
  ctx_has v h1
  subst hR;refine aw fun R hR=>?_
  ctx_has v h1
  subst hR;refine aw fun R hR=>?_
  ctx_has v h1
  subst hR;refine aw fun R hR=>?_
  ctx_has v h1
  subst hR;refine aw fun R hR=>?_
  ctx_has v h1
  refine qc h3 hpl h4 hpn fun r vs H1 s1 h1r hst=>?_
  have h11:=s1 _ _ h1;ctx_has v h11
  refine im (s1 _ _ h5) hel fun r2 H2 s2 h2r=>⟨by decide,fun w' hw'=>?_⟩
  have s3:=ao.upd0 (o:=.tup [V.str (Str.ofString "way"),V.ref c,V.ref r,V.ref r2]) hw';exact k w' _ ((s1.trans s2).trans s3) ⟨c,r,r2,vs,ab,s3 _ _ (s2 _ _ (s1 _ _ h2)),s3 _ _ (s2 _ _ h1r),hst.keep fun a xs e=>s3 _ _ (s2 _ _ e),s3 _ _ h2r⟩
 | bh cs gap =>
  obtain⟨c,h1,h2⟩:=id hW;refine aw fun R hR=>?_
  ctx_has v h1
  subst hR;refine aw fun R hR=>?_
  ctx_has v h1
  subst hR;refine aw fun R hR=>?_
  ctx_has v h1
  subst hR;refine aw fun R hR=>?_
  ctx_has v h1
  subst hR;refine aw fun R hR=>?_
  ctx_has v h1
  subst hR;refine aw fun R hR=>?_
  ctx_has v h1
  subst hR;ctx_has v h1
  exact k w H (ao.refl H) hW
abbrev BM:=Fn P w K mg base "plain_form" 4 ["wish"] (yW)
theorem ow (T:Txt w K mg base) (L:tZ K mg "plain_form" dj ["wish"] 108) (Faf : @Ag P w K mg base) (Ff : @Am P w K mg base) : @BM P w K mg base:=by
 have nd:=dv.nd;refine L.ok dv (fun vs H Q E h=>?_) (fun f c hc A outer s H vs Q E hr h=>?_) <;> obtain⟨w,ws,ns,c,us,W,rfl,tb,hW,hok,k⟩:=h
 ·rfl
 have hu:=sV hr;refine⟨_,(af (aK (ay aR (ak ap (pvM 0) ae) au) (ai aL) az)
  (af (aK (ay aR (ak ap (pvM 0) ae) au) (ai aL) az)
  (af (aK (ay aR (ak ap (pvM 0) ae) au) (ai aL) az)
  (af (aK (ay aR (ak ap (pvM 0) ae) au) (ai aL) az)
  (af (aK (ay aR (ak ap (pvM 0) ae) au) (ai aL) az)
  (af (aK (ay aR (ak ap (pvM 0) ae) au) (ai (aA (aE (aa au (aa (ak ap (pvM 0) ae) (aa (ah Ff (aa (ak ap (pvM 0) ae) ac)) (aa (ah Faf (aa (ak ap (pvM 0) ae) ac)) ac))))))) az)
  (ai aL))))))),?_⟩
 obtain⟨t,u,h1,h2,h3⟩:=hW;have hul:us.length≤20:=hok.2.1.2.2
 ctx_has v h1
 refine im h2 (by omega) fun r H1 s1 h1r=>?_
 have h11:=s1 _ _ h1;ctx_has v h11
 refine⟨u,ws,ns,W,rfl,tb.same s1,cK h3 fun a xs e=>s1 _ _ e,hok.2.2.1,fun r2 H2 s2 hr2=>⟨by decide,fun w' hw'=>?_⟩⟩
 have s3:=ao.upd0 (o:=.tup [V.str (Str.ofString "same"),V.str c,V.ref r,V.ref r2]) hw';exact k w' _ ((s1.trans s2).trans s3) ⟨r,r2,ab,s3 _ _ (s2 _ _ h1r),cK hr2 fun a xs e=>s3 _ _ e⟩
abbrev Au:=Fn P w K mg base "_law_plain" 4 ["_law_wish_here"] (yn)
theorem mO (T:Txt w K mg base) (L:FnL K mg "_law_plain" bR ["_law_wish_here"]) (Fe : @Ch P w K mg base) (Fl : @CJ P w K mg base) : @Au P w K mg base:=by
 ctx_has z iM <;> obtain⟨w,ws,ns,W,rfl,tb,hW,hok,k⟩:=h
 ·rfl
 refine⟨_,(af (aK (ay aR (ak ap (pvM 0) ae) au) (ai aL) az)
  (af (aK (ay aR (ak ap (pvM 0) ae) au) (ai (aA (aE (aa au (aa (ah Fe (aa (ak ap (pvM 0) ae) ac)) (aa (ah Fe (aa (ak ap (pvM 0) ae) ac)) (aa (ak ap (pvM 0) ae) (aa (ak ap (pvM 0) ae) ac)))))))) az)
  (af (aK (ay aR (ak ap (pvM 0) ae) au) (ai (aA (aE (aa au (aa (ah Fe (aa (ak ap (pvM 0) ae) ac)) ac))))) az)
  (af (aK (ay aR (ak ap (pvM 0) ae) au) (ai (aA (aN eL (aE (aa au (aa (aF aM T.b_tuple (aa (ah Fl (aa (aF iN T.b_list (aa (ak ap (pvM 0) ae) ac)) (aa (bn (N:=["_law_a","_law_name"]) (nt:=2) (js:=[]) (aI ["_law_wish_here","_law_rows_here"] (am bR).names) (cU K (ak ap (pvM 0) ae)) (du (n:=2) rfl (aY (aB 0) (aY (aB 1) cY))) dq aV (pvM 1)) ac))) ac)) ac))) (bI nV (pvM 0) (bQ ae) cA)))) az)
  (af (aK (ay aR (ak ap (pvM 0) ae) au) (ai (aA (aE (aa au (aa (ak ap (pvM 0) ae) (aa (ah Fe (aa (ak ap (pvM 0) ae) ac)) (aa (ah Fe (aa (ak ap (pvM 0) ae) ac)) ac))))))) az)
  (af (aK (ay aR (ak ap (pvM 0) ae) au) (af (cg 1 (N:=["_law_row","_law_wish_here"]) (nt:=1) (js:=[0]) (aI ["_law_wish_here","_law_rows_here"] (am bR).names) (cU K (ak ap (pvM 0) ae)) (aB 0) aQ aV (aF aM T.b_tuple (aa (ah Fl (aa (aF iN T.b_list (aa (pvM 0) ac)) (aa (aF iN T.b_list (aa (ak ap (pvM 1) ae) ac)) ac))) ac)))
  (ai (aA (aE (aa au (aa (ah Fe (aa (ak ap (pvM 0) ae) ac)) (aa (ah Fe (aa (pvM 1) ac)) ac))))))) az)
  (ai (aA (pvM 0))))))))),?_⟩
 cases W with
 | un cs =>
  obtain⟨c,h1,h2⟩:=hW;have hcl:cs.length≤12:=hok.2.2.2
  refine aw fun R hR=>?_
  ctx_has v h1
  subst hR;refine aw fun R hR=>?_
  ctx_has v h1
  subst hR;refine aw fun R hR=>?_
  ctx_has v h1
  refine ip h2 (by omega) fun r H1 s1 h1r=>⟨by decide,fun w' hw'=>?_⟩
  have s2:=ao.upd0 (o:=.tup [V.str (Str.ofString "unlike"),V.ref r]) hw';exact k w' _ (s1.trans s2) ⟨r,ab,s2 _ _ h1r⟩
 | mn av cs lo hi =>
  obtain⟨a,c,h1,h2,h3⟩:=hW;have hcl:cs.length≤12:=hok.1.2.2.2
  have hvl:av.length≤20:=hok.2.2.2
  refine aw fun R hR=>?_
  ctx_has v h1
  subst hR;refine aw fun R hR=>?_
  ctx_has v h1
  refine im h2 (by omega) fun r H1 s1 h1r=>?_
  have h11:=s1 _ _ h1;ctx_has v h11
  refine ip (s1 _ _ h3) (by omega) fun r2 H2 s2 h2r=>?_
  have h12:=s2 _ _ h11;ctx_has v h12
  refine⟨by decide,fun w' hw'=>?_⟩
  have s3:=ao.upd0 (o:=.tup [V.str (Str.ofString "many"),V.ref r,V.ref r2,V.int lo,V.int hi]) hw';exact k w' _ ((s1.trans s2).trans s3) ⟨r,r2,ab,s3 _ _ (s2 _ _ h1r),s3 _ _ h2r⟩
 | sm ts lo hi =>
  obtain⟨t,h1,as,h2,rfl,h3⟩:=hW;have hal:as.length≤12:=by have:=hok.1.2.2.2;rw[length_map,length_map] at this;exact this
  refine aw fun R hR=>?_
  ctx_has v h1
  subst hR;refine aw fun R hR=>?_
  ctx_has v h1
  subst hR;refine aw fun R hR=>?_
  ctx_has v h1
  subst hR;refine aw fun R hR=>?_
  ctx_has v h1 h2
  intro l1 hl1;have s1:=ao.upd0 (o:=.lst (as.map fun x=>V.ref x.1)) hl1
  have h1l:upd H l1 (.lst (as.map fun x=>V.ref x.1)) l1=some (.lst (as.map fun x=>V.ref x.1)):=ab
  generalize upd H l1 (.lst (as.map fun x=>V.ref x.1))=H1 at s1 h1l ⊢
  refine⟨_,s1 _ _ h1,_,aO (j:=1) rfl,t,rfl,_,s1 _ _ h2,fun D hD=>?_⟩
  refine cP aW (fun i ys H'=>ys=(as.take i).map (fun x=>V.str x.2.2)∧H' D=some (.lst ys)∧ao H1 H') ⟨by simp,ab,ao.upd0 hD⟩ (fun i ys H' zq44=>by obtain⟨_,_,s⟩:=zq44;exact(.of (s _ _ (s1 _ _ h2)))) ?_ ?_
  ·rintro i x ys H3 hi hx ⟨rfl,h3D,s3⟩
   rw[length_map] at hi;have hei:as[i]? = some as[i]:=List.getElem?_eq_getElem hi
   rw[List.getElem?_map,hei] at hx;cases hx;have e1:=s3 _ _ (s1 _ _ (h3 as[i] (List.getElem_mem hi)));ctx_has v e1
   refine⟨h3D,by simp;exact ax (by omega),?_,ab,fun b' o e=>by rw[ag (aj e hD)];exact s3 _ _ e⟩
   rw[take_add_one,hei,map_append];rfl
  ·rintro ys H2 ⟨rfl,h2D,s2⟩
   rw[length_map,take_length] at h2D;refine⟨l1,D,as.map fun x=>(V.ref x.1,PySem.W.Ky.s x.2.2),as.map fun x=>V.str x.2.2,rfl,by rw[map_map];exact s2 _ _ h1l,h2D,by simp,fun i v z e1 e2=>?_,by simp;omega,⟨0,fun z hz=>?_⟩,fun r zs' H3 s3 hpm hso h3r=>⟨r,rfl,_,h3r,fun l2 hl2=>⟨by decide,fun p hp=>?_⟩⟩⟩
   ·rw[List.getElem?_map] at e1 e2
    cases ea:as[i]? with
    | none=>rw[ea] at e1;cases e1
    | some x=>rw[ea] at e1 e2;cases e1;cases e2;rfl
   ·obtain⟨x,_,rfl⟩:=mem_map.mp hz
    rfl
   ·obtain⟨as',hp',rfl⟩:=bo hpm rfl
    rw[map_map] at hso;have hT:as'.map (·.2)=sk kT (as.map (·.2)):=er (hp'.map _) (by rw[map_map];exact hso) (mR hok.1.2.1)
    have lp:l2≠p:=fun z=>by rw[← z,ab] at hp;cases hp
    have s5:=(ao.upd0 hl2).upd_new (o:=.tup [V.str (Str.ofString "sum"),V.ref l2]) hp;have h5l:upd (upd H3 l2 (.tup ((as'.map fun x=>(V.ref x.1,PySem.W.Ky.s x.2.2)).map fun x=>x.1))) p (.tup [V.str (Str.ofString "sum"),V.ref l2]) l2=some (.tup (as'.map fun x=>V.ref x.1)):=by rw[ag lp,ab,map_map];rfl
    have h5p:upd (upd H3 l2 (.tup ((as'.map fun x=>(V.ref x.1,PySem.W.Ky.s x.2.2)).map fun x=>x.1))) p (.tup [V.str (Str.ofString "sum"),V.ref l2]) p=some (.tup [V.str (Str.ofString "sum"),V.ref l2]):=ab
    generalize upd (upd H3 l2 (.tup ((as'.map fun x=>(V.ref x.1,PySem.W.Ky.s x.2.2)).map fun x=>x.1))) p (.tup [V.str (Str.ofString "sum"),V.ref l2])=H5 at s5 h5l h5p ⊢
    have s05:=((s1.trans s2).trans s3).trans s5;refine⟨_,s05 _ _ h1,fun p6 H6 h6 s6=>?_⟩
    rw[ir] at h6;refine⟨_,s6 _ _ h5p,_,h6,le_of_lt (ax (by simp)),fun p7 H7 h7 s7=>?_⟩
    have s57:=s6.trans s7;exact k p7 _ (s05.trans s57) ⟨l2,h7,as',s57 _ _ h5l,hT,fun x hx=>s57 _ _ (s05 _ _ (h3 x (hp'.mem_iff.mp hx)))⟩
 | tb cs rows =>
  obtain⟨c,t,vs,h1,h2,h3,as,rfl,rfl,h4⟩:=hW;have hcl:cs.length≤12:=hok.1.2.2.2
  have hnd:cs.Nodup:=hok.1.2.1
  have hal:as.length≤7:=by have:=hok.2.2.2;rw[length_map] at this;exact this
  have hpl:(plc cs).length=cs.length:=by rw[(fP cs).length_eq,length_range]
  refine aw fun R hR=>?_
  ctx_has v h1
  subst hR;refine aw fun R hR=>?_
  ctx_has v h1
  subst hR;refine aw fun R hR=>?_
  ctx_has v h1
  subst hR;refine aw fun R hR=>?_
  ctx_has v h1
  subst hR;refine aw fun R hR=>?_
  ctx_has v h1
  subst hR;refine aw fun R hR=>?_
  ctx_has v h1 h3
  intro D hD;refine da aW (f:=fun x:Addr × List Int=>bv 0 (plc cs) x.2) (c:=fun r:List Int=>r.map V.int) hD (fun H' s=>.of (s _ _ h3)) (by omega) ?_ ?_
  ·intro z hz H4 Q4 s4 q4
   have h4z:=s4 _ _ (h4 z hz);have h41:=s4 _ _ h1;have hzl:z.2.length=cs.length:=hok.2.2.1 z.2 (mem_map.mpr ⟨z,hz,rfl⟩)
   ctx_has v h4z
   intro l1 hl1;have s5:=ao.upd0 (o:=.lst (z.2.map V.int)) hl1;refine⟨_,s5 _ _ h41,_,aO (j:=1) rfl,c,rfl,_,s5 _ _ (s4 _ _ h2),fun l2 hl2=>?_⟩
   have s6:=s5.upd_new (o:=.lst (cs.map V.str)) hl2;have n12:l1≠l2:=fun e=>by rw[← e,ab] at hl2;cases hl2
   refine⟨l1,l2,(z.2.zip cs).map fun y=>(V.int y.1,PySem.W.Ky.s y.2),cs.map V.str,rfl,?_,ab,by simp;omega,fun i v y e1 e2=>?_,by simp;omega,⟨0,fun y hy=>?_⟩,fun r zs' H7 s7 hpm hso h7r=>⟨r,rfl,_,h7r,fun q hq=>?_⟩⟩
   ·rw[ag n12,ab,map_map]
    have e:((fun x:V × PySem.W.Ky=>x.1) ∘ fun y:Int × Str=>(V.int y.1,PySem.W.Ky.s y.2))=V.int ∘ Prod.fst:=rfl
    rw[e,← map_map,map_fst_zip (by omega)]
   ·rw[List.getElem?_map] at e1 e2
    cases ey:(z.2.zip cs)[i]? with
    | none=>rw[ey] at e2;cases e2
    | some y' =>
     rw[ey] at e2;cases e2;obtain⟨_,ec⟩:=List.getElem?_zip_eq_some.mp ey;rw[ec] at e1;cases e1;rfl
   ·obtain⟨x,_,rfl⟩:=mem_map.mp hy
    rfl
   ·obtain⟨l',hp',rfl⟩:=bo hpm rfl
    rw[map_map] at hso;have hT:l'=sk kT (z.2.zip cs):=er hp' hso (mR (qR (by omega) hnd))
    refine q4 q _ ((s6.trans s7).upd_new hq) ?_
    rw[ab,hT,qN hnd hzl,map_map,map_map];rfl
  ·intro bs H4 hbs hbt s4 h4D
   refine⟨_,s4 _ _ h1,_,aO (j:=1) rfl,?_⟩
   refine ip (s4 _ _ h2) (by omega) fun r2 H5 s5 h5r=>?_
   have hok2:=rE hok (il hok);have ebs:bs.map (·.2)=(as.map (·.2)).map (bv 0 (plc cs)):=by rw[hbs,map_map];rfl
   have hbl:bs.length≤60:=by have:=congrArg List.length hbs;rw[length_map,length_map] at this;omega
   have hbn:(bs.map (·.2)).Nodup:=by rw[ebs];exact(bG _ _).nodup_iff.mp hok2.2.1
   refine tJ (.inl (s5 _ _ h4D)) hbl (fun x hx=>s5 _ _ (hbt x hx)) hbn (fun x hx e=>?_) fun r3 vs H6 s6 h6r hrv=>⟨by decide,fun w' hw'=>?_⟩
   ·have:x.2∈bs.map (·.2):=mem_map.mpr ⟨x,hx,rfl⟩
    rw[ebs,e] at this;obtain⟨r0,_,e0⟩:=mem_map.mp this;have hc0:=hok.1.1;unfold bv at e0;rw[map_eq_nil_iff] at e0;rw[e0] at hpl;exact hc0 (length_eq_zero_iff.mp hpl.symm)
   ·have s7:=ao.upd0 (o:=.tup [V.str (Str.ofString "table"),V.ref r2,V.ref r3]) hw'
    refine k w' _ (((s4.trans s5).trans s6).trans s7) ⟨r2,r3,vs,ab,s7 _ _ (s6 _ _ h5r),s7 _ _ h6r,?_⟩
    rw[ebs] at hrv;exact hrv.keep fun a xs e=>s7 _ _ e
 | wy cs ps es =>
  obtain⟨c,t,e,vs,h1,h2,h3,⟨as,rfl,rfl,h4⟩,h5⟩:=hW;have hpl:as.length≤60:=by have:=hok.2.2.1;rw[length_map] at this;exact this
  have hel:es.length≤60:=hok.2.2.2
  have hpn:(as.map (·.2)).Nodup:=pI hok.2.1
  refine aw fun R hR=>?_
  ctx_has v h1
  subst hR;refine aw fun R hR=>?_
  ctx_has v h1
  subst hR;refine aw fun R hR=>?_
  ctx_has v h1
  subst hR;refine aw fun R hR=>?_
  ctx_has v h1
  subst hR;refine aw fun R hR=>?_
  ctx_has v h1
  refine qc h3 hpl h4 hpn fun r vs H1 s1 h1r hst=>?_
  have h11:=s1 _ _ h1;ctx_has v h11
  refine im (s1 _ _ h5) hel fun r2 H2 s2 h2r=>⟨by decide,fun w' hw'=>?_⟩
  have s3:=ao.upd0 (o:=.tup [V.str (Str.ofString "way"),V.ref c,V.ref r,V.ref r2]) hw';exact k w' _ ((s1.trans s2).trans s3) ⟨c,r,r2,vs,ab,s3 _ _ (s2 _ _ (s1 _ _ h2)),s3 _ _ (s2 _ _ h1r),hst.keep fun a xs e=>s3 _ _ (s2 _ _ e),s3 _ _ h2r⟩
 | bh cs gap =>
  obtain⟨c,h1,h2⟩:=id hW;refine aw fun R hR=>?_
  ctx_has v h1
  subst hR;refine aw fun R hR=>?_
  ctx_has v h1
  subst hR;refine aw fun R hR=>?_
  ctx_has v h1
  subst hR;refine aw fun R hR=>?_
  ctx_has v h1
  subst hR;refine aw fun R hR=>?_
  ctx_has v h1
  subst hR;refine aw fun R hR=>?_
  ctx_has v h1
  subst hR;ctx_has v h1
  exact k w H (ao.refl H) hW
abbrev BY:=Fn P w K mg base "_law_plain" 5 ["_law_wish_here"] (yW)
theorem oj (T:Txt w K mg base) (L:FnL K mg "_law_plain" bR ["_law_wish_here"]) (Fag : @Au P w K mg base) (Fe : @Ch P w K mg base) : @BY P w K mg base:=by
 ctx_has z iM <;> obtain⟨w,ws,ns,c,us,W,rfl,tb,hW,hok,k⟩:=h
 ·rfl
 refine⟨_,(af (aK (ay aR (ak ap (pvM 0) ae) au) (ai (aA (aE (aa au (aa (ak ap (pvM 0) ae) (aa (ah Fe (aa (ak ap (pvM 0) ae) ac)) (aa (ah Fag (aa (ak ap (pvM 0) ae) ac)) ac))))))) az)
  (af (aK (ay aR (ak ap (pvM 0) ae) au) (ai aL) az)
  (af (aK (ay aR (ak ap (pvM 0) ae) au) (ai aL) az)
  (af (aK (ay aR (ak ap (pvM 0) ae) au) (ai aL) az)
  (af (aK (ay aR (ak ap (pvM 0) ae) au) (ai aL) az)
  (af (aK (ay aR (ak ap (pvM 0) ae) au) (af aL
  (ai aL)) az)
  (ai aL))))))),?_⟩
 obtain⟨t,u,h1,h2,h3⟩:=hW;have hul:us.length≤20:=hok.2.1.2.2
 ctx_has v h1
 refine im h2 (by omega) fun r H1 s1 h1r=>?_
 have h11:=s1 _ _ h1;ctx_has v h11
 refine⟨u,ws,ns,W,rfl,tb.same s1,cK h3 fun a xs e=>s1 _ _ e,hok.2.2.1,fun r2 H2 s2 hr2=>⟨by decide,fun w' hw'=>?_⟩⟩
 have s3:=ao.upd0 (o:=.tup [V.str (Str.ofString "same"),V.str c,V.ref r,V.ref r2]) hw';exact k w' _ ((s1.trans s2).trans s3) ⟨r,r2,ab,s3 _ _ (s2 _ _ h1r),cK hr2 fun a xs e=>s3 _ _ e⟩
theorem cZ {Q:VK} {E:XK} {m:Int} (D:aD H d l) (ha:uY H a xs) (hm:m=xs.length) (hl:xs.length≤60) (q : ∀p got H',got.Perm xs→H' p=some (.tup got)→aD H' d l→But d l H H'→Q (.ref p) H'):yx [.ref d,.ref a,.int m] H Q E:=by
 refine⟨d,l,a,m,xs,rfl,D,ha,by omega,by omega,hl,fun p got rest H' _ hpm hml hp D' B'=>?_⟩
 have hr:rest=[]:=by
  have:=hpm.length_eq
  rw[length_append] at this;exact length_eq_zero_iff.mp (by omega)
 rw[hr,append_nil] at hpm;exact q p got H' hpm hp D' B'
noncomputable def yE:Sp:=fun vs H Q _=>∃(d l w:Addr) (ws:List Str) (ns:List Int) (W:Wi),vs=[.ref d,.ref w]∧aD H d l∧WS H w W∧okW ws ns W∧∀r W' H',WS H' r W'→qo W W'→aD H' d l→But d l H H'→Q (.ref r) H'
noncomputable def zw:Sp:=fun vs H Q _=>∃(d l w:Addr) (ws:List Str) (ns:List Int) (c:Str) (us:List Int) (W:Wi),vs=[.ref d,.ref w]∧aD H d l∧WX H w (.sa c us W)∧okX ws ns (.sa c us W)∧∀r W' H',WX H' r W'→uz (.sa c us W) W'→aD H' d l→But d l H H'→Q (.ref r) H'
abbrev Cc:=Fn P w K mg base "_law_mixed_up" 3 ["_law_deal_here","_law_wish_here"] (yE)
abbrev nz2:List Str:=["_law_deal_here","_law_wish_here","_law_cells","_law_steps","_law_places","_law_rows_here"]
theorem jm (T:Txt w K mg base) (L:FnL K mg "_law_mixed_up" bi ["_law_deal_here","_law_wish_here"]) (Fb : @Dz4 P w K mg base) : @Cc P w K mg base:=by
 ctx_has z fH <;> obtain⟨d,l,w,ws,ns,W,rfl,D,hW,hok,k⟩:=h
 ·rfl
 refine⟨_,(af (aK (ay aR (ak ap (pvM 1) ae) au) (ai aL) az)
  (af (aK (ay aR (ak ap (pvM 1) ae) au) (af (aC 2 (ah Fb (aa (pvM 0) (aa (ak ap (pvM 1) ae) (aa (aG bZ T.b_len (aa (ak ap (pvM 1) ae) ac)) ac)))))
  (ai (aA (aE (aa au (aa (ah Fb (aa (pvM 0) (aa (ak ap (pvM 1) ae) (aa (aG bZ T.b_len (aa (ak ap (pvM 1) ae) ac)) ac)))) (aa (pvM 2) (aa (ak ap (pvM 1) ae) (aa (ak ap (pvM 1) ae) ac))))))))) az)
  (af (aK (ay uP (ak ap (pvM 1) ae) (aE (aa au (aa au ac)))) (ai (aA (aN eL (aE (aa (ak ap (pvM 1) ae) (aa (ah Fb (aa (pvM 0) (aa (ak ap (pvM 1) ae) (aa (aG bZ T.b_len (aa (ak ap (pvM 1) ae) ac)) ac)))) ac))) (bI nV (pvM 1) (bQ ae) cA)))) az)
  (af (aK (ay aR (ak ap (pvM 1) ae) au) (af (aC 3 (ah Fb (aa (pvM 0) (aa (ak ap (pvM 1) ae) (aa (aG bZ T.b_len (aa (ak ap (pvM 1) ae) ac)) ac)))))
  (ai (aA (aE (aa au (aa (ak ap (pvM 1) ae) (aa (pvM 3) (aa (ah Fb (aa (pvM 0) (aa (ak ap (pvM 1) ae) (aa (aG bZ T.b_len (aa (ak ap (pvM 1) ae) ac)) ac)))) ac)))))))) az)
  (af (aK (ay aR (ak ap (pvM 1) ae) au) (af (aC 4 (ah Fb (aa (pvM 0) (aa (sw rfl rfl T.b_list rfl T.b_range (aa (aG bZ T.b_len (aa (ak ap (pvM 1) ae) ac)) ac)) (aa (aG bZ T.b_len (aa (ak ap (pvM 1) ae) ac)) ac)))))
  (af (cg 5 (N:=["_law_row","_law_places"]) (nt:=1) (js:=[4]) (aI nz2 (am bi).names) (cU K (ak ap (pvM 1) ae)) (aB 0) aQ aV (aF aM T.b_tuple (aa (bn (N:=["_law_place","_law_row"]) (nt:=1) (js:=[0]) (aI ["_law_row","_law_places"] (Dj (am bi).kind (am bi).names _)) (je (K:=K) rfl (pvM 1)) (aB 0) aQ aV (ak uK (pvM 1) (pvM 0))) ac)))
  (ai (aA (aE (aa au (aa (aF aM T.b_tuple (aa (bn (N:=["_law_place","_law_wish_here"]) (nt:=1) (js:=[1]) (aI nz2 (am bi).names) (je (K:=K) rfl (pvM 4)) (aB 0) aQ aV (ak uK (ak ap (pvM 1) ae) (pvM 0))) ac)) (aa (ah Fb (aa (pvM 0) (aa (pvM 5) (aa (aG bj T.b_len (aa (pvM 5) ac)) ac)))) ac)))))))) az)
  (ai (aA (pvM 1)))))))),?_⟩
 cases W with
 | un cs =>
  obtain⟨c,h1,h2⟩:=hW;have hcl:cs.length≤12:=hok.2.2.2
  refine aw fun R hR=>?_
  ctx_has v h1
  subst hR;refine aw fun R hR=>?_
  ctx_has v h1
  subst hR;refine aw fun R hR=>?_
  ctx_has v h1 h2
  refine⟨by decide,fun p0 hp0=>⟨_,ab,rfl,by decide,?_⟩⟩
  have s1:=ao.upd0 (o:=.tup [V.str (Str.ofString "unlike"),V.str (Str.ofString "sum")]) hp0;rw[if_pos (show inV (V.str (Str.ofString "unlike")) [V.str (Str.ofString "unlike"),V.str (Str.ofString "sum")]=true by decide+kernel)]
  generalize upd H p0 (.tup [V.str (Str.ofString "unlike"),V.str (Str.ofString "sum")])=H1 at s1 ⊢;have D1:=D.same s1;have B1:=(But.refl (d:=d) (l:=l) H).same s1;have h11:=s1 _ _ h1;have h21:=s1 _ _ h2;ctx_has v h11 h21
  refine cZ D1 (.inr h21) rfl (by rw[length_map];omega) fun p2 got H2 hg h2p D2 B2=>?_
  obtain⟨cs',hc',rfl⟩:=bo hg rfl;have h12:=B2.tup D1 h11;ctx_has v h12
  refine⟨by decide,fun p3 hp3=>?_⟩
  have s3:=ao.upd0 (o:=.tup [V.str (Str.ofString "unlike"),V.ref p2]) hp3;have h3f:upd H2 p3 (.tup [V.str (Str.ofString "unlike"),V.ref p2]) p3=some (.tup [V.str (Str.ofString "unlike"),V.ref p2]):=ab
  generalize upd H2 p3 (.tup [V.str (Str.ofString "unlike"),V.ref p2])=H3 at s3 h3f ⊢;refine⟨_,s3 _ _ h12,fun p4 H4 h4 s4=>?_⟩
  rw[ir] at h4;refine⟨_,s4 _ _ h3f,_,h4,le_of_lt (ax (by simp)),fun p5 H5 h5 s5=>?_⟩
  have s35:=(s3.trans s4).trans s5;exact k p5 (.un cs') H5 ⟨p2,h5,s35 _ _ h2p⟩ hc' (D2.same s35) ((B1.trans B2).same s35)
 | mn av cs lo hi =>
  obtain⟨a,c,h1,h2,h3⟩:=hW;have hcl:cs.length≤12:=hok.1.2.2.2
  have hvl:av.length≤20:=hok.2.2.2
  refine aw fun R hR=>?_
  ctx_has v h1
  subst hR;refine aw fun R hR=>?_
  ctx_has v h1 h3
  refine cZ D (.inr h3) rfl (by rw[length_map];omega) fun p1 got H1 hg h1p D1 B1=>?_
  obtain⟨cs',hc',rfl⟩:=bo hg rfl;have h11:=B1.tup D h1;have h21:=B1.tup D h2;ctx_has v h11 h21
  refine cZ D1 (.inr h21) rfl (by rw[length_map];omega) fun p2 got H2 hg h2p D2 B2=>?_
  obtain⟨av',ha',rfl⟩:=bo hg rfl;have h12:=B2.tup D1 h11;ctx_has v h12
  refine⟨by decide,fun p3 hp3=>?_⟩
  have s3:=ao.upd0 (o:=.tup [V.str (Str.ofString "many"),V.ref p2,V.ref p1,V.int lo,V.int hi]) hp3;exact k p3 (.mn av' cs' lo hi) _ ⟨p2,p1,ab,s3 _ _ h2p,s3 _ _ (B2.tup D1 h1p)⟩ ⟨ha',hc',rfl,rfl⟩ (D2.same s3) ((B1.trans B2).same s3)
 | sm ts lo hi =>
  obtain⟨t,h1,as,h2,rfl,h3⟩:=hW;have hal:as.length≤12:=by have:=hok.1.2.2.2;rw[length_map,length_map] at this;exact this
  refine aw fun R hR=>?_
  ctx_has v h1
  subst hR;refine aw fun R hR=>?_
  ctx_has v h1
  subst hR;refine aw fun R hR=>?_
  ctx_has v h1 h2
  refine⟨by decide,fun p0 hp0=>⟨_,ab,rfl,by decide,?_⟩⟩
  have s1:=ao.upd0 (o:=.tup [V.str (Str.ofString "unlike"),V.str (Str.ofString "sum")]) hp0;rw[if_pos (show inV (V.str (Str.ofString "sum")) [V.str (Str.ofString "unlike"),V.str (Str.ofString "sum")]=true by decide+kernel)]
  generalize upd H p0 (.tup [V.str (Str.ofString "unlike"),V.str (Str.ofString "sum")])=H1 at s1 ⊢;have D1:=D.same s1;have B1:=(But.refl (d:=d) (l:=l) H).same s1;have h11:=s1 _ _ h1;have h21:=s1 _ _ h2;ctx_has v h11 h21
  refine cZ D1 (.inr h21) rfl (by rw[length_map];omega) fun p2 got H2 hg h2p D2 B2=>?_
  obtain⟨as',ha',rfl⟩:=bo hg rfl;have h12:=B2.tup D1 h11;ctx_has v h12
  refine⟨by decide,fun p3 hp3=>?_⟩
  have s3:=ao.upd0 (o:=.tup [V.str (Str.ofString "sum"),V.ref p2]) hp3;have h3f:upd H2 p3 (.tup [V.str (Str.ofString "sum"),V.ref p2]) p3=some (.tup [V.str (Str.ofString "sum"),V.ref p2]):=ab
  generalize upd H2 p3 (.tup [V.str (Str.ofString "sum"),V.ref p2])=H3 at s3 h3f ⊢;refine⟨_,s3 _ _ h12,fun p4 H4 h4 s4=>?_⟩
  rw[ir] at h4;refine⟨_,s4 _ _ h3f,_,h4,le_of_lt (ax (by simp)),fun p5 H5 h5 s5=>?_⟩
  have s35:=(s3.trans s4).trans s5;exact k p5 (.sm (as'.map (·.2)) lo hi) H5 ⟨p2,h5,as',s35 _ _ h2p,rfl,fun x hx=>s35 _ _ (B2.tup D1 (s1 _ _ (h3 x (ha'.mem_iff.mp hx))))⟩ ⟨ha'.map _,rfl,rfl⟩ (D2.same s35) ((B1.trans B2).same s35)
 | tb cs rows =>
  obtain⟨c,t,vs,h1,h2,h3,as,rfl,rfl,h4⟩:=hW;have hcl:cs.length≤12:=hok.1.2.2.2
  have hal:as.length≤7:=by have:=hok.2.2.2;rw[length_map] at this;exact this
  refine aw fun R hR=>?_
  ctx_has v h1
  subst hR;refine aw fun R hR=>?_
  ctx_has v h1
  subst hR;refine aw fun R hR=>?_
  ctx_has v h1 h2 qk
  refine⟨by decide,fun p0 hp0=>⟨_,ab,rfl,by decide,?_⟩⟩
  have s1:=ao.upd0 (o:=.tup [V.str (Str.ofString "unlike"),V.str (Str.ofString "sum")]) hp0;rw[if_neg (show ¬ inV (V.str (Str.ofString "table")) [V.str (Str.ofString "unlike"),V.str (Str.ofString "sum")]=true by decide+kernel)]
  generalize upd H p0 (.tup [V.str (Str.ofString "unlike"),V.str (Str.ofString "sum")])=H1 at s1 ⊢;have D1:=D.same s1;have B1:=(But.refl (d:=d) (l:=l) H).same s1;have h11:=s1 _ _ h1;subst hR;refine aw fun R hR=>?_
  ctx_has v h11
  subst hR;refine aw fun R hR=>?_
  have h21:=s1 _ _ h2;ctx_has v h11 h21 qk
  refine⟨by omega,by rw[length_map];omega,fun l1 hl1=>?_⟩
  rw[show((((cs.map V.str).length:Nat):Int)).toNat=cs.length by simp]
  have s2:=ao.upd0 (o:=.lst (jP 0 cs.length)) hl1;have h2l:upd H1 l1 (.lst (jP 0 cs.length)) l1=some (.lst (jP 0 cs.length)):=ab
  generalize upd H1 l1 (.lst (jP 0 cs.length))=H2 at s2 h2l ⊢;have h12:=s2 _ _ h11;have h22:=s2 _ _ h21;ctx_has v h12 h22
  refine cZ (D1.same s2) (.inl h2l) (by rw[aJ,length_map]) (by rw[aJ];omega) fun p3 got H3 hg h3p D3 B3=>?_
  obtain⟨pl,hpl,rfl⟩:=bo (F:=fun i:Nat=>V.int ((0:Int)+i)) hg rfl
  have D2:=D1.same s2;have h13:=B3.tup D2 h12;have h33:=B3.tup D2 (s2 _ _ (s1 _ _ h3));ctx_has v h13 h33
  intro D0 hD0;have kt3 : ∀b xs,H b=some (.tup xs)→H3 b=some (.tup xs):=fun b xs e=>B3.tup D2 (s2 _ _ (s1 _ _ e))
  have hpl2 : ∀i∈pl,i < cs.length:=fun i hi=>mem_range.mp (hpl.mem_iff.mp hi)
  have hpll:pl.length=cs.length:=by rw[hpl.length_eq,length_range]
  refine da aW (f:=fun x:Addr × List Int=>bv 0 pl x.2) (c:=fun r:List Int=>r.map V.int) hD0 (fun H' s=>.of (s _ _ h33)) (by omega) ?_ ?_
  ·intro z hz H4 Q4 s4 q4
   have h4p:=s4 _ _ h3p;have h4z:=s4 _ _ (kt3 _ _ (h4 z hz));have hzl:z.2.length=cs.length:=hok.2.2.1 z.2 (mem_map.mpr ⟨z,hz,rfl⟩)
   ctx_has v h4p
   intro D5 hD5;refine cT aW (fun v=>match v with | .int i=>.int (z.2.getD i.toNat 0) | _=>.non) hD5 (fun H' s=>.of (s _ _ h4p)) (by rw[length_map];omega) ?_ ?_
   ·intro x H5 Q5 hx s5 q5
    obtain⟨i,hi,rfl⟩:=mem_map.mp hx;have hil:i < z.2.length:=by rw[hzl];exact hpl2 i hi
    have h5z:=s5 _ _ h4z;ctx_has v h5z
    refine⟨_,by rw[Int.zero_add];exact aO (by rw[List.getElem?_map,List.getElem?_eq_getElem hil];rfl),?_⟩
    have:=q5 H5 (ao.refl _)
    simpa [getD_eq_getElem?_getD,hil] using this
   ·intro H5 s5 h5
    ctx_has v h5
    intro t' ht';refine q4 t' _ (s5.upd_new ht') ?_
    rw[ab];unfold bv;rw[map_map,map_map];refine congrArg (fun z=>some (HO.tup z)) (map_congr_left fun i _=>?_)
    simp
  ·intro bs H4 hbs hbt s4 h4D
   have h4p:=s4 _ _ h3p;have h14:=s4 _ _ h13;have h24:=s4 _ _ (kt3 _ _ h2);refine⟨_,h4p,fun D5 hD5=>?_⟩
   refine cT aW (fun v=>match v with | .int i=>.str (cs.getD i.toNat noS) | _=>.non) hD5 (fun H' s=>.of (s _ _ h4p)) (by rw[length_map];omega) ?_ ?_
   ·intro x H5 Q5 hx s5 q5
    obtain⟨i,hi,rfl⟩:=mem_map.mp hx;have hil:i < cs.length:=hpl2 i hi
    have h15:=s5 _ _ h14;have h25:=s5 _ _ h24;ctx_has v h15 h25
    refine⟨_,by rw[Int.zero_add];exact aO (by rw[List.getElem?_map,List.getElem?_eq_getElem hil];rfl),?_⟩
    have:=q5 H5 (ao.refl _)
    simpa [getD_eq_getElem?_getD,hil] using this
   ·intro H5 s5 h5
    have e5:(pl.map fun i:Nat=>V.int ((0:Int)+i)).map (fun v=>match v with | .int i=>V.str (cs.getD i.toNat noS) | _=>V.non)=(bv noS pl cs).map V.str:=by
     unfold bv;rw[map_map,map_map];refine map_congr_left fun i _=>?_
     simp
    rw[e5] at h5;refine⟨D5,rfl,_,h5,fun l6 hl6=>?_⟩
    have s6:=ao.upd0 (o:=.tup ((bv noS pl cs).map V.str)) hl6;have h6l:upd H5 l6 (.tup ((bv noS pl cs).map V.str)) l6=some (.tup ((bv noS pl cs).map V.str)):=ab
    generalize upd H5 l6 (.tup ((bv noS pl cs).map V.str))=H6 at s6 h6l ⊢;have s36:=(s4.trans s5).trans s6;have h6D:=s6 _ _ (s5 _ _ h4D);have D6:=D3.same s36;have hbl:bs.length≤60:=by have:=congrArg List.length hbs;rw[length_map,length_map] at this;omega
    refine⟨_,h6D,cZ D6 (.inl h6D) rfl (by rw[length_map];exact hbl) fun p7 got H7 hg h7p D7 B7=>⟨by decide,fun p8 hp8=>?_⟩⟩
    obtain⟨bs',hb',rfl⟩:=bo hg rfl;have s8:=ao.upd0 (o:=.tup [V.str (Str.ofString "table"),V.ref l6,V.ref p7]) hp8;refine k p8 (.tb (bv noS pl cs) (bs'.map (·.2))) _ ⟨l6,p7,_,ab,s8 _ _ (B7.tup D6 h6l),s8 _ _ h7p,bs',rfl,rfl,fun x hx=>s8 _ _ (B7.tup D6 (s6 _ _ (s5 _ _ (hbt x (hb'.mem_iff.mp hx)))))⟩ ⟨pl,hpl,rfl,?_⟩ (D7.same s8) (((((B1.same s2).trans B3).same s36).trans B7).same s8)
    have:=hb'.map (·.2)
    rw[hbs] at this;rw[map_map];exact this
 | wy cs ps es =>
  obtain⟨c,t,e,vs,h1,h2,h3,⟨as,rfl,rfl,h4⟩,h5⟩:=hW;have hpl:as.length≤60:=by have:=hok.2.2.1;rw[length_map] at this;exact this
  have hel:es.length≤60:=hok.2.2.2
  refine aw fun R hR=>?_
  ctx_has v h1
  subst hR;refine aw fun R hR=>?_
  ctx_has v h1
  subst hR;refine aw fun R hR=>?_
  ctx_has v h1 h3
  refine⟨by decide,fun p0 hp0=>⟨_,ab,rfl,by decide,?_⟩⟩
  have s1:=ao.upd0 (o:=.tup [V.str (Str.ofString "unlike"),V.str (Str.ofString "sum")]) hp0;rw[if_neg (show ¬ inV (V.str (Str.ofString "way")) [V.str (Str.ofString "unlike"),V.str (Str.ofString "sum")]=true by decide+kernel)]
  generalize upd H p0 (.tup [V.str (Str.ofString "unlike"),V.str (Str.ofString "sum")])=H1 at s1 ⊢;have D1:=D.same s1;have B1:=(But.refl (d:=d) (l:=l) H).same s1;have h11:=s1 _ _ h1;subst hR;refine aw fun R hR=>?_
  have h31:=s1 _ _ h3;ctx_has v h11 h31
  refine cZ D1 (.inr h31) rfl (by rw[length_map];omega) fun p2 got H2 hg h2p D2 B2=>?_
  obtain⟨as',ha',rfl⟩:=bo hg rfl;have h12:=B2.tup D1 h11;have h52:=B2.tup D1 (s1 _ _ h5);ctx_has v h12 h52
  refine cZ D2 (.inr h52) rfl (by rw[length_map];omega) fun p3 got H3 hg h3p D3 B3=>?_
  obtain⟨es',he',rfl⟩:=bo hg rfl;refine⟨by decide,fun p4 hp4=>?_⟩
  have s4:=ao.upd0 (o:=.tup [V.str (Str.ofString "way"),V.ref c,V.ref p2,V.ref p3]) hp4;have kt : ∀b xs,H b=some (.tup xs)→upd H3 p4 (.tup [V.str (Str.ofString "way"),V.ref c,V.ref p2,V.ref p3]) b=some (.tup xs):=fun b xs e=>s4 _ _ (B3.tup D2 (B2.tup D1 (s1 _ _ e)))
  exact k p4 (.wy cs (as'.map (·.2)) es') _ ⟨c,p2,p3,_,ab,kt _ _ h2,s4 _ _ (B3.tup D2 h2p),⟨as',rfl,rfl,fun x hx=>kt _ _ (h4 x (ha'.mem_iff.mp hx))⟩,s4 _ _ h3p⟩ ⟨rfl,ha'.map _,he'⟩ (D3.same s4) (((B1.trans B2).trans B3).same s4)
 | bh cs gap =>
  obtain⟨c,h1,h2⟩:=id hW;refine aw fun R hR=>?_
  ctx_has v h1
  subst hR;refine aw fun R hR=>?_
  ctx_has v h1
  subst hR;refine aw fun R hR=>?_
  ctx_has v h1
  refine⟨by decide,fun p0 hp0=>⟨_,ab,rfl,by decide,?_⟩⟩
  have s1:=ao.upd0 (o:=.tup [V.str (Str.ofString "unlike"),V.str (Str.ofString "sum")]) hp0;rw[if_neg (show ¬ inV (V.str (Str.ofString "behind")) [V.str (Str.ofString "unlike"),V.str (Str.ofString "sum")]=true by decide+kernel)]
  generalize upd H p0 (.tup [V.str (Str.ofString "unlike"),V.str (Str.ofString "sum")])=H1 at s1 ⊢;have D1:=D.same s1;have B1:=(But.refl (d:=d) (l:=l) H).same s1;have h11:=s1 _ _ h1;subst hR;refine aw fun R hR=>?_
  ctx_has v h11
  subst hR;refine aw fun R hR=>?_
  ctx_has v h11
  subst hR;ctx_has v h11
  exact k w (.bh cs gap) H1 (cK hW fun a xs e=>s1 _ _ e) ⟨rfl,rfl⟩ D1 B1
abbrev Em:=Fn P w K mg base "_law_mixed_up" 4 ["_law_deal_here","_law_wish_here"] (zw)
theorem jr (T:Txt w K mg base) (L:FnL K mg "_law_mixed_up" bi ["_law_deal_here","_law_wish_here"]) (Faa : @Cc P w K mg base) (Fb : @Dz4 P w K mg base) : @Em P w K mg base:=by
 ctx_has z fH <;> obtain⟨d,l,w,ws,ns,c,us,W,rfl,D,hW,hok,k⟩:=h
 ·rfl
 refine⟨_,(af (aK (ay aR (ak ap (pvM 1) ae) au) (ai (aA (aE (aa au (aa (ak ap (pvM 1) ae) (aa (ah Fb (aa (pvM 0) (aa (ak ap (pvM 1) ae) (aa (aG bZ T.b_len (aa (ak ap (pvM 1) ae) ac)) ac)))) (aa (ah Faa (aa (pvM 0) (aa (ak ap (pvM 1) ae) ac))) ac))))))) az)
  (af (aK (ay aR (ak ap (pvM 1) ae) au) (af aL
  (ai aL)) az)
  (af (aK (ay uP (ak ap (pvM 1) ae) (aE (aa au (aa au ac)))) (ai aL) az)
  (af (aK (ay aR (ak ap (pvM 1) ae) au) (af aL
  (ai aL)) az)
  (af (aK (ay aR (ak ap (pvM 1) ae) au) (af aL
  (af aL
  (ai aL))) az)
  (ai aL)))))),?_⟩
 obtain⟨t,u,h1,h2,h3⟩:=hW;have hul:us.length≤20:=hok.2.1.2.2
 ctx_has v h1 h2
 refine cZ D (.inr h2) rfl (by rw[length_map];omega) fun p1 got H1 hg h1p D1 B1=>?_
 obtain⟨us',hu',rfl⟩:=bo hg rfl;have h11:=B1.tup D h1;ctx_has v h11
 refine⟨d,l,u,ws,ns,W,rfl,D1,cK h3 fun a xs e=>B1.tup D e,hok.2.2.1,fun r W' H2 hr hm D2 B2=>⟨by decide,fun p3 hp3=>?_⟩⟩
 have s3:=ao.upd0 (o:=.tup [V.str (Str.ofString "same"),V.str c,V.ref p1,V.ref r]) hp3;exact k p3 (.sa c us' W') _ ⟨p1,r,ab,s3 _ _ (B2.tup D1 h1p),cK hr fun a xs e=>s3 _ _ e⟩ ⟨rfl,hu',hm⟩ (D2.same s3) ((B1.trans B2).same s3)
noncomputable def bD:Option Int→PyData | none=>.none | some i=>.int i
noncomputable def cB:Wi→PyData
 | .un cs=>.tuple [.str "unlike",.tuple (cs.map .str)]
 | .mn av cs lo hi=>.tuple [.str "many",.tuple (av.map .int),.tuple (cs.map .str),.int lo,.int hi]
 | .sm ts lo hi=>.tuple [.str "sum",.tuple (ts.map fun x=>.tuple [.int x.1,.str x.2]),bD lo,bD hi]
 | .tb cs rows=>.tuple [.str "table",.tuple (cs.map .str),.tuple (rows.map fun r=>.tuple (r.map .int))]
 | .wy cs ps es=>.tuple [.str "way",.tuple (cs.map .str),.tuple (ps.map fun x=>.tuple [.int x.1,.int x.2.1,.int x.2.2]),.tuple (es.map .int)]
 | .bh cs gap=>.tuple [.str "behind",.tuple (cs.map .str),.int gap]
noncomputable def bO:Wx→PyData
 | .pl W=>cB W
 | .sa c vs W=>.tuple [.str "same",.str c,.tuple (vs.map .int),cB W]
theorem Bv (o:Option Int):Rep K H (bV o) (bD o):=by
 cases o with
 | none=>exact .non
 | some i=>exact .int i
theorem lI {K:PySem.W.Frag} {H:Hp} {α:Type} {f:α→V} {d:α→PyData} : ∀{l:List α},(∀x∈l,Rep K H (f x) (d x))→cp K H (l.map f) (l.map d)
 | [],_=>.nil
 | x :: l,h=>.cons (h x mem_cons_self) (lI fun y hy=>h y (mem_cons_of_mem _ hy))
theorem Bk {w:Addr} {W:Wi} (h:WS H w W):Rep K H (.ref w) (cB W):=by
 cases W with
 | un cs =>
  obtain⟨c,h1,h2⟩:=h;exact .tup (.of h1) (.cons (.str _) (.cons (.tup (.of h2) (cp.strs cs)) .nil))
 | mn av cs lo hi =>
  obtain⟨a,c,h1,h2,h3⟩:=h;exact .tup (.of h1) (.cons (.str _) (.cons (.tup (.of h2) (cp.ints av)) (.cons (.tup (.of h3) (cp.strs cs)) (.cons (.int _) (.cons (.int _) .nil)))))
 | sm ts lo hi =>
  obtain⟨t,h1,as,h2,rfl,h3⟩:=h;refine .tup (.of h1) (.cons (.str _) (.cons (.tup (.of h2) ?_) (.cons (Bv lo) (.cons (Bv hi) .nil))))
  rw[map_map];exact lI fun x hx=>.tup (.of (h3 x hx)) (.cons (.int _) (.cons (.str _) .nil))
 | tb cs rows =>
  obtain⟨c,t,vs,h1,h2,h3,as,rfl,rfl,h4⟩:=h;refine .tup (.of h1) (.cons (.str _) (.cons (.tup (.of h2) (cp.strs cs)) (.cons (.tup (.of h3) ?_) .nil)))
  rw[map_map];exact lI fun x hx=>.tup (.of (h4 x hx)) (cp.ints x.2)
 | wy cs ps es =>
  obtain⟨c,t,e,vs,h1,h2,h3,⟨as,rfl,rfl,h4⟩,h5⟩:=h;refine .tup (.of h1) (.cons (.str _) (.cons (.tup (.of h2) (cp.strs cs)) (.cons (.tup (.of h3) ?_) (.cons (.tup (.of h5) (cp.ints es)) .nil))))
  rw[map_map];exact lI fun x hx=>.tup (.of (h4 x hx)) (.cons (.int _) (.cons (.int _) (.cons (.int _) .nil)))
 | bh cs gap =>
  obtain⟨c,h1,h2⟩:=h;exact .tup (.of h1) (.cons (.str _) (.cons (.tup (.of h2) (cp.strs cs)) (.cons (.int _) .nil)))
theorem kC {w:Addr} {W:Wx} (h:WX H w W):Rep K H (.ref w) (bO W):=by
 cases W with
 | pl W=>exact Bk h
 | sa c vs W =>
  obtain⟨t,u,h1,h2,h3⟩:=h;exact .tup (.of h1) (.cons (.str _) (.cons (.str _) (.cons (.tup (.of h2) (cp.ints vs)) (.cons (Bk h3) .nil))))
theorem nZ {α:Type} {d:α→PyData} {n:Nat} : ∀{l:List α},(∀x∈l,(d x).depth≤n)→PyData.depthAll (l.map d)≤n
 | [],_=>zero_le _
 | x :: l,h=>by rw[map_cons,PyData.depthAll];exact Nat.max_le.mpr ⟨h x mem_cons_self,nZ fun y hy=>h y (mem_cons_of_mem _ hy)⟩
theorem yT {s:Str} (h:cb s):(PyData.str s).canLay0=true:=by
 have:=mz (ws:=[s]) (fun w hw=>by rw[mem_singleton.mp hw];exact h)
 rw[map_cons,PyData.canLayAll0,Bool.and_eq_true] at this;exact this.1
theorem Db (o:Option Int):(bD o).depth=0:=by cases o <;> rfl
theorem Eu:PyData.strOk (Str.ofString "unlike")=true:=by decide+kernel
theorem Gh:PyData.strOk (Str.ofString "many")=true:=by decide+kernel
theorem Gm:PyData.strOk (Str.ofString "sum")=true:=by decide+kernel
theorem Ex:PyData.strOk (Str.ofString "table")=true:=by decide+kernel
theorem F7:PyData.strOk (Str.ofString "way")=true:=by decide+kernel
theorem EJ:PyData.strOk (Str.ofString "behind")=true:=by decide+kernel
theorem EV:PyData.strOk (Str.ofString "same")=true:=by decide+kernel
theorem Bg (W:Wi):(cB W).depth≤3:=by
 cases W with
 | un cs=>simp[cB,PyData.depth,PyData.depthAll,cN]
 | mn av cs lo hi=>simp[cB,PyData.depth,PyData.depthAll,cN,depth_ints]
 | sm ts lo hi =>
  have h1:PyData.depthAll (ts.map fun x=>.tuple [.int x.1,.str x.2])≤1:=nZ fun x _=>by simp[PyData.depth,PyData.depthAll]
  simp[cB,PyData.depth,PyData.depthAll,Db]
  omega
 | tb cs rows =>
  have h1:PyData.depthAll (rows.map fun r=>.tuple (r.map .int))≤1:=nZ fun r _=>by simp[PyData.depth,depth_ints]
  simp[cB,PyData.depth,PyData.depthAll,cN]
  omega
 | wy cs ps es =>
  have h1:PyData.depthAll (ps.map fun x=>.tuple [.int x.1,.int x.2.1,.int x.2.2])≤1:=nZ fun x _=>by simp[PyData.depth,PyData.depthAll]
  simp[cB,PyData.depth,PyData.depthAll,cN,depth_ints]
  omega
 | bh cs gap=>simp[cB,PyData.depth,PyData.depthAll,cN]
noncomputable def kvR (xs:List (Str × Addr × List Int)):List (Key × V):=xs.map fun x=>(Sum.inr x.1,.ref x.2.1)
noncomputable def RmT (H:Hp) (xs:List (Str × Addr × List Int)):Prop:=∀x∈xs,H x.2.1=some (.tup (x.2.2.map V.int))
noncomputable def dat (xs:List (Str × Addr × List Int)):List (Str × List Int):=xs.map fun x=>(x.1,x.2.2)
noncomputable def srt (l:List Int):List Int:=l.mergeSort fun a b=>decide (a≤b)
theorem nI (l:List Int):(srt l).Perm l:=List.mergeSort_perm _ _
theorem vx (l:List Int):(srt l).Pairwise (·≤·):=by
 have:=List.pairwise_mergeSort (le:=fun a b:Int=>decide (a≤b)) (fun a b c h g=>by simp only[decide_eq_true_eq] at *;omega) (fun a b=>by simp only[Bool.or_eq_true,decide_eq_true_eq];omega) l
 exact this.imp fun h=>of_decide_eq_true h
theorem zB : ∀{l m:List Int},l.Perm m→l.Pairwise (·≤·)→m.Pairwise (·≤·)→l=m
 | [],m,hp,_,_=>(List.Perm.eq_nil hp.symm).symm
 | a :: l,[],hp,_,_=>absurd (List.Perm.eq_nil hp) (by simp)
 | a :: l,b :: m,hp,h1,h2=>by
  rw[List.pairwise_cons] at h1 h2;have hab:a=b:=by
   have ha:a∈b :: m:=hp.mem_iff.mp mem_cons_self
   have hb:b∈a :: l:=hp.mem_iff.mpr mem_cons_self
   rcases mem_cons.mp ha with e | ha
   ·exact e
   ·rcases mem_cons.mp hb with e | hb
    ·exact e.symm
    ·exact Int.le_antisymm (h1.1 b hb) (h2.1 a ha)
  subst hab;rw[zB ((List.perm_cons a).mp hp) h1.2 h2.2]
theorem mU {l m:List Int} (h:m.Perm l) (hs:m.Pairwise (·≤·)):m=srt l:=zB (h.trans (nI l).symm) hs (vx l)
noncomputable def eR (mS:List (Str × Str)) (mI:List (Int × Int)) (x:Str × List Int):Str × List Int:=(ld mS x.1,srt (x.2.map (ld mI)))
noncomputable def Dk:Sp:=fun vs H Q _=>∃(t na va f:Addr) (mS:List (Str × Str)) (mI:List (Int × Int)) (xs:List (Str × Addr × List Int)),vs=[.ref t,.ref f]∧bH H t na va mS mI∧(f≠na∧f≠va)∧H f=some (.dK (kvR xs))∧RmT H xs∧(xs.map (·.1)).Nodup∧xs.length≤40∧(∀x∈xs,x.2.2.length≤60) ∧
 ∀p ys H',H p=none→ao H H'→H' p=some (.dK (kvR ys))→RmT H' ys→dat ys=(dat xs).map (eR mS mI)→Q (.ref p) H'
theorem kW (T:Txt w K mg base) (L:FnL K mg "turned_rooms" di ["turning","rooms"]) (Fw : @Dz9 P w K mg base) (Fc : @uo P w K mg base):Fn P w K mg base "turned_rooms" 3 ["turning","rooms"] (Dk):=by
 ctx_has z kR <;> obtain⟨t,na,va,f,mS,mI,xs,rfl,T0,nf,hf,hrt,hnd,hl,h60,k⟩:=h
 ·rfl
 refine⟨_,(ai (aA (aF (vq rfl) T.b_dict (aa (lM (bn (N:=["cell","room","turning"]) (nt:=2) (js:=[0]) (aI ["turning","rooms"] (am di).names) (sU (pvM 1)) (du (n:=2) rfl (aY (aB 0) (aY (aB 1) cY))) dq aV (aE (aa (ah Fw (aa (ak ap (pvM 2) ae) (aa (pvM 0) ac))) (aa (aF aM T.b_tuple (aa (aG dU T.b_sorted (aa (ah Fc (aa (ak ap (pvM 2) ae) (aa (pvM 1) ac))) ac)) ac)) ac))))) ac)))),?_⟩
 have e1:=T0.ht;ctx_has v mD iI hf xU
 refine⟨f,_,hf,fun o D hD=>?_⟩
 have fD:D≠f:=fun z=>by rw[z,ab] at hD;cases hD
 have hD0:H D=none:=by rw[ag fD] at hD;exact hD
 refine ww (fun j ys H'=>∃bs:List (Addr × Str × Addr × List Int),ys=bs.map (fun x=>V.ref x.1)∧dat (bs.map (·.2))=(dat (xs.take j)).map (eR mS mI)∧(∀x∈bs,H' x.1=some (.tup [.str x.2.1,.ref x.2.2.1]))∧RmT H' (bs.map (·.2))∧H' D=some (.lst ys)∧H' f=some (.frz o (.dK (kvR xs)))∧∀b u,b≠f→H b=some u→H' b=some u)
  ⟨[],rfl,rfl,by simp,by unfold RmT;simp,ab,by rw[ag fD.symm];exact ab,fun b u hb e=>by rw[ag (aj e hD0),ag hb];exact e⟩ (fun j ys H' zq45=>by obtain⟨_,_,_,_,_,_,h,_⟩:=zq45;exact(h)) ?_ ?_
 ·rintro j kk x ys H2 tt hj ⟨bs,rfl,hb,hbt,hbr,h2D,h2f,k2⟩ htt
  obtain⟨y,hy,e⟩ : ∃y,xs[j]? = some y∧(Sum.inr y.1,V.ref y.2.1)=(kk,x):=by
   unfold kvR at hj;rw[List.getElem?_map] at hj;cases e:xs[j]? with
   | none=>rw[e] at hj;cases hj
   | some nm=>rw[e] at hj;exact⟨nm,rfl,Option.some.inj hj⟩
  cases e;have hjl:j < xs.length:=(List.getElem?_eq_some_iff.mp hy).1
  have hym:=mem_of_getElem? hy;have s3:=ao.upd0 (o:=.tup [.str y.1,.ref y.2.1]) htt;have k3 : ∀b u,b≠f→H b=some u→upd H2 tt (.tup [.str y.1,.ref y.2.1]) b=some u:=fun b u hb e=>s3 _ _ (k2 b u hb e)
  have e3:=k3 t _ (bq e1 hf (by intro z;cases z)) e1
  have hna:=k3 na _ nf.1.symm T0.hn;have hva:=k3 va _ nf.2.symm T0.hv;have hyt:=k3 y.2.1 _ (bq (hrt y hym) hf (by intro z;cases z)) (hrt y hym)
  have hbl:bs.length≤j:=by
   have:=congrArg List.length hb
   unfold dat at this;rw[length_map,length_map,length_map,length_map] at this;rw[this];exact List.length_take_le _ _
  ctx_has v ab kV e3
  refine lK hna ?_
  refine⟨_,e3,_,aO (j:=1) rfl,?_⟩
  refine gr hva hyt (h60 y hym) fun p H4 s4 hp=>?_
  ctx_has v hp
  refine⟨_,rfl,by rw[length_map];have:=h60 y hym;omega,fun q ms hq hpm hso l hl=>⟨by decide,fun p2 hp2=>?_⟩⟩
  have s5:=((ao.upd0 (o:=HO.lst (ms.map V.int)) hq).upd_new (o:=HO.tup (ms.map V.int)) hl).upd_new (o:=HO.tup [.str (ld mS y.1),.ref l]) hp2;have lp:l≠p2:=fun z=>by rw[← z,ab] at hp2;cases hp2
  have e5:upd (upd (upd H4 q (HO.lst (ms.map V.int))) l (HO.tup (ms.map V.int))) p2 (HO.tup [.str (ld mS y.1),.ref l]) l=some (HO.tup (ms.map V.int)):=by rw[ag lp];exact ab
  have e6:upd (upd (upd H4 q (HO.lst (ms.map V.int))) l (HO.tup (ms.map V.int))) p2 (HO.tup [.str (ld mS y.1),.ref l]) p2=some (HO.tup [.str (ld mS y.1),.ref l]):=ab
  generalize upd (upd (upd H4 q (HO.lst (ms.map V.int))) l (HO.tup (ms.map V.int))) p2 (HO.tup [.str (ld mS y.1),.ref l])=H5 at s5 e5 e6 ⊢;have sA:=s3.trans (s4.trans s5);have h5D:=sA _ _ h2D;have kt : ∀b vs,H5 b=some (.tup vs)→upd H5 D (.lst (bs.map (fun x=>V.ref x.1)++[.ref p2])) b=some (.tup vs):=fun b vs q=>by rw[ag (bq q h5D (by intro z;cases z))];exact q
  refine⟨h5D,by rw[length_map];exact ax (by omega),bs++[(p2,ld mS y.1,l,ms)],by simp,?_,fun x hx=>?_,fun x hx=>?_,?_,fun b u hb e=>?_⟩
  ·have et:xs.take (j+1)=xs.take j++[y]:=by rw[take_add_one,hy];rfl
   rw[et];unfold dat at hb ⊢;rw[map_append,map_append,hb,map_append,map_append]
   show _++[(ld mS y.1,ms)]=_++[(ld mS y.1,srt (y.2.2.map (ld mI)))]
   rw[mU hpm hso]
  ·rcases mem_append.mp hx with q | q
   ·exact kt _ _ (sA _ _ (hbt x q))
   ·rw[mem_singleton.mp q];exact kt _ _ e6
  ·rw[map_append] at hx
   rcases mem_append.mp hx with q | q
   ·exact kt _ _ (sA _ _ (hbr x q))
   ·rw[show x=(ld mS y.1,l,ms) by simpa using q];exact kt _ _ e5
  ·rw[ag fD.symm];exact sA _ _ h2f
  ·rw[ag (aj e hD0)];exact sA _ _ (k2 b u hb e)
 ·rintro ys H2 ⟨bs,rfl,hb,hbt,hbr,h2D,h2f,k2⟩
  have hl2:(kvR xs).length=xs.length:=by unfold kvR;rw[length_map]
  rw[hl2,take_length] at hb;have s3:ao H (upd H2 f (.dK (kvR xs))):=fun b u e=>by
   by_cases hb:b=f
   ·subst hb;rw[ab,← e,hf]
   ·rw[ag hb];exact k2 b u hb e
  have hbl:bs.length=xs.length:=by have:=congrArg List.length hb;unfold dat at this;simpa using this
  refine⟨⟨o,h2f⟩,D,rfl,_,.inr (by rw[ag fD];exact h2D),kvR (bs.map (·.2)),⟨bs.map fun x=>(x.1,Sum.inr x.2.1,.ref x.2.2.1),by rw[map_map];rfl,by unfold kvR;rw[map_map,map_map];rfl,fun x hx=>?_⟩,by unfold kvR;rw[length_map,length_map];exact le_of_lt (ax (by omega)),fun p hp=>?_⟩
  ·obtain⟨y,hy,rfl⟩:=mem_map.mp hx
   rw[ag (bq (hbt y hy) h2f (by intro z;cases z))]
   exact hbt y hy
  ·rw[kK _ [] ?_]
   ·refine k p _ _ (s3.free hp) (s3.upd_new hp) ab (fun x hx=>?_) hb
    rw[ag (aj (show upd H2 f (HO.dK (kvR xs)) x.2.1=some (.tup (x.2.2.map V.int)) by rw[ag (bq (hbr x hx) h2f (by intro z;cases z))];exact hbr x hx) hp),ag (bq (hbr x hx) h2f (by intro z;cases z))]
    exact hbr x hx
   ·have hk:=congrArg (List.map fun x:Str × List Int=>(Sum.inr x.1:Key)) hb
    have e1:(kvR (bs.map (·.2))).map (·.1)=(dat (bs.map (·.2))).map fun x=>(Sum.inr x.1:Key):=by unfold kvR dat;simp only[map_map];rfl
    have e2:((dat xs).map (eR mS mI)).map (fun x=>(Sum.inr x.1:Key))=(xs.map (·.1)).map fun s=>Sum.inr (ld mS s):=by unfold dat;simp only[map_map];rfl
    rw[List.nil_append,e1,hk,e2];exact List.Pairwise.map _ (fun a b hab e=>hab (gn T0.ps (Sum.inr.inj e))) hnd
theorem wV : ∀{W:Wi},okW ws ns W→szT W
 | .un _,⟨_,_,_,d⟩=>d
 | .mn _ _ _ _,⟨⟨_,_,_,d⟩,_,_,e⟩=>⟨e,d⟩
 | .sm ts _ _,⟨⟨_,_,_,d⟩,_⟩=>by simpa [szT] using d
 | .tb cs rows,⟨⟨_,_,_,d⟩,_,e,f⟩=>⟨d,by omega,fun r hr=>by rw[e r hr];exact d⟩
 | .wy _ _ _,⟨⟨_,_,_,d⟩,_,f,_⟩=>⟨d,f⟩
 | .bh _ _,⟨_,_,_,d⟩=>d
theorem rH : ∀{W:Wx},okX ws ns W→BR W
 | .pl _,h=>wV h
 | .sa _ _ _,h=>⟨wV h.2.2.1,h.2.1.2.2⟩
theorem dX (h:PM mS) {ws:List Str} (hm : ∀x∈mS,x.1∈ws) {c:Str} (hc:c∈ws):ld mS c∈ws:=by
 by_cases hx:c∈mS.map (·.1)
 ·have:=pV h hx
  obtain⟨y,hy,e⟩:=mem_map.mp this;rw[← e];exact hm y hy
 ·rw[eF hx];exact hc
theorem iQ {w:Addr} {W:Wx} {Q:VK} {E:XK} (tb:bM H) (hW:WX H w W) (hk:okX ws ns W) (k : ∀r H',ao H H'→WX H' r (cL W)→Q (.ref r) H'):yn [.ref w] H Q E∨yW [.ref w] H Q E:=by
 cases W with
 | pl W=>exact .inl ⟨w,ws,ns,W,rfl,tb,hW,hk,k⟩
 | sa c vs W=>exact .inr ⟨w,ws,ns,c,vs,W,rfl,tb,hW,hk,k⟩
theorem C0 {w:Addr} {W:Wx} {Q:VK} {E:XK} (D:aD H d l) (hW:WX H w W) (hk:okX ws ns W) (k : ∀r W' H',WX H' r W'→uz W W'→aD H' d l→But d l H H'→Q (.ref r) H'):yE [.ref d,.ref w] H Q E∨zw [.ref d,.ref w] H Q E:=by
 cases W with
 | pl W=>exact .inl ⟨d,l,w,ws,ns,W,rfl,D,hW,hk,fun r W' H' h m=>k r (.pl W') H' h m⟩
 | sa c vs W=>exact .inr ⟨d,l,w,ws,ns,c,vs,W,rfl,D,hW,hk,k⟩
theorem bM.but (h:bM H) (D:aD H d l) (B:But d l H H'):bM H':=fun t ht=>by
 obtain⟨m,sd,n,xs,e1,e2,_⟩:=D.ex;exact B _ _ (bq (h t ht) e1 (by intro z;cases z)) (bq (h t ht) e2 (by intro z;cases z)) (h t ht)
noncomputable def dP (W:Wx):PyData:=bO (cL W)
noncomputable def cn (l:List PyData) (d:PyData):Nat:=l.count d
noncomputable def mB (l:List PyData) (d:PyData):Option Int:=if cn l d=0 then none else some (cn l d:Nat)
theorem oy (d:PyData):cn [] d=0:=by unfold cn;exact List.count_nil
theorem jn (l:List PyData) (x d:PyData):cn (l++[x]) d=cn l d+if d=x then 1 else 0:=by
 unfold cn;rw[List.count_append,List.count_singleton]
 by_cases h:d=x
 ·subst h;simp
 ·have : ¬ x=d:=fun e=>h e.symm
  simp[h,this]
theorem gb (l:List PyData) (x d:PyData):cn (x :: l) d=cn l d+if d=x then 1 else 0:=by
 unfold cn;rw[List.count_cons]
 by_cases h:d=x
 ·subst h;simp
 ·have : ¬ x=d:=fun e=>h e.symm
  simp[h,this]
theorem mv (l:List PyData) (d:PyData):(mB l d).getD 0=(cn l d:Nat):=by
 unfold mB;split
 ·next h=>rw[h];rfl
 ·rfl
theorem iB {α:Type} {f:α→PyData} : ∀{l:List α},(∀x∈l,dW (f x)=true)→bJ (l.map f)=true
 | [],_=>rfl
 | x :: l,h=>by rw[map_cons,bJ,h x (by simp),iB fun y hy=>h y (by simp[hy])];rfl
theorem jF (ns:List Int):bJ (ns.map PyData.int)=true:=iB fun _ _=>rfl
theorem gB {cs:List Str} (h : ∀c∈cs,cb c):bJ (cs.map PyData.str)=true:=iB fun c hc=>by
 have:=yT (h c hc)
 rw[PyData.canLay0] at this;exact this
theorem DU (o:Option Int):dW (bD o)=true:=by cases o <;> rfl
theorem By {W:Wi} (h : ∀c∈ga W,cb c):dW (cB W)=true:=by
 cases W with
 | un cs=>simp[cB,dW,bJ,gB (cs:=cs) h,Eu]
 | mn av cs lo hi=>simp[cB,dW,bJ,gB (cs:=cs) h,jF,Gh]
 | sm ts lo hi =>
  have h1:bJ (ts.map fun x=>.tuple [.int x.1,.str x.2])=true:=iB fun x hx=>by
   have:=yT (h x.2 (mem_map.mpr ⟨x,hx,rfl⟩))
   rw[PyData.canLay0] at this;simp[dW,bJ,this]
  simp[cB,dW,bJ,h1,DU,Gm]
 | tb cs rows =>
  have h1:bJ (rows.map fun r=>.tuple (r.map .int))=true:=iB fun r _=>by rw[dW];exact jF r
  simp[cB,dW,bJ,gB (cs:=cs) h,h1,Ex]
 | wy cs ps es =>
  have h1:bJ (ps.map fun x=>.tuple [.int x.1,.int x.2.1,.int x.2.2])=true:=iB fun x _=>by simp[dW,bJ]
  simp[cB,dW,bJ,gB (cs:=cs) h,jF,h1,F7]
 | bh cs gap=>simp[cB,dW,bJ,gB (cs:=cs) h,EJ]
theorem A9 {W:Wx} (h : ∀c∈yr W,cb c):jX (bO W):=by
 cases W with
 | pl W=>exact⟨By h,le_trans (Bg W) (by decide)⟩
 | sa c vs W =>
  have hs:=yT (h c mem_cons_self);have hw:=By (W:=W) fun c hc=>h c (mem_cons_of_mem _ hc)
  have hd:=Bg W;rw[PyData.canLay0] at hs;refine⟨by simp[bO,dW,bJ,jF,hw,hs,EV],?_⟩
  simp[bO,PyData.depth,PyData.depthAll,depth_ints]
  omega
theorem sW {W:Wx} (nm : ∀c∈ws,cb c) (ok:okX ws ns W):jX (dP W):=A9 fun c hc=>nm c (qe (vF ok (iS ok)) c hc)
noncomputable def jQ (H:Hp) (us:List V) (Ws:List Wx):Prop:=∃bs:List (Addr × Wx),us=bs.map (fun x=>V.ref x.1)∧bs.map (·.2)=Ws∧∀x∈bs,WX H x.1 x.2
theorem jQ.keep {us:List V} {Ws:List Wx} (h:jQ H us Ws) (k : ∀a xs,H a=some (.tup xs)→H' a=some (.tup xs)):jQ H' us Ws:=by
 obtain⟨bs,h1,h2,h3⟩:=h;exact⟨bs,h1,h2,fun x hx=>bS (h3 x hx) k⟩
structure oR (H:Hp) (t:Addr) (us:List V) (Ws:List Wx) (ws:List Str) (ns:List Int):Prop where
 ht:H t=some (.tup us)
 wa:jQ H us Ws
 ok : ∀W∈Ws,okX ws ns W
 nm : ∀c∈ws,cb c
 ln:Ws.length≤40
theorem oR.same {us:List V} {Ws:List Wx} (h:oR H t us Ws ws ns) (s:ao H H'):oR H' t us Ws ws ns :=
 ⟨s _ _ h.ht,h.wa.keep fun a xs e=>s _ _ e,h.ok,h.nm,h.ln⟩
theorem oR.at {H:Hp} {t:Addr} {us:List V} {Ws:List Wx} {ws:List Str} {ns:List Int} (h:oR H t us Ws ws ns) {i:Nat} {x:V} (hx:us[i]? = some x) : ∃w W,x = .ref w∧Ws[i]? = some W∧WX H w W∧W∈Ws:=by
 obtain⟨bs,rfl,rfl,h3⟩:=h.wa;rw[List.getElem?_map] at hx;cases e:bs[i]? with
 | none=>rw[e] at hx;cases hx
 | some y =>
  rw[e] at hx;cases Option.some.inj hx;exact⟨y.1,y.2,rfl,by rw[List.getElem?_map,e];rfl,h3 y (mem_of_getElem? e),mem_map.mpr ⟨y,mem_of_getElem? e,rfl⟩⟩
theorem oR.len {us:List V} {Ws:List Wx} (h:oR H t us Ws ws ns):us.length=Ws.length:=by
 obtain⟨bs,rfl,rfl,h3⟩:=h.wa;rw[length_map,length_map]
noncomputable def fN (H:Hp) (kvs:List CT):Prop:=∀x∈kvs,∃W,jX (bO W)∧x.1=bO W∧WX H x.2.1 W
theorem fN.ins {kvs:List CT} (h:fN H kvs):km K H kvs:=fun x hx=>by
 obtain⟨W,a,b,c⟩:=h x hx;rw[b];exact⟨a,kC c⟩
theorem fN.keep {kvs:List CT} (h:fN H kvs) (k : ∀a xs,H a=some (.tup xs)→H' a=some (.tup xs)):fN H' kvs:=fun x hx=>by
 obtain⟨W,a,b,c⟩:=h x hx;exact⟨W,a,b,bS c k⟩
theorem fN.put {kvs:List CT} {W:Wx} {n:Int} (h:fN H kvs) (hd:jX (bO W)) (hb:WX H b W):fN H (gD kvs (bO W) b n):=fun x hx=>by
 unfold gD at hx
 split at hx
 ·obtain⟨y,hy,rfl⟩:=mem_map.mp hx
  have:=h y hy
  by_cases z:y.1=bO W
  ·rw[if_pos z];exact this
  ·rw[if_neg z];exact this
 ·rcases mem_append.mp hx with z | z
  ·exact h x z
  ·rw[mem_singleton.mp z];exact⟨W,hd,rfl,hb⟩
theorem pM {p:Addr} (h:H p=some (.ext φ)) : ∀a xs,H a=some (.tup xs)→upd H p o a=some (.tup xs):=fun a xs e=>by
 rw[ag (bq e h (by intro z;cases z))];exact e
noncomputable def Dr (P:Program) (w:World):Sp:=fun vs H Q _=>∃(t:Addr) (us:List V) (Ws:List Wx) (ws:List Str) (ns:List Int),vs=[.ref t]∧bM H∧oR H t us Ws ws ns ∧
 ∀r o kvs H',ao H H'→H' r=some (cR P w r o kvs)→fN H' kvs→(∀d,atC kvs d=mB (Ws.map dP) d)→kvs.length≤Ws.length→Q (.ref r) H'
theorem sY {l:List PyData} {kvs:List CT} {x:PyData} (h : ∀d,atC kvs d=mB l d) (d:PyData):atC (gD kvs x a ((cn l x:Nat)+1)) d=mB (l++[x]) d:=by
 rw[wc,h];unfold mB;rw[jn]
 by_cases e:d=x
 ·subst e
  rw[if_pos rfl,if_pos rfl,if_neg (by omega)]
  rfl
 ·rw[if_neg e,if_neg e,Nat.add_zero]
theorem lN (T:Txt w K mg base) (L:FnL K mg "plain_forms" eX ["wishes"]) (Fm : @Ag P w K mg base) (Fq : @BM P w K mg base):Fn P w K mg base "plain_forms" 5 ["wishes"] (Dr P w):=by
 ctx_has z nM <;> obtain⟨t,us,Ws,ws,ns,rfl,tb,hW,k⟩:=h
 ·rfl
 refine⟨_,(af (aC 1 (sF (P:=P) (w:=w) rfl rfl))
  (af (bE (je (K:=K) rfl (pvM 0)) (aB 2) (af (aC 3 (bX Fm Fq (aa (pvM 2) ac)))
  (ai (wP (P:=P) (w:=w) (K:=K) rfl rfl rfl (hu9 hr) (pvM 1) (pvM 3) (aN bw (qD (P:=P) (w:=w) (K:=K) rfl rfl rfl (hu9 hr) (pvM 1) (pvM 3) ae ⟨rfl,rfl,rfl,rfl⟩) ae) rfl))))
  (ai (aA (pvM 1))))),?_⟩
 have h1:=hW.ht;have hul:=hW.len;ctx_has v
 intro p o H2 hp s2 h2;refine⟨us,s2 _ _ h1,?_⟩
 refine bW aW (fun i σ H'=>∃v2 v3 o kvs,σ=[some (.ref t),some (.ref p),v2,v3]∧H' p=some (cR P w p o kvs)∧fN H' kvs∧(∀d,atC kvs d=mB ((Ws.take i).map dP) d)∧kvs.length≤i∧ao H H') ⟨_,_,o,[],rfl,h2,(fun x hx=>by cases hx),(fun d=>by unfold mB;rw[List.take_zero,map_nil,oy];rfl),zero_le _,s2⟩ (fun i σ H' zq46=>by obtain⟨_,_,_,_,_,_,_,_,_,s⟩:=zq46;exact(.of (s _ _ h1))) ?_ ?_
 ·rintro i x σ H3 hi hx ⟨v2,v3,o3,kvs,rfl,h3,hk,hc,hl,s3⟩
  obtain⟨wv,W,rfl,hWi,hWX,hm⟩:=(hW.same s3).at hx;ctx_has v
  refine iQ (tb.same s3) hWX (hW.ok W hm) fun r H4 s4 h4=>?_
  have hk4:=hk.keep (fun a xs e=>s4 a _ e)
  have hrp:=kC (K:=K) h4;have hkd:=sW hW.nm (hW.ok W hm);have hln:=hW.ln;have h3':=s4 _ _ h3;ctx_has v h3'
  have et:(Ws.take (i+1)).map dP=(Ws.take i).map dP++[dP W]:=by rw[take_add_one,hWi];simp
  refine⟨⟨_,_,rfl,hk4.ins⟩,_,_,rfl,hk4.ins,_,hkd,hrp,_,_,rfl,hk4.ins,by omega,_,hkd,hrp,fun o'=>⟨_,_,ab,(hk4.put hkd h4).keep (pM h3'),fun d=>?_,?_,(s3.trans s4).putN hp⟩⟩
  ·rw[hc,mv,et]
   exact sY hc d
  ·exact le_trans (lU _ _ _ _) (by omega)
 ·rintro σ H3 ⟨v2,v3,o3,kvs,rfl,h3,hk,hc,hl,s3⟩
  rw[hul,take_length] at hc;ctx_has v
  exact k p o3 kvs H3 s3 h3 hk hc (by omega)
noncomputable def Led (mS:List (Str × Str)) (mI:List (Int × Int)) (Ws:List Wx) (L:List PyData):Prop:=∃Vs:List Wx,Ws.map (bB mS mI)=Vs.map some∧∀d,cn (Vs.map dP) d≤cn L d
theorem wA {Ws:List Wx} (h:Led mS mI Ws L) {i:Nat} {Vs:List Wx} (hv:(Ws.take i).map (bB mS mI)=Vs.map some) (d:PyData):cn (Vs.map dP) d≤cn L d:=by
 obtain⟨Us,e,h⟩:=h;have:Vs=Us.take i:=by
  have e2:(Vs.map some:List (Option Wx))=(Us.take i).map some:=by rw[← hv,map_take,e,map_take]
  exact(List.map_inj_right fun a b z=>Option.some.inj z).mp e2
 subst this;refine le_trans ?_ (h d)
 unfold cn;rw[map_take];exact(take_sublist i _).count_le d
theorem sO {Ws:List Wx} (h:Led mS mI Ws L) {i:Nat} {W:Wx} (hW:Ws[i]? = some W):bB mS mI W≠none:=fun z=>by
 obtain⟨Us,e,h⟩:=h;have:(Ws.map (bB mS mI))[i]? = some none:=by rw[List.getElem?_map,hW,map_some,z]
 rw[e,List.getElem?_map] at this;cases hu:Us[i]? with
 | none=>rw[hu] at this;cases this
 | some u=>rw[hu] at this;cases this
structure TOk (mS:List (Str × Str)) (mI:List (Int × Int)) (Ws:List Wx) (ws':List Str) (ns:List Int):Prop where
 ok : ∀W∈Ws,∀V,bB mS mI W=some V→okX ws' ns V
 nm : ∀c∈ws',cb c
noncomputable def Dt (P:Program) (w:World):Sp:=fun vs H Q _=>∃(t na va tw fm:Addr) (mS:List (Str × Str)) (mI:List (Int × Int)) (us:List V) (Ws:List Wx) (ws ws':List Str) (ns:List Int) (o:Obj) (kvs:List CT) (L:List PyData),vs=[.ref t,.ref tw,.ref fm]∧bM H∧bH H t na va mS mI∧oR H tw us Ws ws ns∧TOk mS mI Ws ws' ns ∧
 H fm=some (cR P w fm o kvs)∧fN H kvs∧(∀d,atC kvs d=mB L d)∧∀(b:Bool) H',ao H H'→(b=true↔Led mS mI Ws L)→Q (.bl b) H'
abbrev DY:=Fn P w K mg base "leads_wishes_among" 8 ["turning","wishes","forms"] (Dt P w)
theorem gy (T:Txt w K mg base) (L:FnL K mg "leads_wishes_among" ci ["turning","wishes","forms"]) (FM:Fn P w K mg base "turned_wish" 7 ["turning","wish"] (qO)) (Fm : @Ag P w K mg base) (Fq : @BM P w K mg base) : @DY P w K mg base:=by
 ctx_has z gx <;> obtain⟨t,na,va,tw,fm,mS,mI,us,Ws,ws,ws',ns,o,kvs,L,rfl,tb,T0,hW,hT,hfm,hkf,hcf,k⟩:=h
 ·rfl
 refine⟨_,(af (aC 3 (sF (P:=P) (w:=w) rfl rfl))
  (af (bE (je (K:=K) rfl (pvM 1)) (aB 4) (af (aC 5 (ah FM (aa (pvM 0) (aa (pvM 4) ac))))
  (af (aK (gT (lR (pvM 5))) (ai (aA fL)) az)
  (af (aC 6 (bX Fm Fq (aa (pvM 5) ac)))
  (af (wP (P:=P) (w:=w) (K:=K) rfl rfl rfl (hu9 hr) (pvM 3) (pvM 6) (aN bw (qD (P:=P) (w:=w) (K:=K) rfl rfl rfl (hu9 hr) (pvM 3) (pvM 6) ae ⟨rfl,rfl,rfl,rfl⟩) ae) rfl)
  (ai (aK (ay sP (BW (P:=P) (w:=w) (K:=K) rfl rfl rfl (hu9 hr) (pvM 3) (pvM 6) (fun _ _=>rfl)) (qD (P:=P) (w:=w) (K:=K) rfl rfl rfl (hu9 hr) (pvM 2) (pvM 6) ae ⟨rfl,rfl,rfl,rfl⟩)) (ai (aA fL)) az)))))))
  (ai (aA fL)))),?_⟩
 have h1:=hW.ht;have hul:=hW.len;have hln:=hW.ln;ctx_has v
 intro p o2 H2 hp s2 h2;refine⟨us,s2 _ _ h1,?_⟩
 refine bW aW (fun i σ H'=>∃v4 v5 v6 o kvs,σ=[some (.ref t),some (.ref tw),some (.ref fm),some (.ref p),v4,v5,v6]∧H' p=some (cR P w p o kvs)∧fN H' kvs∧(∃Vs,(Ws.take i).map (bB mS mI)=Vs.map some∧(∀d,atC kvs d=mB (Vs.map dP) d)∧∀d,cn (Vs.map dP) d≤cn L d)∧kvs.length≤i∧ao H H')
  ⟨_,_,_,o2,[],rfl,h2,(fun x hx=>by cases hx),⟨[],by simp,(fun d=>by unfold mB;rw[map_nil,oy];rfl),fun d=>by rw[map_nil,oy];exact zero_le _⟩,zero_le _,s2⟩ (fun i σ H' zq47=>by obtain⟨_,_,_,_,_,_,_,_,_,_,s⟩:=zq47;exact(.of (s _ _ h1))) ?_ ?_
 ·rintro i x σ H3 hi hx ⟨v4,v5,v6,o3,kv3,rfl,h3,hk,⟨Vs,hV,hc,hle⟩,hl,s3⟩
  obtain⟨wv,W,rfl,hWi,hWX,hm⟩:=(hW.same s3).at hx;have eT:(Ws.take (i+1)).map (bB mS mI)=Vs.map some++[bB mS mI W]:=by rw[take_add_one,hWi,map_append,hV];rfl
  ctx_has v
  refine⟨t,wv,na,va,mS,mI,W,rfl,T0.same s3,hWX,rH (hW.ok W hm),fun v H4 s4 hv=>?_⟩
  have s04:=s3.trans s4;cases ht:bB mS mI W with
  | none =>
   rw[ht] at hv;cases (show v = .non from hv)
   ctx_has v
   exact k false H4 s04 ⟨fun z=>(by cases z),fun z=>absurd ht (sO z hWi)⟩
  | some Vt =>
   rw[ht] at hv eT;obtain⟨wt,rfl,hVX⟩:=hv;have hok:=hT.ok W hm Vt ht;have eT2:(Ws.take (i+1)).map (bB mS mI)=(Vs++[Vt]).map some:=by rw[eT,map_append];rfl
   ctx_has v
   refine iQ (tb.same s04) hVX hok fun r H5 s5 h5=>?_
   have s05:=s04.trans s5;have hk5:=hk.keep (fun a xs e=>s5 a _ (s4 a _ e))
   have hrp:=kC (K:=K) h5;have hkd:=sW hT.nm hok;have h3':=s5 _ _ (s4 _ _ h3);ctx_has v h3'
   refine⟨⟨_,_,rfl,hk5.ins⟩,_,_,rfl,hk5.ins,_,hkd,hrp,_,_,rfl,hk5.ins,by omega,_,hkd,hrp,fun o'=>?_⟩
   rw[hc,mv];have gp:upd H5 p (cR P w p o' (gD kv3 (dP Vt) r ((cn (Vs.map dP) (dP Vt):Nat)+1))) p=some (cR P w p o' (gD kv3 (dP Vt) r ((cn (Vs.map dP) (dP Vt):Nat)+1))):=ab
   have sG:ao H (upd H5 p (cR P w p o' (gD kv3 (dP Vt) r ((cn (Vs.map dP) (dP Vt):Nat)+1)))):=s05.putN hp
   have gt:=pM (o:=cR P w p o' (gD kv3 (dP Vt) r ((cn (Vs.map dP) (dP Vt):Nat)+1))) h3';have kp:=(hk5.put (n:=(cn (Vs.map dP) (dP Vt):Nat)+1) hkd h5).keep gt;have rg:=kC (K:=K) (bS h5 gt);change fN _ (gD kv3 (dP Vt) r _) at kp;change Rep K _ _ (dP Vt) at rg;generalize upd H5 p (cR P w p o' (gD kv3 (dP Vt) r ((cn (Vs.map dP) (dP Vt):Nat)+1)))=G at gp sG gt kp rg ⊢;have gf:=sG _ _ hfm;have kf:=hkf.keep (fun a xs e=>sG a _ e)
   have ec:((Vs++[Vt]).map dP)=Vs.map dP++[dP Vt]:=by rw[map_append];rfl
   refine⟨_,_,gp,kp.ins,_,hkd,rg,_,by rw[wc,if_pos rfl],⟨_,_,gf,kf.ins⟩,_,_,gf,kf.ins,_,hkd,rg,?_⟩
   rw[hcf,mv];refine cW (fun h=>?_) (fun h=>?_)
   ·refine k false G sG ⟨fun z=>(by cases z),fun z=>?_⟩
    have:=wA z eT2 (dP Vt)
    rw[ec,jn,if_pos rfl] at this;omega
   ·refine⟨_,_,gp,kp,⟨Vs++[Vt],eT2,fun d=>?_,fun d=>?_⟩,le_trans (lU _ _ _ _) (by omega),sG⟩
    ·rw[ec];exact sY hc d
    ·rw[ec,jn]
     by_cases e:d=dP Vt
     ·subst e;rw[if_pos rfl];omega
     ·rw[if_neg e];exact hle d
 ·rintro σ H3 ⟨v4,v5,v6,o3,kv3,rfl,h3,hk,⟨Vs,hV,hc,hle⟩,hl,s3⟩
  rw[hul,take_length] at hV;ctx_has v
  exact k true H3 s3 ⟨fun _=>⟨Vs,hV,hle⟩,fun _=>rfl⟩
theorem yi (xs:List (Str × Addr × List Int)):(kvR xs).map (·.1)=xs.map fun x=>(Sum.inr x.1:Key):=by unfold kvR;rw[map_map];rfl
theorem yy {xs:List (Str × Addr × List Int)} (h:(xs.map (·.1)).Nodup):((kvR xs).map (·.1)).Nodup:=by
 rw[yi];have:(xs.map fun x=>(Sum.inr x.1:Key))=(xs.map (·.1)).map Sum.inr:=by rw[map_map];rfl
 rw[this];exact List.Pairwise.map _ (fun a b hab e=>hab (Sum.inr.inj e)) h
noncomputable def iq (mS:List (Str × Str)) (mI:List (Int × Int)) (ds:List (Str × List Int)):Prop:=(∀x∈mS,x.1∈ds.map (·.1))∧∀x∈ds,eR mS mI x∈ds
structure wC (H:Hp) (r:Addr) (xs:List (Str × Addr × List Int)):Prop where
 hr:H r=some (.dK (kvR xs))
 rt:RmT H xs
 nd:(xs.map (·.1)).Nodup
 ln:xs.length≤40
 rl : ∀x∈xs,x.2.2.length≤60
theorem cF {k:Key} : ∀{l:List (Key × V)},(bu l k).isSome=true↔k∈l.map (·.1)
 | []=>by simp[bu]
 | x :: l=>by
  by_cases h:x.1=k
  ·rw[aZ h];simp[h]
  ·rw[aP h,cF]
   simp only[map_cons,mem_cons];exact⟨.inr,fun z=>z.elim (fun e=>absurd e.symm h) id⟩
noncomputable def lk (ds:List (Str × List Int)) (s:Str):List Int:=((ds.find? fun x=>decide (x.1=s)).map (·.2)).getD []
noncomputable def lkK (ds:List (Str × List Int)):Key→List Int
 | .inr s=>lk ds s
 | .inl _=>[]
theorem gE : ∀{ds:List (Str × List Int)} {x:Str × List Int},(ds.map (·.1)).Nodup→x∈ds→lk ds x.1=x.2
 | [],_,_,h=>by cases h
 | y :: ds,x,hn,h=>by
  rw[map_cons,nodup_cons] at hn;unfold lk;rw[find?_cons];rcases mem_cons.mp h with rfl | h
  ·simp
  ·have : ¬ y.1=x.1:=fun e=>hn.1 (by rw[e];exact mem_map.mpr ⟨x,h,rfl⟩)
   simp only[this,decide_false];exact gE hn.2 h
theorem xW : ∀{ds:List (Str × List Int)} {s:Str},s∈ds.map (·.1)→(s,lk ds s)∈ds
 | [],_,h=>by cases h
 | y :: ds,s,h=>by
  unfold lk;rw[find?_cons]
  by_cases e:y.1=s
  ·subst e;simp
  ·simp only[e,decide_false]
   rw[map_cons,mem_cons] at h;rcases h with z | z
   ·exact absurd z.symm e
   ·exact mem_cons_of_mem _ (xW z)
theorem jJ {xs:List (Str × Addr × List Int)} {s:Str}:(Sum.inr s:Key)∈(kvR xs).map (·.1)↔s∈(dat xs).map (·.1):=by
 unfold kvR dat;rw[map_map,map_map]
 constructor
 ·intro h
  obtain⟨x,hx,e⟩:=mem_map.mp h;exact mem_map.mpr ⟨x,hx,Sum.inr.inj e⟩
 ·intro h
  obtain⟨x,hx,e⟩:=mem_map.mp h;exact mem_map.mpr ⟨x,hx,congrArg Sum.inr e⟩
theorem cX (xs:List (Str × Addr × List Int)):(dat xs).map (·.1)=xs.map (·.1):=by unfold dat;rw[map_map];rfl
theorem xV {xs:List (Str × Addr × List Int)}:((mS.map fun x=>(bu (kvR xs) (Sum.inr x.1)).isSome).all id=true)↔∀x∈mS,x.1∈(dat xs).map (·.1):=by
 rw[all_map,all_eq_true];exact⟨fun h x hx=>jJ.mp (cF.mp (h x hx)),fun h x hx=>cF.mpr (jJ.mpr (h x hx))⟩
theorem iA:(ds.map (eR mS mI)).map (·.1)=(ds.map (·.1)).map (ld mS):=by
 rw[map_map,map_map];rfl
theorem nC (h:PM mS) {l:List Str} (hn:l.Nodup):(l.map (ld mS)).Nodup:=by
 exact pairwise_map.mpr (hn.imp fun ne e=>ne (gn h e))
theorem CI {xs:List (Str × Addr × List Int)} (hS:PM mS) (hd:dat ys=(dat xs).map (eR mS mI)) (hn:(xs.map (·.1)).Nodup) (hx:RmT H xs) (hy:RmT H ys) (hin : ∀x∈mS,x.1∈(dat xs).map (·.1)) :
  zx H (kvR ys) (kvR xs) (lkK (dat ys)) (lkK (dat xs)):=by
 have hny:((dat ys).map (·.1)).Nodup:=by rw[hd,iA,cX];exact nC hS hn
 have hnx:((dat xs).map (·.1)).Nodup:=by rw[cX];exact hn
 intro p hp;obtain⟨y,hym,rfl⟩:=mem_map.mp hp;have hyd:(y.1,y.2.2)∈dat ys:=mem_map.mpr ⟨y,hym,rfl⟩
 have hk:y.1∈(dat xs).map (·.1):=by
  have:y.1∈(dat ys).map (·.1):=mem_map.mpr ⟨_,hyd,rfl⟩
  rw[hd,iA] at this;obtain⟨c,hc,e⟩:=mem_map.mp this;rw[← e];exact dX hS hin hc
 rw[cX] at hk;obtain⟨x,hxm,ex⟩:=mem_map.mp hk;have hv:bu (kvR xs) (Sum.inr y.1)=some (.ref x.2.1):=by
  rw[← ex];exact jp (yy hn) (mem_map.mpr ⟨x,hxm,rfl⟩)
 have e1:=gE hny hyd;have e2:=gE hnx (mem_map.mpr ⟨x,hxm,rfl⟩:(x.1,x.2.2)∈dat xs);refine⟨y.2.1,x.2.1,rfl,?_,hv,?_⟩
 ·show H _=some (.tup ((lk (dat ys) y.1).map V.int))
  rw[show lk (dat ys) y.1=y.2.2 from e1];exact hy y hym
 ·show H _=some (.tup ((lk (dat xs) y.1).map V.int))
  rw[← ex,show lk (dat xs) x.1=x.2.2 from e2];exact hx x hxm
theorem EU {xs:List (Str × Addr × List Int)} (hS:PM mS) (hd:dat ys=(dat xs).map (eR mS mI)) (hn:(xs.map (·.1)).Nodup) (hin : ∀x∈mS,x.1∈(dat xs).map (·.1)) :
  ((kvR ys).all fun p=>decide (lkK (dat ys) p.1=lkK (dat xs) p.1))=true↔iq mS mI (dat xs):=by
 have hny:((dat ys).map (·.1)).Nodup:=by rw[hd,iA,cX];exact nC hS hn
 have hnx:((dat xs).map (·.1)).Nodup:=by rw[cX];exact hn
 rw[all_eq_true]
 constructor
 ·intro h
  refine⟨hin,fun x hx=>?_⟩
  have hm:eR mS mI x∈dat ys:=by rw[hd];exact mem_map.mpr ⟨x,hx,rfl⟩
  obtain⟨y,hy,ey⟩:=mem_map.mp hm;have h1:=of_decide_eq_true (h (Sum.inr y.1,.ref y.2.1) (mem_map.mpr ⟨y,hy,rfl⟩));have e1:lk (dat ys) y.1=y.2.2:=gE hny (mem_map.mpr ⟨y,hy,rfl⟩:(y.1,y.2.2)∈dat ys)
  have h2:y.2.2=lk (dat xs) y.1:=e1.symm.trans h1
  rw[← ey]
  show(y.1,y.2.2)∈dat xs
  rw[h2];refine xW ?_
  have:y.1=ld mS x.1:=congrArg Prod.fst ey
  rw[this];exact dX hS hin (mem_map.mpr ⟨x,hx,rfl⟩)
 ·rintro⟨_,h⟩ p hp
  obtain⟨y,hy,rfl⟩:=mem_map.mp hp;have hyd:(y.1,y.2.2)∈dat ys:=mem_map.mpr ⟨y,hy,rfl⟩
  have e1:lk (dat ys) y.1=y.2.2:=gE hny hyd
  rw[hd] at hyd;obtain⟨x,hx,ex⟩:=mem_map.mp hyd;have hm:=h x hx;rw[ex] at hm;have e2:lk (dat xs) y.1=y.2.2:=gE hnx hm
  exact decide_eq_true (show lk (dat ys) y.1=lk (dat xs) y.1 by rw[e1,e2])
noncomputable def A8:Sp:=fun vs H Q _=>∃(t na va r:Addr) (mS:List (Str × Str)) (mI:List (Int × Int)) (xs:List (Str × Addr × List Int)),vs=[.ref t,.ref r]∧bH H t na va mS mI∧(r≠na∧r≠va)∧wC H r xs ∧
 ∀(b:Bool) H',ao H H'→(b=true↔iq mS mI (dat xs))→Q (.bl b) H'
theorem jB (T:Txt w K mg base) (L:FnL K mg "leads_rooms_on" cx ["turning","rooms"]) (FF:Fn P w K mg base "turned_rooms" 3 ["turning","rooms"] (Dk)):Fn P w K mg base "leads_rooms_on" 4 ["turning","rooms"] (A8):=by
 ctx_has z jR <;> obtain⟨t,na,va,r,mS,mI,xs,rfl,T0,nr,hR,k⟩:=h
 ·rfl
 refine⟨_,(ai (aA (vd (aG (pR rfl) T.b_all (aa (lM (bn (N:=["name","rooms"]) (nt:=1) (js:=[1]) (aI ["turning","rooms"] (am cx).names) (yK (ak ap (pvM 0) ae)) (aB 0) aQ aV (BP (AH hu (pvM 0) (pvM 1))))) ac)) (uL (jH (zX (rN hr)) (ah FF (aa (pvM 0) (aa (pvM 1) ac))) (pvM 1)))))),?_⟩
 have e1:=T0.ht;have e2:=T0.hn;have e3:=hR.hr;ctx_has v mD e1 e2 e3 Bj
 refine⟨na,_,e2,fun o D hD=>?_⟩
 have nD:D≠na:=fun z=>by rw[z,ab] at hD;cases hD
 have hD0:H D=none:=by rw[ag nD] at hD;exact hD
 refine cP me (fun j ys H'=>ys=((mS.take j).map fun x=>(bu (kvR xs) (Sum.inr x.1)).isSome).map V.bl∧H' D=some (.lst ys)∧H' na=some (.frz o (.dK (kvS mS)))∧∀b u,b≠na→H b=some u→H' b=some u)
  ⟨rfl,ab,by rw[ag nD.symm];exact ab,fun b u hb e=>by rw[ag (aj e hD0),ag hb];exact e⟩ (fun j ys H' zq48=>by obtain⟨_,_,h,_⟩:=zq48;exact(h)) ?_ ?_
 ·rintro j x ys H2 hj hx ⟨rfl,h2D,h2n,k2⟩
  obtain⟨y,hy,rfl⟩ : ∃y,mS[j]? = some y∧V.str y.1=x:=by
   unfold kvS at hx;rw[List.getElem?_map,List.getElem?_map] at hx;cases e:mS[j]? with
   | none=>rw[e] at hx;cases hx
   | some nm=>rw[e] at hx;exact⟨nm,rfl,Option.some.inj hx⟩
  have h2r:=k2 r _ nr.1 e3;have hjl:j < mS.length:=(List.getElem?_eq_some_iff.mp hy).1
  have hll:=T0.ls;ctx_has v h2r
  refine⟨h2D,by simp;exact ax (by omega),by rw[take_add_one,hy];simp,ab,by rw[ag nD.symm];exact h2n,fun b u hb e=>by rw[ag (aj e hD0)];exact k2 b u hb e⟩
 ·rintro ys H2 ⟨rfl,h2D,h2n,k2⟩
  have hl2:((kvS mS).map fun x=>kV x.1).length=mS.length:=by unfold kvS;rw[length_map,length_map]
  rw[hl2,take_length] at h2D;refine⟨⟨o,h2n⟩,D,rfl,_,by rw[ag nD];exact h2D,?_⟩
  have s2:ao H (upd H2 na (.dK (kvS mS))):=fun b u e=>by
   by_cases hb:b=na
   ·subst hb;rw[ab,← e,e2]
   ·rw[ag hb];exact k2 b u hb e
  generalize upd H2 na (.dK (kvS mS))=G at s2 ⊢;refine cW (fun h=>?_) (fun h=>?_)
  ·have hin:=xV.mp h
   refine⟨t,na,va,r,mS,mI,xs,rfl,T0.same s2,nr,s2 _ _ e3,fun x hx=>s2 _ _ (hR.rt x hx),hR.nd,hR.ln,hR.rl,fun p ys H3 hp s3 h3 hy hd=>?_⟩
   have s03:=s2.trans s3;refine⟨p,rfl,_,h3,_,s03 _ _ e3,.inr ⟨?_,lkK (dat ys),lkK (dat xs),CI T0.ps hd hR.nd (fun x hx=>s03 _ _ (hR.rt x hx)) hy hin,?_⟩⟩
   ·have:=congrArg List.length hd
    unfold dat at this;unfold kvR;simpa using this
   ·exact k _ H3 s03 (EU T0.ps hd hR.nd hin)
  ·exact k false G s2 ⟨fun z=>(by cases z),fun z=>absurd (xV.mpr z.1) h⟩
structure iJ (H:Hp) (p c t:Addr) (cs:List (Addr × Str × Addr × List Int)) (us:List V) (Ws:List Wx) (ws:List Str) (ns:List Int):Prop where
 hp:H p=some (.tup [.ref c,.ref t])
 hc:H c=some (.tup (cs.map fun x=>V.ref x.1))
 ca : ∀x∈cs,H x.1=some (.tup [.str x.2.1,.ref x.2.2.1])∧H x.2.2.1=some (.tup (x.2.2.2.map V.int))
 nd:(cs.map (·.2.1)).Nodup
 ln:cs.length≤40
 rl : ∀x∈cs,x.2.2.2.length≤60
 wa:oR H t us Ws ws ns
theorem iJ.keep {H H':Hp} {p c t:Addr} {cs:List (Addr × Str × Addr × List Int)} {us:List V} {Ws:List Wx} {ws:List Str} {ns:List Int} (h:iJ H p c t cs us Ws ws ns) (k : ∀a xs,H a=some (.tup xs)→H' a=some (.tup xs)):iJ H' p c t cs us Ws ws ns :=
 ⟨k _ _ h.hp,k _ _ h.hc,fun x hx=>⟨k _ _ (h.ca x hx).1,k _ _ (h.ca x hx).2⟩,h.nd,h.ln,h.rl,⟨k _ _ h.wa.ht,h.wa.wa.keep k,h.wa.ok,h.wa.nm,h.wa.ln⟩⟩
theorem iJ.same {p:Addr} {us:List V} {Ws:List Wx} (h:iJ H p c t cs us Ws ws ns) (s:ao H H'):iJ H' p c t cs us Ws ws ns:=h.keep fun a xs e=>s _ _ e
noncomputable abbrev xsH (cs:List (Addr × Str × Addr × List Int)):List (Str × Addr × List Int):=cs.map (·.2)
noncomputable def Ec:Sp:=fun vs H Q _=>∃(p c t:Addr) (cs:List (Addr × Str × Addr × List Int)) (us:List V) (Ws:List Wx) (ws:List Str) (ns:List Int),vs=[.ref p]∧iJ H p c t cs us Ws ws ns∧∀r H',H r=none→ao H H'→wC H' r (xsH cs)→Q (.ref r) H'
theorem wS (hn:(cs.map (·.2.1)).Nodup) {i:Nat} {x:Addr × Str × Addr × List Int} (hx:cs[i]? = some x):br (kvR (xsH (cs.take i))) (Sum.inr x.2.1) (.ref x.2.2.1)=kvR (xsH (cs.take (i+1))):=by
 have et:cs.take (i+1)=cs.take i++[x]:=by rw[take_add_one,hx];rfl
 have hno:(Sum.inr x.2.1:Key)∉(kvR (xsH (cs.take i))).map (·.1):=fun z=>by
  rw[jJ,cX,map_map] at z;have hl:((cs.take i++[x]).map (·.2.1)).Nodup:=by
   rw[← et,map_take];exact hn.sublist (take_sublist _ _)
  rw[map_append,nodup_append] at hl;exact hl.2.2 _ z _ (by simp) rfl
 rw[dE _ (gi hno),et];unfold kvR xsH;rw[map_append,map_append];rfl
noncomputable def lv (mS:List (Str × Str)) (mI:List (Int × Int)) (ds:List (Str × List Int)) (Ws:List Wx):Prop:=iq mS mI ds∧Led mS mI Ws (Ws.map dP)
noncomputable def CO:Sp:=fun vs H Q _=>∃(p c t tn na va:Addr) (mS:List (Str × Str)) (mI:List (Int × Int)) (cs:List (Addr × Str × Addr × List Int)) (us:List V) (Ws:List Wx) (ws ws':List Str) (ns:List Int),vs=[.ref p,.ref tn]∧bM H∧iJ H p c t cs us Ws ws ns∧bH H tn na va mS mI∧TOk mS mI Ws ws' ns ∧
 ∀(b:Bool) H',ao H H'→(b=true↔lv mS mI (dat (xsH cs)) Ws)→Q (.bl b) H'
theorem mo (T:Txt w K mg base) (L:FnL K mg "first_rooms" fk ["hall"]):Fn P w K mg base "first_rooms" 1 ["hall"] (Ec):=by
 ctx_has z mE <;> obtain⟨p,c,t,cs,us,Ws,ws,ns,rfl,hH,k⟩:=h
 ·rfl
 refine⟨_,(af (aC 1 cj)
  (af (bE (cU K (ak ap (pvM 0) ae)) (aB 2) (ai (gG hu (pvM 1) (ak ap (pvM 2) ae) (ak ap (pvM 2) ae) rfl)))
  (ai (aA (pvM 1))))),?_⟩
 have h1:=hH.hp;have h2:=hH.hc;have hln:=hH.ln;ctx_has v
 intro q hq;have s0:=ao.upd0 (o:=.dK []) hq;have h1':=s0 _ _ h1;ctx_has v h1'
 refine⟨_,s0 _ _ h2,?_⟩
 refine bW aW (fun i σ H'=>∃v2,σ=[some (.ref p),some (.ref q),v2]∧H' q=some (.dK (kvR (xsH (cs.take i))))∧ao H H') ⟨_,rfl,ab,s0⟩ (fun i σ H' zq49=>by obtain⟨_,_,_,s⟩:=zq49;exact(.of (s _ _ h2))) ?_ ?_
 ·rintro i x σ H2 hi hx ⟨v2,rfl,h2q,s2⟩
  obtain⟨y,hy,rfl⟩ : ∃y,cs[i]? = some y∧V.ref y.1=x:=by
   rw[List.getElem?_map] at hx;cases e:cs[i]? with
   | none=>rw[e] at hx;cases hx
   | some nm=>rw[e] at hx;exact⟨nm,rfl,Option.some.inj hx⟩
  have h3:=s2 _ _ (hH.ca y (mem_of_getElem? hy)).1;have hil:i < cs.length:=(List.getElem?_eq_some_iff.mp hy).1
  ctx_has v h3 h2q
  exact⟨by unfold kvR xsH;simp;exact ax (by omega),by rw[ab,wS hH.nd hy],s2.putN hq⟩
 ·rintro σ H2 ⟨v2,rfl,h2q,s2⟩
  rw[length_map,take_length] at h2q;ctx_has v
  exact k q H2 hq s2 ⟨h2q,fun x hx=>by
   obtain⟨y,hy,rfl⟩:=mem_map.mp hx;exact s2 _ _ (hH.ca y hy).2,by rw[map_map];exact hH.nd,by rw[length_map];exact hln,fun x hx=>by
   obtain⟨y,hy,rfl⟩:=mem_map.mp hx;exact hH.rl y hy⟩
theorem tO (T:Txt w K mg base) (L:FnL K mg "leads_on" iU ["hall","turning"]) (FH:Fn P w K mg base "first_rooms" 1 ["hall"] (Ec)) (Fz:Fn P w K mg base "leads_rooms_on" 4 ["turning","rooms"] (A8)) (FL:Fn P w K mg base "plain_forms" 5 ["wishes"] (Dr P w)) (Fs : @DY P w K mg base):Fn P w K mg base "leads_on" 9 ["hall","turning"] (CO):=by
 ctx_has z um <;> obtain⟨p,c,t,tn,na,va,mS,mI,cs,us,Ws,ws,ws',ns,rfl,tb,hH,T0,hT,k⟩:=h
 ·rfl
 refine⟨_,(ai (aA (vd (ah Fz (aa (pvM 1) (aa (ah FH (aa (pvM 0) ac)) ac))) (uL (ah Fs (aa (pvM 1) (aa (ak ap (pvM 0) ae) (aa (ah FL (aa (ak ap (pvM 0) ae) ac)) ac)))))))),?_⟩
 have h1:=hH.hp;ctx_has v
 refine⟨p,c,t,cs,us,Ws,ws,ns,rfl,hH,fun r H1 hr s1 hR=>?_⟩
 have T1:=T0.same s1;refine⟨tn,na,va,r,mS,mI,xsH cs,rfl,T1,⟨(aj T0.hn hr).symm,(aj T0.hv hr).symm⟩,hR,fun b H2 s2 hb=>?_⟩
 have s02:=s1.trans s2;have h1':=s02 _ _ h1;cases b with
 | false =>
  ctx_has v
  exact k false H2 s02 ⟨fun z=>(by cases z),fun z=>absurd (hb.mpr z.1) (by decide)⟩
 | true =>
  have hro:=hb.mp rfl;ctx_has v h1'
  refine⟨t,us,Ws,ws,ns,rfl,tb.same s02,hH.wa.same s02,fun rf o kvs H3 s3 h3 hk hc hl=>?_⟩
  have s03:=s02.trans s3;exact⟨tn,na,va,t,rf,mS,mI,us,Ws,ws,ws',ns,o,kvs,Ws.map dP,rfl,tb.same s03,T0.same s03,hH.wa.same s03,hT,h3,hk,hc,fun b H4 s4 hb2=>k b H4 (s03.trans s4) ⟨fun z=>⟨hro,hb2.mp z⟩,fun z=>hb2.mpr z.2⟩⟩
theorem ig {H3:Hp} (e:H2 a=some (.dK kvs)) (k : ∀b u,b≠a→H2 b=some u→H3 b=some u):ao H2 (upd H3 a (.dK kvs)):=fun b u h=>by
 by_cases hb:b=a
 ·subst hb;rw[ab,← h,e]
 ·rw[ag hb];exact k b u hb h
theorem yQ {w:Addr} {W:Wx} {Q:VK} {E:XK} (T0:bH H t na va mS mI) (hW:WX H w W) (hk:BR W) (k : ∀v H',ao H H'→WO H' v (bB mS mI W)→Q v H'):ji [.ref t,.ref w] H Q E∨gR [.ref t,.ref w] H Q E:=by
 cases W with
 | pl W=>exact .inl ⟨t,w,na,va,mS,mI,W,rfl,T0,hW,hk,fun v H' s h=>k v H' s h.up⟩
 | sa c vs W=>exact .inr ⟨t,w,na,va,mS,mI,c,vs,W,rfl,T0,hW,hk.1,hk.2,k⟩
noncomputable def kb (H:Hp) (ps:List (Addr × Wx)):Prop:=∀x∈ps,WX H x.1 x.2∧jX (bO x.2)
theorem kb.keep {ps:List (Addr × Wx)} (h:kb H ps) (k : ∀a xs,H a=some (.tup xs)→H' a=some (.tup xs)):kb H' ps:=fun x hx=>⟨bS (h x hx).1 k,(h x hx).2⟩
noncomputable abbrev pD (ps:List (Addr × Wx)):List PyData:=ps.map fun x=>bO x.2
theorem kb.reps {K:PySem.W.Frag} {H:Hp} : ∀{ps:List (Addr × Wx)},kb H ps→cp K H (ps.map fun x=>V.ref x.1) (pD ps)∧PyData.canLayAll0 (pD ps)=true
 | [],_=>⟨.nil,rfl⟩
 | x :: ps,h=>by
  obtain⟨a,b⟩:=kb.reps (K:=K) (ps:=ps) fun y hy=>h y (mem_cons_of_mem _ hy)
  obtain⟨c,d⟩:=h x mem_cons_self;refine⟨.cons (kC c) a,?_⟩
  show PyData.canLayAll0 (bO x.2 :: pD ps)=true
  rw[PyData.canLayAll0,eI _ d.1,b];rfl
theorem cE {p:Addr} {ys:List V} (h:H p=some (.lst ys)) : ∀a xs,H a=some (.tup xs)→upd H p o a=some (.tup xs):=fun a xs e=>by
 rw[ag (bq e h (by intro z;cases z))];exact e
theorem Bd {ps:List (Addr × Wx)} (h:kb H ps) {d:PyData} (hd:jX d):inD d (pD ps)=true↔0 < cn (pD ps) d:=by
 unfold inD cn;rw[any_eq_true,List.count_pos_iff]
 constructor
 ·rintro⟨e,he,q⟩
  obtain⟨x,hx,rfl⟩:=mem_map.mp he;rw[(iz _ _ (h x hx).2.1 hd.1).mp q] at he;exact he
 ·intro he
  obtain⟨x,hx,e⟩:=mem_map.mp he;exact⟨d,he,(iz _ _ hd.1 hd.1).mpr rfl⟩
theorem uf {H:Hp} : ∀{ps:List (Addr × Wx)} (_:kb H ps) {d:PyData} (_:jX d),0 < cn (pD ps) d→∃j,j < (pD ps).length∧(∀e,(pD ps)[j]? = some e→PyData.eqv e d=true)∧(∀m e,m < j→(pD ps)[m]? = some e→PyData.eqv e d=false)∧∀x,cn (pD (ps.eraseIdx j)) x+(if x=d then 1 else 0)=cn (pD ps) x
 | [],_,d,_,h=>by rw[show pD []=[] from rfl,oy] at h;omega
 | p :: ps,hp,d,hd,h=>by
  have hk:=(hp p mem_cons_self).2
  by_cases e:d=bO p.2
  ·refine⟨0,by simp,fun x hx=>?_,fun m _ hm=>absurd hm (Nat.not_lt_zero _),fun x=>?_⟩
   ·simp only[pD,map_cons,List.getElem?_cons_zero,Option.some.injEq] at hx
    rw[← hx];exact(iz _ _ hk.1 hd.1).mpr e.symm
   ·show cn (pD ps) x+_=cn (bO p.2 :: pD ps) x
    rw[gb,e]
  ·have h':0 < cn (pD ps) d:=by
    rw[show pD (p :: ps)=bO p.2 :: pD ps from rfl,gb,if_neg e] at h
    omega
   obtain⟨j,j1,j2,j3,j4⟩:=uf (ps:=ps) (fun y hy=>hp y (mem_cons_of_mem _ hy)) hd h'
   refine⟨j+1,by simpa using j1,fun x hx=>j2 x (by simpa using hx),fun m x hm hx=>?_,fun x=>?_⟩
   ·cases m with
    | zero =>
     simp only[pD,map_cons,List.getElem?_cons_zero,Option.some.injEq] at hx;rw[← hx];cases q:PyData.eqv (bO p.2) d with
     | false=>rfl
     | true=>exact absurd ((iz _ _ hk.1 hd.1).mp q).symm e
    | succ m=>exact j3 m x (by omega) (by simpa using hx)
   ·show cn (bO p.2 :: pD (ps.eraseIdx j)) x+_=cn (bO p.2 :: pD ps) x
    rw[gb,gb];have:=j4 x
    omega
abbrev DN:=Fn P w K mg base "_law_leads_on" 9 ["_law_hall","_law_turning"] (CO)
theorem ko (T:Txt w K mg base) (L:FnL K mg "_law_leads_on" cJ ["_law_hall","_law_turning"]) (Fd : @xZ P w K mg base) (Fg : @Au P w K mg base) (Fh : @BY P w K mg base) (Fi : @A2 P w K mg base) (Fj : @Cj P w K mg base) : @DN P w K mg base:=by
 ctx_has z kn <;> obtain⟨p,c,t,tn,na,va,mS,mI,cs,us,Ws,ws,ws',ns,rfl,tb,hH,T0,hT,k⟩:=h
 ·rfl
 refine⟨_,(af (aC 2 cj)
  (bP (bE (cU K (ak ap (pvM 0) ae)) (du (n:=2) rfl (aY (aB 3) (aY (aB 4) cY))) (ai (gG hu (pvM 2) (pvM 3) (pvM 4) rfl)))
  (bP (rD (bE (yK (ak ap (pvM 1) ae)) (aB 3) (ai (aK (gT (mt hu (pvM 3) (pvM 2))) (ai (aA fL)) az))))
  (bP (rD (bE (yK (pvM 2)) (aB 3) (ai (aK (ay (qW (pQ hr)) (aF aM T.b_tuple (aa (aG dU T.b_sorted (aa (ah Fd (aa (ak ap (pvM 1) ae) (aa (qJ hu (pvM 2) (pvM 3)) ac))) ac)) ac)) (qJ hu (pvM 2) (dF hu (ak ap (pvM 1) ae) (pvM 3) (pvM 3) ⟨rfl,rfl,rfl,rfl⟩))) (ai (aA fL)) az))))
  (af (cg 5 (N:=["_law_wish_here"]) (nt:=1) (js:=[]) (aI ["_law_hall","_law_turning","_law_rooms_here","_law_name","_law_room","_law_left","_law_wish_here","_law_other"] (am cJ).names) (cU K (ak ap (pvM 0) ae)) (aB 0) aQ aV (bX Fg Fh (aa (pvM 0) ac)))
  (af (bE (cU K (ak ap (pvM 0) ae)) (aB 6) (af (aC 7 (bX Fi Fj (aa (pvM 1) (aa (pvM 6) ac))))
  (af (aK (PW.pt (pO (gT (lR (pvM 7))) (mL (ay (jb (rN hr)) (bX Fg Fh (aa (pvM 7) ac)) (pvM 5))))) (ai (aA fL)) az)
  (ai (bU (eG PySem.F.slot_list_remove PySem.F.type_list_remove (xK (rN hr)) (pvM 5) (aa (bX Fg Fh (aa (pvM 7) ac)) ac)))))))
  (ai (aA fL)))))))),?_⟩
 have h1:=hH.hp;have h2:=hH.hc;have hln:=hH.ln;have hdk:(dat (xsH cs)).map (·.1)=cs.map (·.2.1):=by rw[cX,map_map];rfl
 ctx_has v kX
 intro q hq;have s0:=ao.upd0 (o:=.dK []) hq;have h1':=s0 _ _ h1;refine⟨fun σ H'=>∃v3 v4,σ=[some (.ref p),some (.ref tn),some (.ref q),v3,v4,none,none,none]∧H' q=some (.dK (kvR (xsH cs)))∧ao H H',?_,?_⟩
 ·ctx_has v h1'
  refine⟨_,s0 _ _ h2,?_⟩
  refine bW aW (fun i σ H'=>∃v3 v4,σ=[some (.ref p),some (.ref tn),some (.ref q),v3,v4,none,none,none]∧H' q=some (.dK (kvR (xsH (cs.take i))))∧ao H H') ⟨_,_,rfl,ab,s0⟩ (fun i σ H' zq50=>by obtain⟨_,_,_,_,s⟩:=zq50;exact(.of (s _ _ h2))) ?_ ?_
  ·rintro i x σ H2 hi hx ⟨v3,v4,rfl,h2q,s2⟩
   obtain⟨y,hy,rfl⟩ : ∃y,cs[i]? = some y∧V.ref y.1=x:=by
    rw[List.getElem?_map] at hx;cases e:cs[i]? with
    | none=>rw[e] at hx;cases hx
    | some nm=>rw[e] at hx;exact⟨nm,rfl,Option.some.inj hx⟩
   have h3:=s2 _ _ (hH.ca y (mem_of_getElem? hy)).1;have hil:i < cs.length:=(List.getElem?_eq_some_iff.mp hy).1
   ctx_has v h3 h2q
   exact⟨by unfold kvR xsH;simp;exact ax (by omega),by rw[ab,wS hH.nd hy],s2.putN hq⟩
  ·rintro σ H2 ⟨v3,v4,rfl,h2q,s2⟩
   rw[length_map,take_length] at h2q;exact⟨_,_,rfl,h2q,s2⟩
 rintro σ H2 ⟨v3,v4,rfl,h2q,s2⟩
 have e1:=s2 _ _ T0.ht;have e2:=s2 _ _ T0.hn;have nq:q≠na:=(aj T0.hn hq).symm
 ctx_has v kX
 refine⟨fun σ H'=>(∃v3 v4,σ=[some (.ref p),some (.ref tn),some (.ref q),v3,v4,none,none,none]∧H' q=some (.dK (kvR (xsH cs)))∧ao H H')∧∀x∈mS,x.1∈(dat (xsH cs)).map (·.1),?_,?_⟩
 ·ctx_has v vQ e1
  refine⟨na,_,e2,_,e2,fun o=>?_⟩
  refine bW me (fun i σ H'=>(∃v3,σ=[some (.ref p),some (.ref tn),some (.ref q),v3,v4,none,none,none])∧H' na=some (.frz o (.dK (kvS mS)))∧(∀x∈mS.take i,x.1∈(dat (xsH cs)).map (·.1))∧∀b u,b≠na→H2 b=some u→H' b=some u)
   ⟨⟨_,rfl⟩,ab,by simp,fun b u hb e=>by rw[ag hb];exact e⟩ (fun i σ H' zq51=>by obtain⟨_,h,_⟩:=zq51;exact(h)) ?_ ?_
  ·rintro i x σ H3 hi hx ⟨⟨v3,rfl⟩,h3n,hall,k3⟩
   obtain⟨y,hy,rfl⟩ : ∃y,mS[i]? = some y∧V.str y.1=x:=by
    unfold kvS at hx;rw[List.getElem?_map,List.getElem?_map] at hx;cases e:mS[i]? with
    | none=>rw[e] at hx;cases hx
    | some nm=>rw[e] at hx;exact⟨nm,rfl,Option.some.inj hx⟩
   have h3q:=k3 q _ nq h2q;ctx_has v h3q
   refine cW (fun h=>?_) (fun h=>?_)
   ·exact⟨⟨o,h3n⟩,k false _ (s2.trans (ig e2 k3)) ⟨fun z=>(by cases z),fun z=>absurd (cF.mpr (jJ.mpr (z.1.1 y (mem_of_getElem? hy)))) (by rw[h];decide)⟩⟩
   ·refine⟨h3n,fun x hx=>?_,k3⟩
    rw[take_add_one,hy] at hx;rcases mem_append.mp hx with z | z
    ·exact hall x z
    ·rw[show x=y by simpa using z]
     exact jJ.mp (cF.mp (by cases hv:(bu (kvR (xsH cs)) (Sum.inr y.1)).isSome with | true=>rfl | false=>exact absurd hv h))
  ·rintro σ H3 ⟨⟨v3,rfl⟩,h3n,hall,k3⟩
   have hl2:((kvS mS).map fun x=>kV x.1).length=mS.length:=by unfold kvS;rw[length_map,length_map]
   rw[hl2,take_length] at hall;have s3:=ig e2 k3;exact⟨⟨o,h3n⟩,⟨_,_,rfl,s3 _ _ h2q,s2.trans s3⟩,hall⟩
 clear s2 h2q e1 e2;rintro σ H3 ⟨⟨v3,v4,rfl,h2q,s2⟩,hin⟩
 have e1:=s2 _ _ T0.ht;have nv:q≠va:=(aj T0.hv hq).symm
 ctx_has v kX
 refine⟨fun σ H'=>(∃v3 v4,σ=[some (.ref p),some (.ref tn),some (.ref q),v3,v4,none,none,none]∧ao H H')∧iq mS mI (dat (xsH cs)),?_,?_⟩
 ·ctx_has v vQ
  refine⟨q,_,h2q,_,h2q,fun o=>?_⟩
  refine bW me (fun i σ H'=>(∃v3,σ=[some (.ref p),some (.ref tn),some (.ref q),v3,v4,none,none,none])∧H' q=some (.frz o (.dK (kvR (xsH cs))))∧(∀x∈(dat (xsH cs)).take i,eR mS mI x∈dat (xsH cs))∧∀b u,b≠q→H3 b=some u→H' b=some u)
   ⟨⟨_,rfl⟩,ab,by simp,fun b u hb e=>by rw[ag hb];exact e⟩ (fun i σ H' zq52=>by obtain⟨_,h,_⟩:=zq52;exact(h)) ?_ ?_
  ·rintro i x σ H4 hi hx ⟨⟨v3,rfl⟩,h4q,hall,k4⟩
   obtain⟨y,hy,rfl⟩ : ∃y,cs[i]? = some y∧V.str y.2.1=x:=by
    unfold kvR xsH at hx;rw[map_map,map_map,List.getElem?_map] at hx;cases e:cs[i]? with
    | none=>rw[e] at hx;cases hx
    | some nm=>rw[e] at hx;exact⟨nm,rfl,Option.some.inj hx⟩
   have h4t:=k4 tn _ (bq e1 h2q (by intro z;cases z)) e1
   ctx_has v As ft h4t
   have hym:=mem_of_getElem? hy;have hnx:((xsH cs).map (·.1)).Nodup:=by rw[map_map];exact hH.nd
   have hnd:((dat (xsH cs)).map (·.1)).Nodup:=by rw[cX];exact hnx
   have vat : ∀z∈cs,bu (kvR (xsH cs)) (Sum.inr z.2.1)=some (.ref z.2.2.1):=fun z hz=>jp (yy hnx) (mem_map.mpr ⟨z.2,mem_map.mpr ⟨z,hz,rfl⟩,rfl⟩)
   have rat : ∀z∈cs,H4 z.2.2.1=some (.tup (z.2.2.2.map V.int)):=fun z hz=>by
    have:=s2 _ _ (hH.ca z hz).2
    exact k4 _ _ (bq this h2q (by intro z;cases z)) this
   have hva:=k4 va _ nv.symm (s2 _ _ T0.hv);have hna:=k4 na _ nq.symm (s2 _ _ T0.hn);have hrl:=hH.rl y hym;refine⟨o,_,h4q,_,vat y hym,_,_,rfl,.inr ⟨va,y.2.2.1,y.2.2.2,mI,rfl,hva,rat y hym,hrl,fun pm H5 s5 h5=>⟨pm,rfl,_,h5,by rw[length_map];omega,fun q1 ms hq1 hpm hpw=>⟨_,ab,fun l hl=>?_⟩⟩⟩⟩
   have s6:ao H4 (upd (upd H5 q1 (.lst (ms.map V.int))) l (.tup (ms.map V.int))):=(s5.upd_new hq1).upd_new hl
   have g6:upd (upd H5 q1 (.lst (ms.map V.int))) l (.tup (ms.map V.int)) l=some (.tup (ms.map V.int)):=ab
   generalize upd (upd H5 q1 (.lst (ms.map V.int))) l (.tup (ms.map V.int))=G at s6 g6 ⊢;obtain⟨z,hz,ez⟩ : ∃z∈cs,z.2.1=ld mS y.2.1:=by
    have:=dX T0.ps hin (c:=y.2.1) (by rw[hdk];exact mem_map.mpr ⟨y,hym,rfl⟩)
    rw[hdk] at this;obtain⟨z,hz,e⟩:=mem_map.mp this;exact⟨z,hz,e⟩
   have hms:ms=srt (y.2.2.2.map (ld mI)):=mU hpm hpw
   have hzd:(z.2.1,z.2.2.2)∈dat (xsH cs):=mem_map.mpr ⟨z.2,mem_map.mpr ⟨z,hz,rfl⟩,rfl⟩
   have hyd:(dat (xsH cs))[i]? = some (y.2.1,y.2.2.2):=by unfold dat xsH;rw[map_map,List.getElem?_map,hy];rfl
   refine⟨_,s6 _ _ h4t,_,rfl,na,rfl,.inl ⟨_,.inl (s6 _ _ hna)⟩,_,.inl ⟨_,Sum.inr y.2.1,.inl (s6 _ _ hna),rfl,rfl⟩,Sum.inr (ld mS y.2.1),by rw[ze];rfl,o,_,s6 _ _ h4q,.ref z.2.2.1,by rw[← ez];exact vat z hz,eO ms,eO z.2.2.2,.tup (.of g6) (cp.ints _),.tup (.of (s6 _ _ (rat z hz))) (cp.ints _),eS _,eS _,le_trans (iu _) (by decide),_,rfl,?_⟩
   rw[qi]
   by_cases hq2:ms=z.2.2.2
   ·rw[decide_eq_true hq2,if_neg (by decide)]
    refine⟨s6 _ _ h4q,fun x hx=>?_,fun b u hb e=>s6 _ _ (k4 b u hb e)⟩
    rw[take_add_one,hyd] at hx;rcases mem_append.mp hx with w | w
    ·exact hall x w
    ·rw[show x=(y.2.1,y.2.2.2) by simpa using w]
     show(ld mS y.2.1,srt (y.2.2.2.map (ld mI)))∈_
     rw[← hms,hq2,← ez];exact hzd
   ·rw[decide_eq_false hq2,if_pos (by decide)]
    refine⟨⟨o,s6 _ _ h4q⟩,k false _ (s2.trans (ig h2q fun b u hb e=>s6 _ _ (k4 b u hb e))) ⟨fun z=>(by cases z),fun w=>absurd ?_ hq2⟩⟩
    have hm:=w.1.2 _ (mem_of_getElem? hyd);have e1:lk (dat (xsH cs)) (ld mS y.2.1)=srt (y.2.2.2.map (ld mI)):=gE hnd hm
    have e2:lk (dat (xsH cs)) z.2.1=z.2.2.2:=gE hnd hzd
    rw[hms,← e1,← ez,e2]
  ·rintro σ H4 ⟨⟨v3,rfl⟩,h4q,hall,k4⟩
   have hl2:((kvR (xsH cs)).map fun x=>kV x.1).length=(dat (xsH cs)).length:=by unfold kvR dat;simp
   rw[hl2,take_length] at hall;exact⟨⟨o,h4q⟩,⟨_,_,rfl,s2.trans (ig h2q k4)⟩,hin,hall⟩
 clear s2 h2q e1;rintro σ H4 ⟨⟨v3,v4,rfl,s4⟩,hro⟩
 have e1:=s4 _ _ h1;ctx_has v e1
 have W4:=hH.wa.same s4;have hul:=hH.wa.len;have hwl:=hH.wa.ln;refine⟨us,W4.ht,fun D hD=>?_⟩
 have hD0:=s4.free hD;refine cP aW (fun j ys H'=>∃ps:List (Addr × Wx),ys=ps.map (fun x=>V.ref x.1)∧ps.map (·.2)=(Ws.take j).map cL∧kb H' ps∧H' D=some (.lst ys)∧ao H4 H') ⟨[],rfl,by simp,(fun x hx=>by cases hx),ab,ao.upd0 hD⟩ (fun j ys H' zq53=>by obtain⟨_,_,_,_,_,s⟩:=zq53;exact(.of (s _ _ W4.ht))) ?_ ?_
 ·rintro j x ys H5 hj hx ⟨ps,rfl,hps,hpw,h5,s5⟩
  obtain⟨wv,W,rfl,hWi,hWX,hm⟩:=(W4.same s5).at hx;ctx_has v
  refine iQ ((tb.same s4).same s5) hWX (hH.wa.ok W hm) fun r H6 s6 h6=>?_
  have h6D:=s6 _ _ h5;have hpl:ps.length=j:=by
   have:=congrArg List.length hps
   rw[length_map,length_map,length_take] at this;omega
  refine⟨h6D,by rw[length_map];exact ax (by omega),ps++[(r,cL W)],by simp,by rw[map_append,hps,take_add_one,hWi,map_append];rfl,fun x hx=>?_,ab,(s5.trans s6).putN hD⟩
  rcases mem_append.mp hx with z | z
  ·exact((hpw.keep fun a xs e=>s6 _ _ e).keep (cE h6D)) x z
  ·rw[mem_singleton.mp z]
   exact⟨bS h6 (cE h6D),sW hH.wa.nm (hH.wa.ok W hm)⟩
 rintro ys H5 ⟨ps0,rfl,hps0,hpw0,h5D,s5⟩
 rw[hul,take_length] at hps0;have e15:=s5 _ _ e1;have s05:=s4.trans s5;have hc0:pD ps0=Ws.map dP:=by
  show ps0.map (fun x=>bO x.2)=_
  have:=congrArg (List.map bO) hps0
  rw[map_map,map_map] at this;exact this
 have hl0:ps0.length=Ws.length:=by have:=congrArg List.length hps0;simpa using this
 ctx_has v e15
 have W5:=W4.same s5;refine⟨us,W5.ht,?_⟩
 refine bW aW (fun i σ H'=>∃v6 v7 ps Vs,σ=[some (.ref p),some (.ref tn),some (.ref q),v3,v4,some (.ref D),v6,v7]∧H' D=some (.lst (ps.map fun x:Addr × Wx=>V.ref x.1))∧kb H' ps∧(Ws.take i).map (bB mS mI)=Vs.map some∧(∀d,cn (Vs.map dP) d+cn (pD ps) d=cn (Ws.map dP) d)∧ps.length≤40∧ao H H')
  ⟨_,_,ps0,[],rfl,h5D,hpw0,by simp,(fun d=>by rw[hc0,map_nil,oy,Nat.zero_add]),by omega,s05⟩ (fun i σ H' zq54=>by obtain⟨_,_,_,_,_,_,_,_,_,_,s⟩:=zq54;exact(.of (s _ _ hH.wa.ht))) ?_ ?_
 ·rintro i x σ H6 hi hx ⟨v6,v7,ps,Vs,rfl,h6D,hpw,hV,hcn,hpl,s6⟩
  obtain⟨wv,W,rfl,hWi,hWX,hm⟩:=(hH.wa.same s6).at hx;have eT:(Ws.take (i+1)).map (bB mS mI)=Vs.map some++[bB mS mI W]:=by rw[take_add_one,hWi,map_append,hV];rfl
  ctx_has v
  refine yQ (T0.same s6) hWX (rH (hH.wa.ok W hm)) fun v H7 s7 hv=>?_
  have s07:=s6.trans s7;have h7D:=s7 _ _ h6D;cases ht:bB mS mI W with
  | none =>
   rw[ht] at hv;cases (show v = .non from hv)
   ctx_has v
   exact k false H7 s07 ⟨fun z=>(by cases z),fun z=>absurd ht (sO z.2 hWi)⟩
  | some Vt =>
   rw[ht] at hv eT;obtain⟨wt,rfl,hVX⟩:=hv;have hok:=hT.ok W hm Vt ht;have hkd:=sW hT.nm hok;have eT2:(Ws.take (i+1)).map (bB mS mI)=(Vs++[Vt]).map some:=by rw[eT,map_append];rfl
   have ec:((Vs++[Vt]).map dP)=Vs.map dP++[dP Vt]:=by rw[map_append];rfl
   ctx_has v
   refine iQ (tb.same s07) hVX hok fun r H8 s8 h8=>?_
   have hp8:=(hpw.keep fun a xs e=>s7 _ _ e).keep fun a xs e=>s8 _ _ e
   obtain⟨rp,ly⟩:=hp8.reps (K:=K);have h8D:=s8 _ _ h7D;have s08:=s07.trans s8;have hld:(dP Vt).canLay0=true:=eI _ hkd.1
   refine⟨dP Vt,pD ps,kC h8,.lst (.of h8D) rp,hld,ly,le_trans hkd.2 (by decide),_,rfl,?_⟩
   rw[if_pos rfl];cases hi:inD (dP Vt) (pD ps) with
   | false =>
    rw[if_pos (by decide)]
    refine k false H8 s08 ⟨fun z=>(by cases z),fun z=>?_⟩
    have h1:=wA z.2 eT2 (dP Vt);rw[ec,jn,if_pos rfl] at h1;have h2:=hcn (dP Vt);have h3 : ¬ 0 < cn (pD ps) (dP Vt):=fun q=>by rw[(Bd hp8 hkd).mpr q] at hi;cases hi
    omega
   | true =>
    rw[if_neg (by decide)]
    refine⟨⟨_,h8D⟩,iQ (tb.same s08) (bS hVX fun a xs e=>s8 _ _ e) hok fun r2 H9 s9 h9=>?_⟩
    have hp9:=hp8.keep fun a xs e=>s9 _ _ e
    obtain⟨rp9,ly9⟩:=hp9.reps (K:=K);have h9D:=s9 _ _ h8D;obtain⟨j,j1,j2,j3,j4⟩:=uf hp9 hkd ((Bd hp8 hkd).mp hi);refine⟨r2,rfl,_,h9D,pD ps,rp9,ly9,dP Vt,kC h9,hld,le_trans hkd.2 (by decide),j,j1,j2,j3,ps.eraseIdx j,by rw[ab,hJ],?_,Vs++[Vt],eT2,fun d=>?_,le_trans (List.length_eraseIdx_le _ _) hpl,(s08.trans s9).putN hD0⟩
    ·exact fun x hx=>(hp9.keep (cE h9D)) x (List.mem_of_mem_eraseIdx hx)
    ·rw[ec,jn]
     have h1:=hcn d;have h2:=j4 d;omega
 ·rintro σ H6 ⟨v6,v7,ps,Vs,rfl,h6D,hpw,hV,hcn,hpl,s6⟩
  rw[hul,take_length] at hV;ctx_has v
  exact k true H6 s6 ⟨fun _=>⟨hro,Vs,hV,fun d=>by have:=hcn d;omega⟩,fun _=>rfl⟩
theorem Ba (m:List (Key × Key)) (k:Key):(bu (kvK m) k).getD (kV k)=kV (ld m k):=by
 unfold ld
 induction m with
 | nil=>rfl
 | cons x m ih =>
  by_cases h:x.1=k
  ·rw[show kvK (x :: m)=(x.1,kV x.2) :: kvK m from rfl,aZ h,find?_cons]
   simp[h]
  ·rw[show kvK (x :: m)=(x.1,kV x.2) :: kvK m from rfl,aP h,find?_cons]
   simp only[h,decide_false];exact ih
noncomputable def zR:Sp:=fun vs H Q _=>∃(a:Addr) (m:List (Key × Key)) (k0:Key),vs=[.ref a,kV k0]∧H a=some (.dK (kvK m))∧PM m∧m.length≤40 ∧
 ∀(p:Addr) (fs:List Key) (H':Hp),H p=none→ao H H'→H' p=some (.lst (fs.map kV))→k0∈fs→fs.Nodup→(∀x∈fs,x=k0∨x∈m.map (·.1))→fs.length≤41→Q (.ref p) H'
theorem gP {α:Type} [DecidableEq α] : ∀{xs ys:List α},xs.Nodup→(∀x∈xs,x∈ys)→xs.length≤ys.length
 | [],_,_,_=>zero_le _
 | x :: xs,ys,hn,h=>by
  rw[nodup_cons] at hn;have hx:=h x (by simp)
  have:=gP (xs:=xs) (ys:=ys.erase x) hn.2 fun y hy=>(List.mem_erase_of_ne (fun e=>hn.1 (by rw[← e];exact hy))).mpr (h y (by simp[hy]))
  rw[List.length_erase_of_mem hx] at this;have:=List.length_pos_of_mem hx
  simp
  omega
structure iR (m:List (Key × Key)) (k0:Key) (l0:List Key) (x:Key):Prop where
 nd:(l0++[x]).Nodup
 hm:k0∈l0++[x]
 fr : ∀y∈l0++[x],y=k0∨∃z∈l0,ld m z=y
 ks : ∀y∈l0++[x],y=k0∨y∈m.map (·.1)
theorem iR.next (hp:PM m) {k0 x:Key} {l0:List Key} (r:iR m k0 l0 x) (h:ld m x≠k0):iR m k0 (l0++[x]) (ld m x) where
 nd:=by
  rw[nodup_append];refine⟨r.nd,by simp,fun y hy z hz e=>?_⟩
  rw[mem_singleton.mp hz] at e;rcases r.fr y hy with q | ⟨u,hu,q⟩
  ·exact h (e.symm.trans q)
  ·have:u=x:=gn hp (q.trans e)
   have hn:=r.nd;rw[nodup_append] at hn;exact hn.2.2 u hu x (by simp) this
 hm:=mem_append_left _ r.hm
 fr:=fun y hy=>by
  rcases mem_append.mp hy with q | q
  ·rcases r.fr y q with e | ⟨u,hu,e⟩
   ·exact .inl e
   ·exact .inr ⟨u,mem_append_left _ hu,e⟩
  ·exact .inr ⟨x,by simp,(mem_singleton.mp q).symm⟩
 ks := fun y hy=>by
  rcases mem_append.mp hy with q | q
  ·exact r.ks y q
  ·rw[mem_singleton.mp q]
   by_cases hx:x∈m.map (·.1)
   ·exact .inr (pV hp hx)
   ·rw[eF hx] at h ⊢
    exact r.ks x (by simp)
theorem iR.len {k0 x:Key} (r:iR m k0 l0 x):(l0++[x]).length≤m.length+1:=by
 have:=gP (ys:=k0 :: m.map (·.1)) r.nd fun y hy=>by
  rcases r.ks y hy with e | e
  ·rw[e];simp
  ·exact mem_cons_of_mem _ e
 simpa using this
theorem Az (a b:Key):rB (kV a) (kV b)=true:=by cases a <;> cases b <;> rfl
theorem Bc {a b:Key}:kV a=kV b↔a=b:=⟨fun h=>by cases a <;> cases b <;> cases h <;> rfl,fun h=>by rw[h]⟩
noncomputable def qy:Sp:=fun vs H Q _=>∃a b:Bool,vs=[.bl a,.bl b]∧Q (.bl (decide (a=b))) H
theorem oW (T:Txt w K mg base) (L:FnL K mg "_law_truth" gm ["_law_found","_law_due"]):Fn P w K mg base "_law_truth" 1 ["_law_found","_law_due"] (qy):=by
 ctx_has z oD <;> obtain⟨a,b,rfl,k⟩:=h
 ·rfl
 refine⟨_,(ai (aA (vd (aG yF T.b_isinstance (aa (pvM 0) (aa (Dv (T := "bool") rfl T.b_bool (by decide+kernel)) ac))) (uL (jH aR (pvM 0) (pvM 1)))))),?_⟩
 ctx_has v
 exact k
abbrev En:=Fn P w K mg base "_law_round" 1 ["_law_leads_here","_law_thing"] (zR)
theorem oG (T:Txt w K mg base) (L:FnL K mg "_law_round" fX ["_law_leads_here","_law_thing"]) : @En P w K mg base:=by
 ctx_has z oV <;> obtain⟨a,m,k0,rfl,ha,hp,hl,k⟩:=h
 ·rfl
 refine⟨_,(af (aC 2 (bA (aa (pvM 1) ac)))
  (af (fO PassesOwn.never (ay yd (dF hu (pvM 0) (ak fI (pvM 2) (iK fB ae)) (ak fI (pvM 2) (iK fB ae)) ⟨rfl,rfl,rfl,rfl⟩) (pvM 1)) (ai (bU (eG PySem.F.slot_list_append PySem.F.type_list_append bN (pvM 2) (aa (dF hu (pvM 0) (ak fI (pvM 2) (iK fB ae)) (ak fI (pvM 2) (iK fB ae)) ⟨rfl,rfl,rfl,rfl⟩) ac)))))
  (ai (aA (pvM 2))))),?_⟩
 ctx_has v
 refine⟨by decide,fun p hp0=>?_⟩
 have s0:=ao.upd0 (o:=.lst [kV k0]) hp0;refine fQ (fun μ σ H'=>∃l0 x,σ=[some (.ref a),some (kV k0),some (.ref p)]∧H' p=some (.lst ((l0++[x]).map kV))∧iR m k0 l0 x∧ao H H'∧μ=m.length+1 - (l0++[x]).length)
  (fun σ H'=>∃l0 x,σ=[some (.ref a),some (kV k0),some (.ref p)]∧H' p=some (.lst ((l0++[x]).map kV))∧iR m k0 l0 x∧ao H H') ?_ ?_ ?_
 ·exact⟨_,[],k0,rfl,ab,⟨by simp,by simp,fun y hy=>.inl (by simpa using hy),fun y hy=>.inl (by simpa using hy)⟩,s0,rfl⟩
 ·rintro R hR μ σ H2 ⟨l0,x,rfl,h2,hr2,s2,rfl⟩
  have h2a:=s2 _ _ ha;have hla:atI ((l0++[x]).map kV) (-1)=some (kV x):=by rw[map_append];exact lX _ _
  ctx_has v ft h2
  refine⟨.inl ⟨_,.inl h2a⟩,_,hla,_,hla,_,.inl ⟨_,x,.inl h2a,rfl,rfl⟩,?_⟩
  rw[Ba];refine⟨Az _ _,?_⟩
  by_cases e:ld m x=k0
  ·rw[if_neg (by rw[decide_eq_true (Bc.mpr e)];decide)]
   exact hR _ _ ⟨l0,x,rfl,h2,hr2,s2⟩
  ·rw[if_pos (decide_eq_false (fun z=>e (Bc.mp z)))]
   have hn:=hr2.next hp e;have hl1:=hn.len;have hl2:(l0++[x]++[ld m x]).length=(l0++[x]).length+1:=by simp
   refine⟨fun σ' H'=>σ'=[some (.ref a),some (kV k0),some (.ref p)]∧H' p=some (.lst ((l0++[x]++[ld m x]).map kV))∧ao H H',?_,.inl ⟨_,.inl h2a⟩,_,hla,_,hla,_,.inl ⟨_,x,.inl h2a,rfl,rfl⟩,by rw[length_map];exact ax (by omega),?_⟩
   ·rintro σ' H' ⟨rfl,h3,s3⟩
    exact⟨_,by omega,rfl,l0++[x],ld m x,h3,hn,s3,rfl⟩
   ·rw[Ba]
    exact⟨rfl,by rw[ab,map_append (l₁:=l0++[x])];rfl,s2.putN hp0⟩
 ·rintro σ H2 ⟨l0,x,rfl,h2,hr2,s2⟩
  ctx_has v
  exact k p _ H2 hp0 s2 h2 hr2.hm hr2.nd hr2.ks (by have:=hr2.len;omega)
noncomputable def gv (ns r:List Int):Prop:=r≠[]∧r.length≤20∧r.Pairwise (· < ·)∧∀v∈r,v∈ns
noncomputable def lq (H:Hp) (kvs:List (Key × V)) (ws:List Str) (ns:List Int):Prop:=∀p∈kvs,∃c a r,p=(Sum.inr c,.ref a)∧c∈ws∧H a=some (.tup (r.map V.int))∧gv ns r
theorem lq.keep (h:lq H kvs ws ns) (k : ∀a xs,H a=some (.tup xs)→H' a=some (.tup xs)):lq H' kvs ws ns:=fun p hp=>by
 obtain⟨c,a,r,e,h1,h2,h3⟩:=h p hp;exact⟨c,a,r,e,h1,k _ _ h2,h3⟩
theorem lq.put (h:lq H kvs ws ns) {c:Str} {a:Addr} {r:List Int} (hc:c∈ws) (ha:H a=some (.tup (r.map V.int))) (hr:gv ns r):lq H (br kvs (Sum.inr c) (.ref a)) ws ns:=fun p hp=>by
 unfold br at hp
 split at hp
 ·obtain⟨x,hx,rfl⟩:=mem_map.mp hp
  split
  ·rename_i e
   exact⟨c,a,r,by rw[← e],hc,ha,hr⟩
  ·exact h x hx
 ·rcases mem_append.mp hp with q | q
  ·exact h p q
  ·rw[mem_singleton.mp q]
   exact⟨c,a,r,rfl,hc,ha,hr⟩
theorem jL {k:Key} {v:V} : ∀x,x∈(br kvs k v).map (·.1)↔x=k∨x∈kvs.map (·.1):=fun x=>by
 rw[← cF,nQ,← cF]
 by_cases h:x=k
 ·rw[if_pos h];simp[h]
 ·rw[if_neg h];simp[h]
theorem Ct {k:Key} {v:V} (h:(kvs.map (·.1)).Nodup):((br kvs k v).map (·.1)).Nodup:=by
 by_cases hk:bu kvs k=none
 ·exact Aw v h hk
 ·unfold br
  rw[if_pos]
  ·rw[map_map]
   have:((fun x:Key × V=>x.1) ∘ fun kv:Key × V=>if kv.1=k then(kv.1,v) else kv)=fun x=>x.1:=by
    funext x
    show(if x.1=k then(x.1,v) else x).1=x.1
    split <;> rfl
   rw[this];exact h
  ·have hm:k∈kvs.map (·.1):=cF.mp (by cases hv:bu kvs k with | none=>exact absurd hv hk | some _=>rfl)
   obtain⟨x,hx,e⟩:=mem_map.mp hm;exact any_eq_true.mpr ⟨x,hx,decide_eq_true e⟩
theorem Cl {m:List (Str × Str)} (h:PM m):PM (upS m):=by
 refine⟨?_,?_⟩
 ·have:(upS m).map (·.1)=(m.map (·.1)).map Sum.inr:=by unfold upS;rw[map_map,map_map];rfl
  rw[this];exact pairwise_map.mpr (h.1.imp fun ne e=>ne (Sum.inr.inj e))
 ·have e1:(upS m).map (·.1)=(m.map (·.1)).map Sum.inr:=by unfold upS;rw[map_map,map_map];rfl
  have e2:(upS m).map (·.2)=(m.map (·.2)).map Sum.inr:=by unfold upS;rw[map_map,map_map];rfl
  rw[e1,e2];exact h.2.map _
theorem BZ {m:List (Int × Int)} (h:PM m):PM (upI m):=by
 refine⟨?_,?_⟩
 ·have:(upI m).map (·.1)=(m.map (·.1)).map Sum.inl:=by unfold upI;rw[map_map,map_map];rfl
  rw[this];exact pairwise_map.mpr (h.1.imp fun ne e=>ne (Sum.inl.inj e))
 ·have e1:(upI m).map (·.1)=(m.map (·.1)).map Sum.inl:=by unfold upI;rw[map_map,map_map];rfl
  have e2:(upI m).map (·.2)=(m.map (·.2)).map Sum.inl:=by unfold upI;rw[map_map,map_map];rfl
  rw[e1,e2];exact h.2.map _
theorem Ck {c:Str} (hc:c∈ws) (hm : ∀x∈mS,x.1∈ws) (h : ∀x∈fs,x=Sum.inr c∨x∈(upS mS).map (·.1)) : ∀x∈fs,∃s∈ws,x=Sum.inr s:=fun x hx=>by
 rcases h x hx with e | e
 ·exact⟨c,hc,e⟩
 ·obtain⟨y,hy,rfl⟩:=mem_map.mp e
  obtain⟨z,hz,rfl⟩:=mem_map.mp hy;exact⟨z.1,hm z hz,rfl⟩
theorem CP {v:Int} (hv:v∈ns) (hm : ∀x∈mI,x.1∈ns) (hn:fs.Nodup) (h : ∀x∈fs,x=Sum.inl v∨x∈(upI mI).map (·.1)) : ∃is:List Int,fs=is.map Sum.inl∧is.Nodup∧∀i∈is,i∈ns:=by
 induction fs with
 | nil=>exact⟨[],rfl,by simp,by simp⟩
 | cons x fs ih =>
  rw[nodup_cons] at hn;obtain⟨is,rfl,h1,h2⟩:=ih hn.2 fun y hy=>h y (by simp[hy])
  obtain⟨i,hi,rfl⟩ : ∃i∈ns,x=Sum.inl i:=by
   rcases h x (by simp) with e | e
   ·exact⟨v,hv,e⟩
   ·obtain⟨y,hy,rfl⟩:=mem_map.mp e
    obtain⟨z,hz,rfl⟩:=mem_map.mp hy;exact⟨z.1,hm z hz,rfl⟩
  refine⟨i :: is,rfl,nodup_cons.mpr ⟨fun z=>hn.1 (mem_map.mpr ⟨i,z,rfl⟩),h1⟩,fun j hj=>?_⟩
  rcases mem_cons.mp hj with rfl | hj
  ·exact hi
  ·exact h2 j hj
theorem rS {r:List Int} (h:r.Pairwise (·≤·)) (hn:r.Nodup):r.Pairwise (· < ·):=by
 induction r with
 | nil=>exact .nil
 | cons a r ih =>
  rw[List.pairwise_cons] at h ⊢;rw[nodup_cons] at hn;exact⟨fun b hb=>by
   have:=h.1 b hb
   have ne:a≠b:=fun e=>hn.1 (e ▸ hb)
   omega,ih h.2 hn.2⟩
theorem yO {r:List Int} (h:r.Pairwise (· < ·)):r.Nodup:=h.imp fun h=>by omega
theorem xO (hp:PM mI) {ns r:List Int} (hm : ∀x∈mI,x.1∈ns) (h:gv ns r):gv ns (srt (r.map (ld mI))):=by
 have pm:=nI (r.map (ld mI));refine⟨fun e=>?_,by rw[pm.length_eq,length_map];exact h.2.1,rS (vx _) (pm.nodup_iff.mpr (pairwise_map.mpr ((yO h.2.2.1).imp fun ne e=>ne (gn hp e)))),fun v hv=>?_⟩
 ·have:=pm.length_eq
  rw[e,length_map] at this;exact h.1 (length_eq_zero_iff.mp this.symm)
 ·obtain⟨x,hx,rfl⟩:=mem_map.mp (pm.mem_iff.mp hv)
  by_cases hk:x∈mI.map (·.1)
  ·obtain⟨y,hy,e⟩:=mem_map.mp (pV hp hk)
   rw[← e];exact hm y hy
  ·rw[eF hk];exact h.2.2.2 x hx
noncomputable def FJ (j:Nat) (is ns:List Int):Prop:=(j=0→is=[])∧(j=1→is≠[]∧is.Nodup∧∀i∈is,i∈ns)
theorem CW {q:Addr} (D:aD H d l) (nq:q≠d∧q≠l) (k : ∀b u,b≠q→H b=some u→H' b=some u):aD H' d l:=by
 obtain⟨m,sd,n,xs,hd,hl,r⟩:=D.ex;exact⟨⟨m,sd,n,xs,k _ _ nq.1.symm hd,k _ _ nq.2.symm hl,r⟩⟩
theorem vI {p:Addr} (h:H p=some (.dK kvs)) : ∀a xs,H a=some (.tup xs)→upd H p o a=some (.tup xs):=fun a xs e=>by
 rw[ag (bq e h (by intro z;cases z))];exact e
structure kQ (H:Hp) (d l a pa t na va:Addr) (ws:List Str) (ns:List Int) (mS:List (Str × Str)) (mI:List (Int × Int)):Prop where
 D:aD H d l
 n1:a≠d∧a≠l
 n2:pa≠d∧pa≠l
 n3:na≠d∧na≠l
 n4:va≠d∧va≠l
 ha:H a=some (.lst (ws.map V.str))
 hp:H pa=some (.lst (ns.map V.int))
 T:bH H t na va mS mI
 ms : ∀x∈mS,x.1∈ws
 mi : ∀x∈mI,x.1∈ns
 wn:ws≠[]
 nd:ws.Nodup
 wl:ws.length≤12
 n5:ns.length=5
 pw:ns.Pairwise (· < ·)
 nb : ∀x∈ns,-1000000≤x∧x≤1000000
 nm : ∀c∈ws,cb c
theorem kQ.but (h:kQ H d l a pa t na va ws ns mS mI) (D:aD H' d l) (B:But d l H H'):kQ H' d l a pa t na va ws ns mS mI :=
 ⟨D,h.n1,h.n2,h.n3,h.n4,B _ _ h.n1.1 h.n1.2 h.ha,B _ _ h.n2.1 h.n2.2 h.hp,⟨B.tup h.D h.T.ht,B _ _ h.n3.1 h.n3.2 h.T.hn,B _ _ h.n4.1 h.n4.2 h.T.hv,h.T.ps,h.T.pi,h.T.ls,h.T.li⟩,h.ms,h.mi,h.wn,h.nd,h.wl,h.n5,h.pw,h.nb,h.nm⟩
theorem kQ.same {H H':Hp} {d l a pa t na va:Addr} {ws:List Str} {ns:List Int} {mS:List (Str × Str)} {mI:List (Int × Int)} (h:kQ H d l a pa t na va ws ns mS mI) (s:ao H H'):kQ H' d l a pa t na va ws ns mS mI:=h.but (h.D.same s) ((But.refl H).same s)
noncomputable def Ey:Sp:=fun vs H Q _=>∃(d l a pa t na va:Addr) (ws:List Str) (ns:List Int) (mS:List (Str × Str)) (mI:List (Int × Int)),vs=[.ref d,.ref a,.ref pa,.ref t]∧kQ H d l a pa t na va ws ns mS mI ∧
 ∀(r:Addr) (kvs:List (Key × V)) (H':Hp),H r=none→H' r=some (.dK kvs)→lq H' kvs ws ns→(∀c∈ws,Sum.inr c∈kvs.map (·.1))→kvs.length≤12→aD H' d l→But d l H H'→Q (.ref r) H'
abbrev DJ:=Fn P w K mg base "_law_even_rooms" 4 ["_law_deal_here","_law_names_here","_law_pool_here","_law_turning"] (Ey)
theorem jh (T:Txt w K mg base) (L:FnL K mg "_law_even_rooms" df ["_law_deal_here","_law_names_here","_law_pool_here","_law_turning"]) (FO : @Dz3 P w K mg base) (FC : @En P w K mg base) (Fd : @xZ P w K mg base) : @DJ P w K mg base:=by
  ctx_has z iW <;> obtain⟨d,l,a,pa,t,na,va,ws,ns,mS,mI,rfl,E0,k⟩:=h
  · rfl
  refine⟨_,(af (aC 4 cj)
    (af (bE (eY (K:=K) rfl (pvM 1)) (aB 5) (ai (aK (gT (mt hu (pvM 5) (pvM 4))) (af (aC 6 (ah FC (aa (ak ap (pvM 3) ae) (aa (pvM 5) ac))))
    (af (aC 7 (gw hu (ah FO (aa (pvM 0) (aa (bA (aa (pvM 5) ac)) (aa (pvM 2) (aa ae ac))))) (pvM 5)))
    (af (aC 8 (pvM 7))
    (bP (bE (eY (K:=K) rfl (pvM 6)) (aB 9) (ai (aC 8 (aF aM T.b_tuple (aa (aG dU T.b_sorted (aa (ah Fd (aa (ak ap (pvM 3) ae) (aa (pvM 8) ac))) ac)) ac)))))
    (bP (aK (ay (qW (pQ hr)) (pvM 8) (pvM 7)) (af (aC 10 (bA ac))
    (af (bE (cU K (bI nV (pvM 7) cA (bQ ae))) (aB 11) (ai (aC 10 (aN vN (pvM 10) (ah FC (aa (ak ap (pvM 3) ae) (aa (pvM 11) ac)))))))
    (ai (aC 7 (aF aM T.b_tuple (aa (aG tf T.b_sorted (aa (pvM 10) ac)) ac)))))) az)
    (ai (bE (eY (K:=K) rfl (pvM 6)) (aB 9) (af (gG hu (pvM 4) (pvM 9) (pvM 7) rfl)
    (ai (aC 7 (aF aM T.b_tuple (aa (aG dU T.b_sorted (aa (ah Fd (aa (ak ap (pvM 3) ae) (aa (pvM 7) ac))) ac)) ac)))))))))))) az)))
    (ai (aA (pvM 4))))),?_⟩
  have h1:=E0.ha;ctx_has v
  intro q hq;have nq:=E0.D.ne hq;have B0:But d l H (upd H q (.dK [])):=(But.refl H).new hq
  refine⟨_,by rw[ag (aj h1 hq)];exact h1,?_⟩
  refine bW cq (fun i σ H'=>∃v5 v6 v7 v8 v9 v10 v11 kvs,σ=[some (.ref d),some (.ref a),some (.ref pa),some (.ref t),some (.ref q),v5,v6,v7,v8,v9,v10,v11]∧H' q=some (.dK kvs)∧lq H' kvs ws ns∧(∀c∈ws.take i,Sum.inr c∈kvs.map (·.1))∧(kvs.map (·.1)).Nodup∧aD H' d l∧But d l H H')
    ⟨_,_,_,_,_,_,_,[],rfl,ab,(fun p hp=>by cases hp),by simp,by simp,E0.D.new hq,B0⟩ (fun i σ H' zq55=>by obtain⟨_,_,_,_,_,_,_,_,_,_,_,_,_,_,B⟩:=zq55;exact(.of (B _ _ E0.n1.1 E0.n1.2 h1))) ?_ ?_
  · rintro i x σ H2 hi hx ⟨v5,v6,v7,v8,v9,v10,v11,kvs,rfl,h2q,hro,hcv,hkn,D2,B2⟩
    obtain⟨c,hc,rfl⟩ : ∃c,ws[i]? = some c∧V.str c=x:=by
      rw[List.getElem?_map] at hx;cases e:ws[i]? with
      | none=>rw[e] at hx;cases hx
      | some nm=>rw[e] at hx;exact⟨nm,rfl,Option.some.inj hx⟩
    have hcm:=mem_of_getElem? hc;have E2:=E0.but D2 B2;have e1:=E2.T.ht;have e2:=E2.T.hn;ctx_has v h2q kX
    refine cW (fun h=>?_) (fun h=>?_)
    · ctx_has v e1
      refine⟨na,upS mS,Sum.inr c,rfl,by rw[wg];exact e2,Cl E2.T.ps,by unfold upS;rw[length_map];exact E2.T.ls,fun rg fs H3 hrg s3 h3 hcf hfn hfk hfl=>⟨by decide,fun p hp3=>?_⟩⟩
      have hfs:=Ck hcm E0.ms hfk;have E3:=E2.same s3;have np:=E3.D.ne hp3;refine⟨d,l,p,pa,[c],ns,3,rfl,E3.D.new hp3,np,E3.n2,ab,by simp,by rw[ag (aj E3.hp hp3)];exact E3.hp,E3.n5,E3.pw,by decide,by decide,fun rr kv4 rm H4 hrr h4r hrf hgd hpl hkk D4 B4=>⟨rr,rfl,kv4,h4r,?_⟩⟩
      obtain⟨ar,hv4,h4a⟩:=hrf c (by simp)
      have hg4:gv ns (rm c):=by
        obtain⟨g1,g2,g3,g4⟩:=hgd c (by simp)
        exact⟨g1,by omega,g3,g4⟩
      have B24:But d l H2 H4:=(((But.refl H2).same s3).new hp3).trans B4
      have E4:=E2.but D4 B24;have nrg:=E2.D.ne hrg;have h4g:=B4 rg _ nrg.1 nrg.2 (by rw[ag (aj h3 hp3)];exact h3)
      have h4q:=B24 q _ nq.1 nq.2 h2q;have hro4:=hro.keep fun b xs e=>B24.tup D2 e
      have e14:=E4.T.ht;have e24:=E4.T.hv;refine⟨.ref ar,hv4,fun σ H'=>∃aft r8 v9,σ=[some (.ref d),some (.ref a),some (.ref pa),some (.ref t),some (.ref q),some (.str c),some (.ref rg),some (.ref ar),some (.ref aft),v9,v10,v11]∧H' aft=some (.tup (List.map V.int r8))∧ao H4 H',?_,?_⟩
      · refine⟨_,h4g,?_⟩
        refine bW cq (fun j σ H'=>∃aft r8 v9,σ=[some (.ref d),some (.ref a),some (.ref pa),some (.ref t),some (.ref q),some (.str c),some (.ref rg),some (.ref ar),some (.ref aft),v9,v10,v11]∧H' aft=some (.tup (List.map V.int r8))∧r8.length≤20∧ao H4 H') ⟨ar,rm c,_,rfl,h4a,hg4.2.1,ao.refl _⟩ (fun j σ H' zq56=>by obtain⟨_,_,_,_,_,_,s⟩:=zq56;exact(.of (s _ _ h4g))) ?_ ?_
        · rintro j x σ H5 hj hx5 ⟨aft,r8,v9,rfl,h5,hl5,s5⟩
          have e15:=s5 _ _ e14;ctx_has v e15
          refine⟨_,_,rfl,.inr ⟨va,aft,r8,mI,rfl,s5 _ _ e24,h5,by omega,fun pm H6 s6 h6=>⟨pm,rfl,_,h6,by rw[length_map];omega,fun q1 ms hq1 hpm hpw=>⟨_,ab,fun z hz=>?_⟩⟩⟩⟩
          have hml:=hpm.length_eq;rw[length_map] at hml;exact⟨ms,ab,by omega,((s5.trans s6).upd_new hq1).upd_new hz⟩
        · rintro σ H5 ⟨aft,r8,v9,rfl,h5,hl5,s5⟩
          exact⟨_,_,_,rfl,h5,s5⟩
      rintro σ H5 ⟨aft,r8,v9,rfl,h5,s5⟩
      refine⟨fun σ H'=>∃ar' r' v8 v9 v10 v11,σ=[some (.ref d),some (.ref a),some (.ref pa),some (.ref t),some (.ref q),some (.str c),some (.ref rg),some (.ref ar'),v8,v9,v10,v11]∧H' ar'=some (.tup (List.map V.int r'))∧gv ns r'∧ao H4 H',?_,?_⟩
      · ctx_has v
        refine⟨eO r8,eO (rm c),.tup (.of h5) (cp.ints _),.tup (.of (s5 _ _ h4a)) (cp.ints _),eS _,eS _,le_trans (iu _) (by decide),_,rfl,?_⟩
        refine cW (fun hy=>?_) (fun hy=>?_)
        · refine⟨by decide,fun p6 hp6=>?_⟩
          have s6:=s5.upd_new (o:=.lst []) hp6;have g6:upd H5 p6 (.lst []) p6=some (.lst []):=ab
          refine⟨_,s6 _ _ h4a,fun p7 H7 h7 s7=>⟨_,h7,?_⟩⟩
          have s47:=s6.trans s7;obtain⟨v0,rest,e0⟩ : ∃v0 rest,rm c=v0 :: rest:=by
            cases e:rm c with
            | nil=>exact absurd e hg4.1
            | cons v0 rest=>exact⟨v0,rest,rfl⟩
          have hv0:v0∈ns:=hg4.2.2.2 v0 (by rw[e0];simp)
          have ecut:dN ((rm c).map V.int) none (some 1)=[V.int v0]:=by
            have:=lJ V.int (rm c) 1
            rw[e0] at this ⊢;exact this
          rw[ecut] at h7;refine bW aW (fun j σ H'=>∃fl is v11,σ=[some (.ref d),some (.ref a),some (.ref pa),some (.ref t),some (.ref q),some (.str c),some (.ref rg),some (.ref ar),some (.ref aft),v9,some (.ref fl),v11]∧H' fl=some (.lst (List.map V.int is))∧FJ j is ns∧ao H7 H')
            ⟨p6,[],_,rfl,s7 _ _ g6,⟨fun _=>rfl,fun z=>by omega⟩,ao.refl _⟩ (fun j σ H' zq57=>by obtain⟨_,_,_,_,_,_,s⟩:=zq57;exact(.of (s _ _ h7))) ?_ ?_
          · rintro j x σ H8 hj hx8 ⟨fl,is,v11,rfl,h8,⟨hj0,hj1⟩,s8⟩
            obtain rfl:j=0:=by simp at hj;omega
            obtain rfl:=hj0 rfl
            simp at hx8
            subst hx8;have e18:=s8 _ _ (s47 _ _ e14);have e28:=s8 _ _ (s47 _ _ e24);ctx_has v e18
            refine⟨va,upI mI,Sum.inl v0,rfl,by rw[tM];exact e28,BZ E2.T.pi,by unfold upI;rw[length_map];exact E2.T.li,fun rg2 fs2 H9 hrg2 s9 h9 hm9 hn9 hk9 hl9=>?_⟩
            obtain⟨is,rfl,hi1,hi2⟩:=CP hv0 E0.mi hn9 hk9;have h9':H9 rg2=some (.lst (is.map V.int)):=by rw[h9,map_map];rfl
            rw[length_map] at hl9;refine⟨rg2,rfl,_,s9 _ _ h8,_,h9',by simp;exact le_of_lt (ax (by omega)),fun z hz=>⟨is,ab,⟨fun z=>by omega,fun _=>⟨fun e=>?_,hi1,hi2⟩⟩,(s8.trans s9).upd_new hz⟩⟩
            rw[e] at hm9;cases hm9
          · rintro σ H8 ⟨fl,is,v11,rfl,h8,⟨hj0,hj1⟩,s8⟩
            obtain⟨i1,i2,i3⟩:=hj1 rfl;have hil:=gP i2 i3;have h5:=E0.n5;ctx_has v h8
            refine⟨is,rfl,by omega,fun q1 ms hq1 hpm hpw=>⟨_,ab,fun z hz=>⟨ms,ab,⟨fun e=>?_,by rw[hpm.length_eq];omega,rS hpw (hpm.nodup_iff.mpr i2),fun v hv=>i3 v (hpm.mem_iff.mp hv)⟩,((s47.trans s8).upd_new hq1).upd_new hz⟩⟩⟩
            rw[e] at hpm;exact i1 (List.nil_perm.mp hpm)
        · exact⟨_,s5 _ _ h4a,hg4,s5⟩
      rintro σ H6 ⟨ar',r',v8,v9,v10,v11,rfl,h6a,hg6,s6⟩
      ctx_has v
      refine⟨_,s6 _ _ h4g,?_⟩
      have h6q:=s6 _ _ h4q;have e16:=s6 _ _ e14;have e26:=s6 _ _ e24;have h6g:=s6 _ _ h4g;have B06:But d l H H6:=(B2.trans B24).same s6
      have D6:=E4.D.same s6;have ngq:rg≠q:=(aj h2q hrg).symm
      refine bW cq (fun j σ H'=>∃ar' r' v8 v9 v10 v11 kv,σ=[some (.ref d),some (.ref a),some (.ref pa),some (.ref t),some (.ref q),some (.str c),some (.ref rg),some (.ref ar'),v8,v9,v10,v11]∧H' q=some (.dK kv)∧lq H' kv ws ns∧(kv.map (·.1)).Nodup∧(∀x∈kvs.map (·.1),x∈kv.map (·.1))∧(∀x∈fs.take j,x∈kv.map (·.1))∧H' ar'=some (.tup (List.map V.int r'))∧gv ns r'∧∀b u,b≠q→H6 b=some u→H' b=some u)
        ⟨_,_,_,_,_,_,kvs,rfl,h6q,hro4.keep fun b xs e=>s6 _ _ e,hkn,fun _ h=>h,by simp,h6a,hg6,fun _ _ _ h=>h⟩ (fun j σ H' zq58=>by obtain⟨_,_,_,_,_,_,_,_,_,_,_,_,_,_,_,k⟩:=zq58;exact(.of (k _ _ ngq h6g))) ?_ ?_
      · rintro j x σ H7 hj hx7 ⟨ar7,r7,v8,v9,v10,v11,kv,rfl,h7q,hro7,hn7,hk7,hf7,h7a,hg7,k7⟩
        obtain⟨f0,hf0,rfl⟩ : ∃f0,fs[j]? = some f0∧kV f0=x:=by
          rw[List.getElem?_map] at hx7;cases e:fs[j]? with
          | none=>rw[e] at hx7;cases hx7
          | some nm=>rw[e] at hx7;exact⟨nm,rfl,Option.some.inj hx7⟩
        obtain⟨s0,hs0,rfl⟩:=hfs f0 (mem_of_getElem? hf0);have hkv:=gP (ys:=ws.map Sum.inr) hn7 fun x hx=>by
          obtain⟨y,hy,rfl⟩:=mem_map.mp hx;obtain⟨c,a',r,rfl,hc,_⟩:=hro7 y hy;exact mem_map.mpr ⟨c,hc,rfl⟩
        rw[length_map,length_map] at hkv;have hwl:=E0.wl;ctx_has v h7q
        have gk:=vI (o:=.dK (br kv (Sum.inr s0) (.ref ar7))) h7q;have h7t:=k7 t _ (bq e16 h6q (by intro z;cases z)) e16
        have nvq:va≠q:=fun z=>by rw[z] at e26;exact absurd (E0.T.hv) (by rw[z,hq];intro z;cases z)
        have hg7l:=hg7.2.1;refine⟨Sum.inr s0,rfl,ax (by omega),_,gk _ _ h7t,_,rfl,_,_,rfl,.inr ⟨va,ar7,r7,mI,rfl,by rw[ag nvq];exact k7 va _ nvq e26,gk _ _ h7a,by omega,fun pm H8 s8 h8=>⟨pm,rfl,_,h8,by rw[length_map];omega,fun q1 ms hq1 hpm hpw=>⟨_,ab,fun z hz=>?_⟩⟩⟩⟩
        have s9:=(s8.upd_new (o:=.lst (ms.map V.int)) hq1).upd_new (o:=.tup (ms.map V.int)) hz;have hms:ms=srt (r7.map (ld mI)):=mU hpm hpw
        refine⟨ms,_,s9 _ _ ab,((hro7.put hs0 h7a hg7).keep gk).keep fun b xs e=>s9 _ _ e,Ct hn7,fun x hx=>(jL x).mpr (.inr (hk7 x hx)),fun x hx=>?_,ab,by rw[hms];exact xO E0.T.pi E0.mi hg7,fun b u hb e=>s9 _ _ (by rw[ag hb];exact k7 b u hb e)⟩
        rw[take_add_one,hf0] at hx;rcases mem_append.mp hx with w | w
        · exact(jL x).mpr (.inr (hf7 x w))
        · exact(jL x).mpr (.inl (by simpa using w))
      · rintro σ H7 ⟨ar7,r7,v8,v9,v10,v11,kv,rfl,h7q,hro7,hn7,hk7,hf7,h7a,hg7,k7⟩
        rw[length_map,take_length] at hf7;refine⟨_,_,_,_,_,_,_,rfl,kv,h7q,hro7,fun c' hc'=>?_,hn7,CW D6 nq k7,fun b u h1 h2 e=>?_⟩
        · rw[take_add_one,hc] at hc'
          rcases mem_append.mp hc' with z | z
          · exact hk7 _ (hcv c' z)
          · rw[show c'=c by simpa using z]
            exact hf7 _ hcf
        · exact k7 b u (aj e hq) (B06 b u h1 h2 e)
    · refine⟨hro,fun c' hc'=>?_,hkn,D2,B2⟩
      rw[take_add_one,hc] at hc';rcases mem_append.mp hc' with z | z
      · exact hcv c' z
      · rw[show c'=c by simpa using z]
        exact cF.mp (by cases hv:(bu kvs (Sum.inr c)).isSome with | true=>rfl | false=>exact absurd hv h)
  · rintro σ H2 ⟨v5,v6,v7,v8,v9,v10,v11,kvs,rfl,h2q,hro,hcv,hkn,D2,B2⟩
    rw[length_map,take_length] at hcv;ctx_has v
    have hkl:=gP (ys:=ws.map Sum.inr) hkn fun x hx=>by
      obtain⟨y,hy,rfl⟩:=mem_map.mp hx;obtain⟨c,a',r,rfl,hc,_⟩:=hro y hy;exact mem_map.mpr ⟨c,hc,rfl⟩
    rw[length_map,length_map] at hkl;have:=E0.wl
    exact k q kvs H2 hq h2q hro hcv (by omega) D2 B2
theorem fT (hS:PM mS) (h1 : ∀c∈ws,ld mS c∈ws') {cs:List Str} (h:okC ws cs):okC ws' (cs.map (ld mS)):=by
 obtain⟨a,b,c,d⟩:=h;refine⟨fun e=>a (map_eq_nil_iff.mp e),pairwise_map.mpr (b.imp fun ne e=>ne (gn hS e)),fun x hx=>?_,by rw[length_map];exact d⟩
 obtain⟨y,hy,rfl⟩:=mem_map.mp hx;exact h1 y (c y hy)
theorem tD (hI:PM mI) (h2 : ∀v∈ns,ld mI v∈ns) {av:List Int} (h:okV ns av):okV ns (av.map (ld mI)):=by
 obtain⟨a,b,c⟩:=h;refine⟨pairwise_map.mpr (a.imp fun ne e=>ne (gn hI e)),fun x hx=>?_,by rw[length_map];exact c⟩
 obtain⟨y,hy,rfl⟩:=mem_map.mp hx;exact h2 y (b y hy)
theorem tK (hS:PM mS) (hI:PM mI) (h1 : ∀c∈ws,ld mS c∈ws') (h2 : ∀v∈ns,ld mI v∈ns) {W V:Wi} (ok:okW ws ns W) (h:bx mS mI W=some V):okW ws' ns V∧ga V=(ga W).map (ld mS):=by
 cases W with
 | un cs=>cases h;exact⟨fT hS h1 ok,rfl⟩
 | mn av cs lo hi=>cases h;exact⟨⟨fT hS h1 ok.1,tD hI h2 ok.2⟩,rfl⟩
 | sm ts lo hi =>
  unfold bx at h;dsimp only at h
  split at h
  ·cases h
   have e:(ts.map fun x=>(x.1,ld mS x.2)).map (·.2)=(ts.map (·.2)).map (ld mS):=by rw[map_map,map_map];rfl
   refine⟨⟨by rw[e];exact fT hS h1 ok.1,fun x hx=>?_⟩,e⟩
   obtain⟨y,hy,rfl⟩:=mem_map.mp hx;exact ok.2 y hy
  ·cases h
 | tb cs rows =>
  cases h;obtain⟨o1,o2,o3,o4⟩:=ok;refine⟨⟨fT hS h1 o1,?_,fun r hr=>?_,by rw[length_map];exact o4⟩,rfl⟩
  ·exact pairwise_map.mpr (o2.imp fun ne e=>ne ((List.map_inj_right fun a b z=>gn hI z).mp e))
  ·obtain⟨y,hy,rfl⟩:=mem_map.mp hr
   rw[length_map,length_map];exact o3 y hy
 | wy cs ps es =>
  cases h;obtain⟨o1,o2,o3,o4⟩:=ok;refine⟨⟨fT hS h1 o1,?_,by rw[length_map];exact o3,o4⟩,rfl⟩
  rw[map_map];have e:((fun x:Int × Int × Int=>(x.1,x.2.1)) ∘ fun x:Int × Int × Int=>(x.1,ld mI x.2.1,x.2.2))=(fun y:Int × Int=>(y.1,ld mI y.2)) ∘ fun x:Int × Int × Int=>(x.1,x.2.1):=rfl
  rw[e,← map_map];refine pairwise_map.mpr (o2.imp fun {a b} ne e=>ne ?_)
  have e1:(a.1,ld mI a.2)=(b.1,ld mI b.2):=e
  exact Prod.ext (Prod.mk.inj e1).1 (gn hI (Prod.mk.inj e1).2)
 | bh cs gap =>
  unfold bx at h;dsimp only at h
  split at h
  ·cases h;exact⟨fT hS h1 ok,rfl⟩
  ·cases h
theorem fG (hS:PM mS) (hI:PM mI) (h1 : ∀c∈ws,ld mS c∈ws') (h2 : ∀v∈ns,ld mI v∈ns) {W V:Wx} (ok:okX ws ns W) (h:bB mS mI W=some V):okX ws' ns V:=by
 cases W with
 | pl W =>
  obtain⟨V',hv,rfl⟩:=map_eq_some_iff.mp h;exact(tK hS hI h1 h2 ok hv).1
 | sa c vs W =>
  obtain⟨V',hv,rfl⟩:=map_eq_some_iff.mp h;obtain⟨o1,o2,o3,o4⟩:=ok;obtain⟨p1,p2⟩:=tK hS hI h1 h2 o3 hv;refine⟨h1 c o1,tD hI h2 o2,p1,?_⟩
  rw[p2];intro z;obtain⟨x,hx,e⟩:=mem_map.mp z;exact o4 (by rw[← gn hS e];exact hx)
noncomputable def uc (H:Hp) (bs:List (Addr × Wx)) (ws:List Str) (ns:List Int):Prop:=∀x∈bs,WX H x.1 x.2∧okX ws ns x.2
theorem uc.keep {bs:List (Addr × Wx)} (h:uc H bs ws ns) (k : ∀a xs,H a=some (.tup xs)→H' a=some (.tup xs)):uc H' bs ws ns:=fun x hx=>⟨bS (h x hx).1 k,(h x hx).2⟩
noncomputable abbrev rfs (bs:List (Addr × Wx)):List V:=bs.map fun x=>V.ref x.1
theorem iw (hI:PM mI) {ns:List Int} (hm : ∀x∈mI,x.1∈ns) : ∀v∈ns,ld mI v∈ns:=fun v hv=>by
 by_cases hk:v∈mI.map (·.1)
 ·obtain⟨y,hy,e⟩:=mem_map.mp (pV hI hk)
  rw[← e];exact hm y hy
 ·rw[eF hk];exact hv
noncomputable def Gc:Sp:=fun vs H Q _=>∃(d l a ra pa t na va:Addr) (ws:List Str) (ns:List Int) (mS:List (Str × Str)) (mI:List (Int × Int)) (kvs:List (Key × V)) (rm:Str→List Int),vs=[.ref d,.ref a,.ref ra,.ref pa,.ref t]∧bM H∧kQ H d l a pa t na va ws ns mS mI∧gj H d l a ra pa ws ns kvs rm ∧
 ∀(p:Addr) (bs:List (Addr × Wx)) (H':Hp),H p=none→H' p=some (.lst (rfs bs))→uc H' bs ws ns→bs.length≤14→aD H' d l→But d l H H'→Q (.ref p) H'
structure kS (H H':Hp) (d l so p:Addr) (bs:List (Addr × Wx)) (ws:List Str) (ns:List Int):Prop where
 D:aD H' d l
 B:But d l H H'
 fp:H p=none
 hp:H' p=some (.lst (rfs bs))
 hs:H' so=some (.lst ((fo true).map V.str))
 ns':so≠p
 np:p≠d∧p≠l
 wo:uc H' bs ws ns
 ln:bs.length≤14
theorem kS.but {p:Addr} {bs:List (Addr × Wx)} (h:kS H H' d l so p bs ws ns) (nso:so≠d∧so≠l) (D:aD H2 d l) (B:But d l H' H2):kS H H2 d l so p bs ws ns :=
 ⟨D,h.B.trans B,h.fp,B _ _ h.np.1 h.np.2 h.hp,B _ _ nso.1 nso.2 h.hs,h.ns',h.np,h.wo.keep fun b xs e=>B.tup h.D e,h.ln⟩
theorem kS.putF {p:Addr} {bs:List (Addr × Wx)} {ys zs:List V} (h:kS H H' d l so p bs ws ns) (ff:H f=none) (nf:f≠d∧f≠l) (fp:f≠p) (fs:f≠so) (hl:H' f=some (.lst ys)):kS H (upd H' f (.lst zs)) d l so p bs ws ns :=
 ⟨h.D.put nf.1 nf.2,h.B.put ff,h.fp,by rw[ag fp.symm];exact h.hp,by rw[ag fs.symm];exact h.hs,h.ns',h.np,h.wo.keep (cE hl),h.ln⟩
theorem kS.add {p r:Addr} {bs:List (Addr × Wx)} {W:Wx} (h:kS H H' d l so p bs ws ns) (hl:bs.length < 14) (hr:WX H' r W) (ok:okX ws ns W):kS H (upd H' p (.lst (rfs bs++[V.ref r]))) d l so p (bs++[(r,W)]) ws ns :=
 ⟨h.D.put h.np.1 h.np.2,h.B.put h.fp,h.fp,by rw[ab];simp,by rw[ag h.ns'];exact h.hs,h.ns',h.np,fun x hx=>by
  rcases mem_append.mp hx with z | z
  ·exact(h.wo.keep (cE h.hp)) x z
  ·rw[mem_singleton.mp z];exact⟨bS hr (cE h.hp),ok⟩,by simp;omega⟩
noncomputable def WhV (H:Hp) (v:V) (ws:List Str) (ns:List Int):Prop:=v = .non∨∃w W,v = .ref w∧WX H w W∧okX ws ns W
structure kY (H H':Hp) (d l so p f:Addr) (bs fs:List (Addr × Wx)) (ws:List Str) (ns:List Int):Prop where
 W:kS H H' d l so p bs ws ns
 hf:H' f=some (.lst (rfs fs))
 ff:H f=none
 nf:f≠d∧f≠l
 fp:f≠p
 fs':f≠so
 pw:kb H' fs
 le:fs.length≤bs.length
theorem kY.but {H H' H2:Hp} {d l so p f:Addr} {bs fs:List (Addr × Wx)} {ws:List Str} {ns:List Int} (h:kY H H' d l so p f bs fs ws ns) (nso:so≠d∧so≠l) (D:aD H2 d l) (B:But d l H' H2):kY H H2 d l so p f bs fs ws ns :=
 ⟨h.W.but nso D B,B _ _ h.nf.1 h.nf.2 h.hf,h.ff,h.nf,h.fp,h.fs',h.pw.keep fun b xs e=>B.tup h.W.D e,h.le⟩
theorem kY.same {H H' H2:Hp} {d l so p f:Addr} {bs fs:List (Addr × Wx)} {ws:List Str} {ns:List Int} (h:kY H H' d l so p f bs fs ws ns) (nso:so≠d∧so≠l) (s:ao H' H2):kY H H2 d l so p f bs fs ws ns:=h.but nso (h.W.D.same s) ((But.refl H').same s)
abbrev DC:=Fn P w K mg base "_law_even_wishes" 16 ["_law_deal_here","_law_names_here","_law_rooms_here","_law_pool_here","_law_turning"] (Gc)
theorem iF (T:Txt w K mg base) (L:FnL K mg "_law_even_wishes" cM ["_law_deal_here","_law_names_here","_law_rooms_here","_law_pool_here","_law_turning"]) (Fa : @Dz0 P w K mg base) (FP:Fn P w K mg base "_law_wish" 15 ["_law_deal_here","_law_names_here","_law_rooms_here","_law_pool_here","_law_sorts"] (ij true)) (Fg : @Au P w K mg base) (Fh : @BY P w K mg base) (Fi : @A2 P w K mg base) (Fj : @Cj P w K mg base) (Ft : @Cc P w K mg base) (Fy : @Em P w K mg base) : @DC P w K mg base:=by
  ctx_has z iE <;> obtain⟨d,l,a,ra,pa,t,na,va,ws,ns,mS,mI,kvs,rm,rfl,tb,E0,F0,k⟩:=h
  · rfl
  refine⟨_,(af (aC 5 (bA (aa au (aa au (aa au (aa au (aa au (aa au (aa au ac)))))))))
    (af (aC 6 (bA ac))
    (af (bE (bY rfl T.b_range (aa (ah Fa (aa (pvM 0) (aa ae ac))) ac)) (aB 7) (af (aC 8 (ah FP (aa (pvM 0) (aa (pvM 1) (aa (pvM 2) (aa (pvM 3) (aa (pvM 5) ac)))))))
    (af (aC 9 (bA ac))
    (bP (fO PassesOwn.never (PW.pt (gh (gT (AS (pvM 8))) (gh (ay (jb (rN hr)) (bX Fg Fh (aa (pvM 8) ac)) (pvM 9)) (gg (ay Bp (aG bj T.b_len (aa (pvM 6) ac)) ae))))) (af (bU (eG PySem.F.slot_list_append PySem.F.type_list_append bN (pvM 9) (aa (bX Fg Fh (aa (pvM 8) ac)) ac)))
    (af (bU (eG PySem.F.slot_list_append PySem.F.type_list_append bN (pvM 6) (aa (bX Ft Fy (aa (pvM 0) (aa (pvM 8) ac))) ac)))
    (ai (aC 8 (bX Fi Fj (aa (pvM 4) (aa (pvM 8) ac))))))))
    (ai (aK (gT (lR (pvM 8))) (ai (aC 6 (bI Dp (pvM 6) cA (bQ (aN gH (aG bj T.b_len (aa (pvM 6) ac)) (aG bj T.b_len (aa (pvM 9) ac))))))) az))))))
    (ai (aA (pvM 6)))))),?_⟩
  ctx_has v
  refine⟨by decide,fun so hso=>⟨by decide,fun p hp=>?_⟩⟩
  have nso:=E0.D.ne hso;have hp0:H p=none:=by
    cases e:H p with
    | none=>rfl
    | some u=>rw[ag (aj e hso),e] at hp;cases hp
  have sp:so≠p:=fun z=>by rw[← z,ab] at hp;cases hp
  have np:=E0.D.ne hp0;have D0:=(E0.D.new (o:=.lst ((fo true).map V.str)) hso).new (o:=.lst []) hp;refine aS D0 (by decide) (by decide) fun x1 H1 x10 x11 D1 B1=>⟨_,rfl,by omega,by omega,?_⟩
  have B01:But d l H H1:=(((But.refl H).new hso).new hp).trans B1
  have W1:kS H H1 d l so p [] ws ns:=⟨D1,B01,hp0,B1 _ _ np.1 np.2 ab,B1 _ _ nso.1 nso.2 (by rw[ag sp];exact ab),sp,np,(fun x hx=>by cases hx),by decide⟩
  refine bW bL (fun i σ H'=>∃p bs v7 v8 v9,σ=[some (.ref d),some (.ref a),some (.ref ra),some (.ref pa),some (.ref t),some (.ref so),some (.ref p),v7,v8,v9]∧kS H H' d l so p bs ws ns) ⟨p,[],_,_,_,rfl,W1⟩ (fun _ _ _ _=>True.intro) ?_ ?_
  · clear W1 B01 D1 B1 D0 hp np sp hp0 p
    rintro i x σ H2 hi hx ⟨p,bs,v7,v8,v9,rfl,W2⟩
    have F2:=F0.but W2.D W2.B;ctx_has v kX
    refine⟨d,l,a,ra,pa,so,ws,ns,kvs,rm,rfl,F2,nso,W2.hs,fun w W H3 hW hok _ D3 B3=>⟨by decide,fun f hf=>?_⟩⟩
    have W3:=W2.but nso D3 B3;have hff:H f=none:=by
      cases e:H f with
      | none=>rfl
      | some u =>
        have nd:=E0.D.ex;have nf:f≠d∧f≠l:=D3.ne hf
        rw[W3.B f u nf.1 nf.2 e] at hf;cases hf
    have nf:=D3.ne hf;have Ef:kY H (upd H3 f (.lst [])) d l so p f bs [] ws ns :=
      ⟨W3.but nso (D3.new hf) ((But.refl H3).new hf),ab,hff,nf,(aj W3.hp hf).symm,(aj W3.hs hf).symm,(fun x hx=>by cases hx),zero_le _⟩
    have hV:WhV (upd H3 f (.lst [])) (.ref w) ws ns:=.inr ⟨w,W,rfl,bS hW fun b xs e=>by rw[ag (aj e hf)];exact e,hok⟩
    refine⟨fun σ H'=>∃v bs fs,σ=[some (.ref d),some (.ref a),some (.ref ra),some (.ref pa),some (.ref t),some (.ref so),some (.ref p),some x,some v,some (.ref f)]∧kY H H' d l so p f bs fs ws ns,?_,?_⟩
    · refine fQ (fun μ σ H'=>∃v bs fs,σ=[some (.ref d),some (.ref a),some (.ref ra),some (.ref pa),some (.ref t),some (.ref so),some (.ref p),some x,some v,some (.ref f)]∧kY H H' d l so p f bs fs ws ns∧WhV H' v ws ns∧μ=14 - bs.length)
        (fun σ H'=>∃v bs fs,σ=[some (.ref d),some (.ref a),some (.ref ra),some (.ref pa),some (.ref t),some (.ref so),some (.ref p),some x,some v,some (.ref f)]∧kY H H' d l so p f bs fs ws ns) ⟨_,_,_,_,rfl,Ef,hV,rfl⟩ ?_ (fun _ _ h=>h)
      rintro R hR μ σ H4 ⟨v,bs4,fs4,rfl,E4,hv,rfl⟩
      rcases hv with rfl | ⟨w4,W4,rfl,hW4,hok4⟩
      · ctx_has v wU
        exact hR _ _ ⟨_,_,_,rfl,E4⟩
      · ctx_has v wU
        rw[if_pos (by simp)]
        have tb4:=tb.but E0.D E4.W.B;have hkd:=sW F0.nm hok4;refine iQ tb4 hW4 hok4 fun r H5 s5 h5=>?_
        have E5:=E4.same nso s5;obtain⟨rp,ly⟩:=E5.pw.reps (K:=K);refine⟨dP W4,pD fs4,kC h5,.lst (.of E5.hf) rp,eI _ hkd.1,ly,le_trans hkd.2 (by decide),_,rfl,?_⟩
        rw[if_pos rfl];cases hin:inD (dP W4) (pD fs4) with
        | true =>
          rw[if_neg (by decide)]
          exact hR _ _ ⟨_,_,_,rfl,E5⟩
        | false =>
          rw[if_pos (by decide)]
          refine⟨_,E5.W.hp,?_⟩
          refine cW (fun hlt=>?_) (fun hlt=>hR _ _ ⟨_,_,_,rfl,E5⟩)
          have hl14:bs4.length < 14:=by rw[length_map] at hlt;omega
          have hle:=E4.le;refine⟨fun σ' H'=>∃v bs' fs',σ'=[some (.ref d),some (.ref a),some (.ref ra),some (.ref pa),some (.ref t),some (.ref so),some (.ref p),some x,some v,some (.ref f)]∧kY H H' d l so p f bs' fs' ws ns∧WhV H' v ws ns∧bs'.length=bs4.length+1,?_,⟨_,E5.hf⟩,iQ (tb4.same s5) (bS hW4 fun b xs e=>s5 _ _ e) hok4 fun r2 H6 s6 h6=>?_⟩
          · rintro σ' H' ⟨v,bs',fs',rfl,e,hv,hl⟩
            exact⟨_,by omega,v,rfl,bs',fs',e,hv,rfl⟩
          have E6:=E5.same nso s6;have k6:=cE (o:=.lst (rfs fs4++[V.ref r2])) E6.hf;have W6:=E6.W.putF (zs:=rfs fs4++[V.ref r2]) E6.ff E6.nf E6.fp E6.fs' E6.hf;have hf6:upd H6 f (.lst (rfs fs4++[V.ref r2])) f=some (.lst (rfs (fs4++[(r2,cL W4)]))):=by rw[ab];simp
          have pw6:kb (upd H6 f (.lst (rfs fs4++[V.ref r2]))) (fs4++[(r2,cL W4)]):=fun x hx=>by
            rcases mem_append.mp hx with z | z
            · exact(E6.pw.keep k6) x z
            · rw[mem_singleton.mp z];exact⟨bS h6 k6,hkd⟩
          have hW6:=bS (bS hW4 fun b xs e=>s6 _ _ (s5 _ _ e)) k6
          refine⟨_,E6.hf,by rw[length_map];exact ax (by omega),⟨_,W6.hp⟩,C0 W6.D hW6 hok4 fun r3 W3 H7 h7 m7 D7 B7=>?_⟩
          have W7:=W6.but nso D7 B7;have hf7:=B7 f _ E6.nf.1 E6.nf.2 hf6;have pw7:=pw6.keep fun b xs e=>B7.tup W6.D e
          have W8:=W7.add hl14 h7 (vF hok4 m7);have k8:=cE (o:=.lst (rfs bs4++[V.ref r3])) W7.hp;have hW8:=bS (bS hW6 fun b xs e=>B7.tup W6.D e) k8
          have E8:kY H (upd H7 p (.lst (rfs bs4++[V.ref r3]))) d l so p f (bs4++[(r3,W3)]) (fs4++[(r2,cL W4)]) ws ns :=
            ⟨W8,by rw[ag E6.fp];exact hf7,E6.ff,E6.nf,E6.fp,E6.fs',pw7.keep k8,by simp;omega⟩
          refine⟨_,W7.hp,by rw[length_map];exact ax (by omega),yQ (E0.but W8.D W8.B).T hW8 (rH hok4) fun v H9 s9 hv=>⟨v,_,_,rfl,E8.same nso s9,?_,by simp⟩⟩
          cases ht:bB mS mI W4 with
          | none=>rw[ht] at hv;exact .inl hv
          | some Vt =>
            rw[ht] at hv;obtain⟨wt,rfl,hVX⟩:=hv;exact .inr ⟨wt,Vt,rfl,hVX,fG E0.T.ps E0.T.pi (fun c hc=>dX E0.T.ps E0.ms hc) (iw E0.T.pi E0.mi) hok4 ht⟩
    · rintro σ H4 ⟨v,bs4,fs4,rfl,E4⟩
      have g1:=E4.W.hp;have g2:=E4.hf;have hle:=E4.le;ctx_has v g1 g2
      refine cW (fun hy=>fun p3 hp3=>⟨bs4.take (bs4.length - fs4.length),?_⟩) (fun hy=>⟨_,E4.W⟩)
      have n3:=E4.W.D.ne hp3;have hp30:H p3=none:=by
        cases e:H p3 with
        | none=>rfl
        | some u=>rw[E4.W.B p3 u n3.1 n3.2 e] at hp3;cases hp3
      have ec:dN (rfs bs4) none (some (((rfs bs4).length:Int) - ((rfs fs4).length:Int)))=rfs (bs4.take (bs4.length - fs4.length)):=by
        rw[show(((rfs bs4).length:Int) - ((rfs fs4).length:Int))=((bs4.length - fs4.length:Nat):Int) by rw[length_map,length_map];omega]
        exact lJ (fun x:Addr × Wx=>V.ref x.1) bs4 _
      rw[ec];have hln:=E4.W.ln;exact⟨E4.W.D.new hp3,E4.W.B.new hp3,hp30,ab,by rw[ag (aj E4.W.hs hp3)];exact E4.W.hs,aj E4.W.hs hp3,n3,(fun x hx=>(E4.W.wo.keep fun b xs e=>by rw[ag (aj e hp3)];exact e) x (mem_of_mem_take hx)),by rw[length_take];omega⟩
  · rintro σ H2 ⟨p,bs,v7,v8,v9,rfl,W2⟩
    ctx_has v
    exact k p bs H2 W2.fp W2.hp W2.wo W2.ln W2.D W2.B
theorem vv (h:ws.Nodup):(ws.map (Sum.inr:Str→Key)).Nodup:=pairwise_map.mpr (h.imp fun ne e=>ne (Sum.inr.inj e))
theorem uJ (h:ns.Nodup):(ns.map (Sum.inl:Int→Key)).Nodup:=pairwise_map.mpr (h.imp fun ne e=>ne (Sum.inl.inj e))
theorem wL {Q:VK} {E:XK} (D:aD H d l) (sq:uY H a (ws.map V.str)) (nd:ws.Nodup) (ln:ws.length≤40)
  (k : ∀na mS H',H na=none→H' na=some (.dK (kvS mS))→PM mS→(∀x∈mS,x.1∈ws)→mS.length≤40→aD H' d l→But d l H H'→Q (.ref na) H'):qH [.ref d,.ref a] H Q E:=by
 refine⟨d,l,a,ws.map Sum.inr,rfl,D,by rw[map_map];exact sq,vv nd,by rw[length_map];exact ln,fun na m H' fna h hpm hkm hml D' B'=>?_⟩
 obtain⟨mS,rfl,hpS⟩:=E1 hpm fun y hy=>by
  obtain⟨z,_,e⟩:=mem_map.mp (hkm y hy);exact⟨z,e.symm⟩
 rw[wg] at h;refine k na mS H' fna h hpS (fun x hx=>?_) (by unfold upS at hml;rw[length_map] at hml;exact hml) D' B'
 obtain⟨z,hz,e⟩:=mem_map.mp (hkm (Sum.inr x.1,Sum.inr x.2) (mem_map.mpr ⟨x,hx,rfl⟩));rw[← Sum.inr.inj e];exact hz
theorem vO {Q:VK} {E:XK} (D:aD H d l) (sq:uY H a (ns.map V.int)) (nd:ns.Nodup) (ln:ns.length≤40)
  (k : ∀va mI H',H va=none→H' va=some (.dK (kvI mI))→PM mI→(∀x∈mI,x.1∈ns)→mI.length≤40→aD H' d l→But d l H H'→Q (.ref va) H'):qH [.ref d,.ref a] H Q E:=by
 refine⟨d,l,a,ns.map Sum.inl,rfl,D,by rw[map_map];exact sq,uJ nd,by rw[length_map];exact ln,fun va m H' fna h hpm hkm hml D' B'=>?_⟩
 obtain⟨mI,rfl,hpI⟩:=EF hpm fun y hy=>by
  obtain⟨z,_,e⟩:=mem_map.mp (hkm y hy);exact⟨z,e.symm⟩
 rw[tM] at h;refine k va mI H' fna h hpI (fun x hx=>?_) (by unfold upI at hml;rw[length_map] at hml;exact hml) D' B'
 obtain⟨z,hz,e⟩:=mem_map.mp (hkm (Sum.inl x.1,Sum.inl x.2) (mem_map.mpr ⟨x,hx,rfl⟩));rw[← Sum.inl.inj e];exact hz
theorem xC {got rest:List V} (h:(got++rest).Perm (ns.map V.int)) : ∃is:List Int,got=is.map V.int∧(ns.Nodup→is.Nodup)∧(∀i∈is,i∈ns)∧is.length≤ns.length:=by
 have hg : ∀v∈got,∃i,v=V.int i:=fun v hv=>by
  obtain⟨i,_,e⟩:=mem_map.mp (h.mem_iff.mp (mem_append_left _ hv));exact⟨i,e.symm⟩
 have hr : ∀v∈rest,∃i,v=V.int i:=fun v hv=>by
  obtain⟨i,_,e⟩:=mem_map.mp (h.mem_iff.mp (mem_append_right _ hv));exact⟨i,e.symm⟩
 have conv : ∀l:List V,(∀v∈l,∃i,v=V.int i)→∃is:List Int,l=is.map V.int:=fun l=>by
  induction l with
  | nil=>exact fun _=>⟨[],rfl⟩
  | cons v l ih =>
   intro hl;obtain⟨i,rfl⟩:=hl v (by simp)
   obtain⟨is,rfl⟩:=ih fun v hv=>hl v (by simp[hv])
   exact⟨i :: is,rfl⟩
 obtain⟨is,rfl⟩:=conv got hg;obtain⟨js,rfl⟩:=conv rest hr;have hl:=h.length_eq;rw[length_append,length_map,length_map,length_map] at hl;refine⟨is,rfl,fun hn=>?_,fun i hi=>?_,by omega⟩
 ·have:(is.map V.int++js.map V.int).Nodup:=h.nodup_iff.mpr (pairwise_map.mpr (hn.imp fun ne e=>ne (V.int.inj e)))
  have:=(nodup_append.mp this).1
  exact(pairwise_map.mp this).imp fun ne e=>ne (by rw[e])
 ·obtain⟨j,hj,e⟩:=mem_map.mp (h.mem_iff.mp (mem_append_left _ (mem_map.mpr ⟨i,hi,rfl⟩)))
  rw[← V.int.inj e];exact hj
structure gF (H H':Hp) (d l a pa tn na va ra p:Addr) (ws:List Str) (ns:List Int) (mS:List (Str × Str)) (mI:List (Int × Int)) (kvs:List (Key × V)) (bs:List (Addr × Wx)):Prop where
 E:kQ H' d l a pa tn na va ws ns mS mI
 B:But d l H H'
 hr:H' ra=some (.dK kvs)
 fr:H ra=none
 nr:ra≠d∧ra≠l
 xr:ra≠na∧ra≠va
 ro:lq H' kvs ws ns
 ck : ∀c∈ws,Sum.inr c∈kvs.map (·.1)
 kl:kvs.length≤13
 hw:H' p=some (.lst (rfs bs))
 fw:H p=none
 nw:p≠d∧p≠l
 xw:p≠a∧p≠pa
 wo:uc H' bs ws ns
 wl:bs.length≤20
theorem gF.but {H H' H2:Hp} {d l a pa tn na va ra p:Addr} {ws:List Str} {ns:List Int} {mS:List (Str × Str)} {mI:List (Int × Int)} {kvs:List (Key × V)} {bs:List (Addr × Wx)} (h:gF H H' d l a pa tn na va ra p ws ns mS mI kvs bs) (D:aD H2 d l) (B:But d l H' H2):gF H H2 d l a pa tn na va ra p ws ns mS mI kvs bs :=
 ⟨h.E.but D B,h.B.trans B,B _ _ h.nr.1 h.nr.2 h.hr,h.fr,h.nr,h.xr,h.ro.keep fun b xs e=>B.tup h.E.D e,h.ck,h.kl,B _ _ h.nw.1 h.nw.2 h.hw,h.fw,h.nw,h.xw,h.wo.keep fun b xs e=>B.tup h.E.D e,h.wl⟩
theorem gF.same {H H' H2:Hp} {d l a pa tn na va ra p:Addr} {ws:List Str} {ns:List Int} {mS:List (Str × Str)} {mI:List (Int × Int)} {kvs:List (Key × V)} {bs:List (Addr × Wx)} (h:gF H H' d l a pa tn na va ra p ws ns mS mI kvs bs) (s:ao H' H2):gF H H2 d l a pa tn na va ra p ws ns mS mI kvs bs:=h.but (h.E.D.same s) ((But.refl H').same s)
theorem gF.setW {p:Addr} {bs cs:List (Addr × Wx)} (h:gF H H' d l a pa tn na va ra p ws ns mS mI kvs bs) (hc:uc H' cs ws ns) (hl:cs.length≤20):gF H (upd H' p (.lst (rfs cs))) d l a pa tn na va ra p ws ns mS mI kvs cs:=by
 have k:=cE (o:=.lst (rfs cs)) h.hw;have nd : ∀{x:Addr} {kv:List (Key × V)},H' x=some (.dK kv)→x≠p:=fun e=>bq e h.hw (by intro z;cases z)
 exact⟨⟨h.E.D.put h.nw.1 h.nw.2,h.E.n1,h.E.n2,h.E.n3,h.E.n4,by rw[ag h.xw.1.symm];exact h.E.ha,by rw[ag h.xw.2.symm];exact h.E.hp,⟨k _ _ h.E.T.ht,by rw[ag (nd h.E.T.hn)];exact h.E.T.hn,by rw[ag (nd h.E.T.hv)];exact h.E.T.hv,h.E.T.ps,h.E.T.pi,h.E.T.ls,h.E.T.li⟩,h.E.ms,h.E.mi,h.E.wn,h.E.nd,h.E.wl,h.E.n5,h.E.pw,h.E.nb,h.E.nm⟩,h.B.put h.fw,by rw[ag (nd h.hr)];exact h.hr,h.fr,h.nr,h.xr,h.ro.keep k,h.ck,h.kl,ab,h.fw,h.nw,h.xw,hc.keep k,hl⟩
theorem gF.setR {p r:Addr} {c:Str} {bs:List (Addr × Wx)} (h:gF H H' d l a pa tn na va ra p ws ns mS mI kvs bs) (hc:c∈ws) (hr:H' r=some (.tup (rs.map V.int))) (hg:gv ns rs) (hl:kvs.length≤12):gF H (upd H' ra (.dK (br kvs (Sum.inr c) (.ref r)))) d l a pa tn na va ra p ws ns mS mI (br kvs (Sum.inr c) (.ref r)) bs:=by
 have k:=vI (o:=.dK (br kvs (Sum.inr c) (.ref r))) h.hr;have nl : ∀{x:Addr} {ys:List V},H' x=some (.lst ys)→x≠ra:=fun e=>bq e h.hr (by intro z;cases z)
 exact⟨⟨h.E.D.put h.nr.1 h.nr.2,h.E.n1,h.E.n2,h.E.n3,h.E.n4,by rw[ag (nl h.E.ha)];exact h.E.ha,by rw[ag (nl h.E.hp)];exact h.E.hp,⟨k _ _ h.E.T.ht,by rw[ag h.xr.1.symm];exact h.E.T.hn,by rw[ag h.xr.2.symm];exact h.E.T.hv,h.E.T.ps,h.E.T.pi,h.E.T.ls,h.E.T.li⟩,h.E.ms,h.E.mi,h.E.wn,h.E.nd,h.E.wl,h.E.n5,h.E.pw,h.E.nb,h.E.nm⟩,h.B.put h.fr,ab,h.fr,h.nr,h.xr,(h.ro.put hc hr hg).keep k,fun c' hc'=>(jL _).mpr (.inr (h.ck c' hc')),le_trans (cV _ _ _) (by omega),by rw[ag (nl h.hw)];exact h.hw,h.fw,h.nw,h.xw,h.wo.keep k,h.wl⟩
theorem sj {k:Key} {v:V} : ∀{l:List (Key × V)},bu l k=some v→(k,v)∈l
 | [],h=>by cases h
 | x :: l,h=>by
  by_cases e:x.1=k
  ·rw[aZ e] at h
   rw[← e,← Option.some.inj h];exact mem_cons_self
  ·rw[aP e] at h
   exact mem_cons_of_mem _ (sj h)
theorem vK (ro:lq H' kvs ws ns) (ck : ∀c∈ws,Sum.inr c∈kvs.map (·.1)) {c:Str} (hc:c∈ws) : ∃b r,bu kvs (Sum.inr c)=some (.ref b)∧H' b=some (.tup (r.map V.int))∧gv ns r:=by
 have hs:=cF.mpr (ck c hc);cases hv:bu kvs (Sum.inr c) with
 | none=>rw[hv] at hs;cases hs
 | some x =>
  have hm:(Sum.inr c,x)∈kvs:=sj hv
  obtain⟨c',b,r,e,_,h2,h3⟩:=ro _ hm;cases e;exact⟨b,r,rfl,h2,h3⟩
theorem vJ (E:kQ H' d l a pa tn na va ws ns mS mI) (hr:H' ra=some (.dK kvs)) (nr:ra≠d∧ra≠l) (ro:lq H' kvs ws ns) (ck : ∀c∈ws,Sum.inr c∈kvs.map (·.1)) : ∃rm:Str→List Int,gj H' d l a ra pa ws ns kvs rm:=by
 classical
 have key : ∀c,∃r:List Int,c∈ws→(∃b,bu kvs (Sum.inr c)=some (.ref b)∧H' b=some (.tup (r.map V.int)))∧gv ns r:=fun c=>by
  by_cases hc:c∈ws
  ·obtain⟨b,r,h1,h2,h3⟩:=vK ro ck hc
   exact⟨r,fun _=>⟨⟨b,h1,h2⟩,h3⟩⟩
  ·exact⟨[],fun z=>absurd z hc⟩
 obtain⟨rm,hrm⟩:=Classical.axiomOfChoice key;exact⟨rm,E.D,E.n1,nr,E.n2,E.ha,hr,E.hp,fun c hc=>(hrm c hc).1,E.wn,E.nd,E.wl,E.n5,E.pw.imp fun z=>by omega,E.nm,fun c hc=>⟨(hrm c hc).2.1,(hrm c hc).2.2.1,fun v hv=>E.nb v ((hrm c hc).2.2.2.2 v hv)⟩⟩
theorem zK {p q:Addr} {bs:List (Addr × Wx)} {Q:VK} (h:H p=some (.lst (rfs bs))) (h0:H q=some (.lst [])) (wo:uc H bs ws ns) (nm : ∀c∈ws,cb c) (k:Q (.bl (!decide (bs=[]))) H):DM K (.ref p) (.ref q) H Q:=by
 have pw:kb H bs:=fun x hx=>⟨(wo x hx).1,A9 fun c hc=>nm c (qe (wo x hx).2 c hc)⟩
 obtain⟨rp,ly⟩:=pw.reps (K:=K);have hd:PyData.depthAll (pD bs)≤8:=nZ fun x hx=>(pw x hx).2.2
 refine⟨.list (pD bs),.list [],.lst (.of h) rp,.lst (.of h0) .nil,by rw[PyData.canLay0];exact ly,rfl,by rw[PyData.depth];omega,?_⟩
 have e:PyData.eqv (.list (pD bs)) (.list [])=decide (bs=[]):=by
  cases bs with
  | nil=>rfl
  | cons x bs=>simp[PyData.eqv,PyData.eqvAll]
 rw[e];exact k
theorem qI {f:α→β} {a b:List β} (h:a.Perm b) : ∀{l:List α},b=l.map f→∃l':List α,l'.Perm l∧a=l'.map f:=by
 induction h with
 | nil=>intro l e;cases l with
  | nil=>exact⟨[],.nil,rfl⟩
  | cons x l=>cases e
 | cons x h ih =>
  intro l e;cases l with
  | nil=>cases e
  | cons y l =>
   rw[map_cons,List.cons.injEq] at e;obtain⟨l',h1,h2⟩:=ih e.2;exact⟨y :: l',h1.cons y,by rw[e.1,h2,map_cons]⟩
 | swap x y l0 =>
  intro l e
  match l,e with
  | [],e=>cases e
  | [z],e=>cases e
  | z :: u :: l,e =>
   simp only[map_cons,List.cons.injEq] at e;exact⟨u :: z :: l,.swap z u l,by rw[e.1,e.2.1,e.2.2];rfl⟩
 | trans h1 h2 ih1 ih2 =>
  intro l e;obtain⟨l',a1,a2⟩:=ih2 e;obtain⟨l2,b1,b2⟩:=ih1 a2;exact⟨l2,b1.trans a1,b2⟩
theorem ua {f:α→β} {got rest:List β} {l:List α} (h:(got++rest).Perm (l.map f)) (hl:l.length≤got.length) : ∃l':List α,l'.Perm l∧got=l'.map f:=by
 have e:=h.length_eq;rw[length_append,length_map] at e;have:rest=[]:=length_eq_zero_iff.mp (by omega)
 subst this;rw[append_nil] at h;exact qI h rfl
noncomputable def Gn:Sp:=fun vs H Q _=>∃(d l:Addr) (mc:Int),vs=[.ref d,.int mc]∧aD H d l∧1≤mc∧mc≤12∧bM H ∧
 ∀(r p c t tn na va pa:Addr) (cs:List (Addr × Str × Addr × List Int)) (us:List V) (Ws:List Wx) (ws:List Str) (ns:List Int) (mS:List (Str × Str)) (mI:List (Int × Int)) (H':Hp),H' r=some (.lst [.ref p,.ref tn,.ref pa])→iJ H' p c t cs us Ws ws ns→bH H' tn na va mS mI→(∀x∈mS,x.1∈ws)→(∀x∈mI,x.1∈ns)→H' pa=some (.lst (ns.map V.int))→(pa≠d∧pa≠l)→(na≠d∧na≠l)→(va≠d∧va≠l)→ns.length=5→ns.Pairwise (· < ·)→(cs.map (·.2.1)).Perm ws→(∀x∈cs,gv ns x.2.2.2)→(ws.length:Int)≤mc→el ws→aD H' d l→But d l H H'→Q (.ref r) H'
abbrev Dq:=Fn P w K mg base "_law_even_hall" 18 ["_law_deal_here","_law_most"] (Gn)
theorem jv (T:Txt w K mg base) (L:FnL K mg "_law_even_hall" cz ["_law_deal_here","_law_most"]) (Fa : @Dz0 P w K mg base) (FR : @Dz2 P w K mg base) (FV:Fn P w K mg base "_law_pool" 2 ["_law_deal_here"] (wq)) (Fk : @CB P w K mg base) (Fb : @Dz4 P w K mg base) (Fx : @DJ P w K mg base) (Fv : @DC P w K mg base) (FQ:Fn P w K mg base "_law_wish" 15 ["_law_deal_here","_law_names_here","_law_rooms_here","_law_pool_here","_law_sorts"] (ij false)) : @Dq P w K mg base:=by
 ctx_has z jx <;> obtain⟨d,l,mc,rfl,D,c0,c1,tb,k⟩:=h
 ·rfl
 refine⟨_,(af (aC 2 (ah FR (aa (pvM 0) (aa (aN bw ae (ah Fa (aa (pvM 0) (aa (pvM 1) ac)))) ac))))
  (af (aC 3 (ah FV (aa (pvM 0) ac)))
  (af (aC 4 (aE (aa (ah Fk (aa (pvM 0) (aa (pvM 2) ac))) (aa (ah Fk (aa (pvM 0) (aa (ah Fb (aa (pvM 0) (aa (pvM 3) (aa ae ac)))) ac))) ac))))
  (bP (aK (ay aR (ah Fa (aa (pvM 0) (aa ae ac))) ae) (ai (aC 4 (aE (aa (ak ap (pvM 4) ae) (aa cj ac))))) az)
  (af (aC 5 (ah Fx (aa (pvM 0) (aa (pvM 2) (aa (pvM 3) (aa (pvM 4) ac))))))
  (af (aC 6 (ah Fv (aa (pvM 0) (aa (pvM 2) (aa (pvM 5) (aa (pvM 3) (aa (pvM 4) ac)))))))
  (af (aC 7 (ah Fa (aa (pvM 0) (aa ae ac))))
  (bP (aK (PW.pt (gh (ay aR (pvM 7) ae) (gg (ay (qW (pQ hr)) (pvM 6) (bA ac))))) (ai (bU (eG PySem.F.slot_list_pop PySem.F.type_list_pop rX (pvM 6) (aa (ah Fa (aa (pvM 0) (aa (aG bj T.b_len (aa (pvM 6) ac)) ac))) ac)))) az)
  (bP (aK (PW.pt (gh (ay aR (pvM 7) ae) (gg (ay (qW (pQ hr)) (pvM 6) (bA ac))))) (ai (bU (eG PySem.F.slot_list_append PySem.F.type_list_append bN (pvM 6) (aa (ak fI (pvM 6) (ah Fa (aa (pvM 0) (aa (aG bj T.b_len (aa (pvM 6) ac)) ac)))) ac)))) az)
  (bP (aK (ay aR (pvM 7) ae) (ai (gG hu (pvM 5) (ak fI (pvM 2) (ah Fa (aa (pvM 0) (aa (aG bj T.b_len (aa (pvM 2) ac)) ac)))) (aE (aa (ak fI (pvM 3) (ah Fa (aa (pvM 0) (aa ae ac)))) ac)) rfl)) az)
  (bP (aK (ay aR (pvM 7) ae) (ai (bU (eG PySem.F.slot_list_append PySem.F.type_list_append bN (pvM 6) (aa (ah FQ (aa (pvM 0) (aa (pvM 2) (aa (pvM 5) (aa (pvM 3) (aa (bA (aa au (aa au (aa au (aa au (aa au (aa au ac))))))) ac)))))) ac)))) az)
  (af (aC 6 (ah Fb (aa (pvM 0) (aa (pvM 6) (aa (aG bj T.b_len (aa (pvM 6) ac)) ac)))))
  (af (cg 8 (N:=["_law_name","_law_rooms_here"]) (nt:=1) (js:=[5]) (aI ["_law_deal_here","_law_most","_law_names_here","_law_pool_here","_law_turning","_law_rooms_here","_law_wishes","_law_way_here","_law_cells"] (am cz).names) (cU K (ah Fb (aa (pvM 0) (aa (pvM 2) (aa (aG bj T.b_len (aa (pvM 2) ac)) ac))))) (aB 0) aQ aV (aE (aa (pvM 0) (aa (gw hu (pvM 1) (pvM 0)) ac))))
  (ai (aA (bA (aa (aE (aa (aF aM T.b_tuple (aa (pvM 8) ac)) (aa (pvM 6) ac))) (aa (pvM 4) (aa (pvM 3) ac))))))))))))))))))),?_⟩
 ctx_has v kX
 refine aS D (by omega) (by omega) fun x1 H1 x10 x11 D1 B1=>?_
 refine⟨_,rfl,d,l,_,rfl,D1,by omega,by omega,fun a ws H2 fa ok hws h2 D2 B2=>?_⟩
 have n1:=D1.ne fa;refine⟨d,l,rfl,D2,fun pa ns H3 fpa hn5 hpw hnb h3p D3 B3=>?_⟩
 have n2:=D2.ne fpa;have h3:=B3 a _ n1.1 n1.2 h2;have hwl:ws.length≤12∧1≤ws.length:=by omega
 refine wL D3 (.inl h3) ok.nd (by omega) fun na mS H4 fna h4n hpS hmS hlS D4 B4=>?_
 have n3:=D3.ne fna;have h4p:=B4 pa _ n2.1 n2.2 h3p;have hnn:ns.Nodup:=hpw.imp fun h=>by omega
 refine⟨d,l,pa,0,_,rfl,D4,.inl h4p,by decide,by simp,by rw[length_map];omega,fun sp got rest H5 fsp hperm _ h5s D5 B5=>?_⟩
 obtain⟨is,rfl,hin,his,hil⟩:=xC hperm;refine vO D5 (.inr h5s) (hin hnn) (by omega) fun va mI H6 fva h6v hpI hmI hlI D6 B6=>⟨by decide,fun tn htn=>?_⟩
 have n4:=D5.ne fva;have B26:But d l H2 H6:=((B3.trans B4).trans B5).trans B6
 have hnm : ∀c∈ws,cb c:=ok.nm
 have s7:=ao.upd0 (o:=.tup [.ref na,.ref va]) htn;have E7:kQ (upd H6 tn (.tup [.ref na,.ref va])) d l a pa tn na va ws ns mS mI :=
  ⟨D6.same s7,n1,n2,n3,n4,s7 _ _ (B26 a _ n1.1 n1.2 h2),s7 _ _ (B6 pa _ n2.1 n2.2 (B5 pa _ n2.1 n2.2 h4p)),⟨ab,s7 _ _ (B6 na _ n3.1 n3.2 (B5 na _ n3.1 n3.2 h4n)),s7 _ _ h6v,hpS,hpI,hlS,hlI⟩,hmS,fun x hx=>his _ (hmI x hx),fun e=>by rw[e] at hwl;simp at hwl,ok.nd,hwl.1,hn5,hpw,hnb,hnm⟩
 have B07:But d l H (upd H6 tn (.tup [.ref na,.ref va])):=((B1.trans B2).trans B26).same s7
 have hwmc:(ws.length:Int)≤mc:=by omega
 generalize upd H6 tn (.tup [.ref na,.ref va])=H7 at E7 B07 s7 ⊢;clear s7 B26 B6 B5 B4 B3 B2 B1 D6 D5 D4 D3 D2 D1 h2 h3 h4p h4n h5s h6v hperm h3p fa fpa fna fsp fva htn;refine⟨fun σ H'=>∃tn va mI,σ=[some (.ref d),some (.int mc),some (.ref a),some (.ref pa),some (.ref tn),none,none,none,none]∧kQ H' d l a pa tn na va ws ns mS mI∧But d l H H',?_,?_⟩
 ·ctx_has v
  refine aS E7.D (by decide) (by decide) fun x8 H8 x80 x81 D8 B8=>?_
  have E8:=E7.but D8 B8;have B08:=B07.trans B8;have e8:=E8.T.ht;ctx_has v e8
  refine cW (fun h=>fun p9 hp9=>⟨by decide,fun t9 ht9=>⟨p9,[],?_,?_⟩⟩) (fun h=>⟨_,_,E8,B08⟩)
  ·have s9:=(ao.upd0 (o:=.dK []) hp9).upd_new (o:=.tup [.ref na,.ref p9]) ht9
   have E9:=E8.same s9;have pt:p9≠t9:=fun z=>by rw[← z,ab] at ht9;cases ht9
   exact⟨E9.D,E9.n1,E9.n2,E9.n3,E8.D.ne hp9,E9.ha,E9.hp,⟨ab,E9.T.hn,by rw[ag pt];exact ab,E9.T.ps,⟨by simp,by simp⟩,E9.T.ls,by decide⟩,E9.ms,by simp,E9.wn,E9.nd,E9.wl,E9.n5,E9.pw,E9.nb,E9.nm⟩
  ·exact B08.same ((ao.upd0 hp9).upd_new ht9)
 clear E7 B07 hpI hmI hlI his hin hil n4;rintro σ H8 ⟨tn,va,mI,rfl,E8,B08⟩
 ctx_has v kX
 refine⟨d,l,a,pa,tn,na,va,ws,ns,mS,mI,rfl,E8,fun ra kvs H9 fra h9r hro hck hkl D9 B9=>?_⟩
 have nra:=E8.D.ne fra;have E9:=E8.but D9 B9;obtain⟨rm,F9⟩:=vJ E9 h9r nra hro hck;have B09:=B08.trans B9;refine⟨d,l,a,ra,pa,tn,na,va,ws,ns,mS,mI,kvs,rm,rfl,tb.but D B09,E9,F9,fun p bs H10 fp h10p hwo hbl D10 B10=>?_⟩
 have np:=E9.D.ne fp;have B010:=B09.trans B10;have fra0:H ra=none:=by
  cases e:H ra with
  | none=>rfl
  | some u=>rw[B08 ra u nra.1 nra.2 e] at fra;cases fra
 have fp0:H p=none:=by
  cases e:H p with
  | none=>rfl
  | some u=>rw[B09 p u np.1 np.2 e] at fp;cases fp
 have G10:gF H H10 d l a pa tn na va ra p ws ns mS mI kvs bs :=
  ⟨E9.but D10 B10,B010,B10 _ _ nra.1 nra.2 h9r,fra0,nra,⟨(aj E8.T.hn fra).symm,(aj E8.T.hv fra).symm⟩,hro.keep fun b xs e=>B10.tup D9 e,hck,by omega,h10p,fp0,np,⟨(aj E9.ha fp).symm,(aj E9.hp fp).symm⟩,hwo,by omega⟩
 clear hwo hro F9 E9 E8 h10p h9r B10 B9 B010 B09 B08 fra fp hck;refine aS G10.E.D (by decide) (by decide) fun wy H11 y0 y1 D11 B11=>⟨rfl,?_⟩
 have G11:=G10.but D11 B11;clear G10 D11 B11 D10 D9;refine⟨fun σ H'=>∃bs,σ=[some (.ref d),some (.int mc),some (.ref a),some (.ref pa),some (.ref tn),some (.ref ra),some (.ref p),some (.int wy),none]∧gF H H' d l a pa tn na va ra p ws ns mS mI kvs bs∧bs.length≤14,?_,?_⟩
 ·refine cW (fun h=>⟨by decide,fun p12 hp12=>?_⟩) (fun h=>⟨bs,rfl,G11,hbl⟩)
  have G12:=G11.same (ao.upd0 (o:=.lst []) hp12);refine zK G12.hw ab G12.wo G12.E.nm ⟨_,rfl,?_⟩
  by_cases hb:bs=[]
  ·rw[decide_eq_true hb,if_neg (by decide)]
   exact⟨bs,rfl,G12,hbl⟩
  ·rw[decide_eq_false hb,if_pos (by decide)]
   have hpos:0 < bs.length:=length_pos_iff.mpr hb
   refine⟨p,rfl,⟨_,G12.hw⟩,_,G12.hw,aS G12.E.D (by rw[length_map];omega) (by rw[length_map];omega) fun i H13 i0 i1 D13 B13=>?_⟩
   have G13:=G12.but D13 B13;rw[length_map] at i1;refine⟨i,rfl,_,G13.hw,i0,by rw[length_map];exact i1,by rw[length_map];omega,fun y hy=>⟨bs.eraseIdx i.toNat,rfl,?_,le_trans (List.length_eraseIdx_le _ _) hbl⟩⟩
   rw[hJ];exact G13.setW (fun x hx=>G13.wo x (List.mem_of_mem_eraseIdx hx)) (le_trans (List.length_eraseIdx_le _ _) (by omega))
 clear G11;rintro σ H12 ⟨bs,rfl,G12,hbl⟩
 ctx_has v kX
 refine⟨fun σ H'=>∃bs,σ=[some (.ref d),some (.int mc),some (.ref a),some (.ref pa),some (.ref tn),some (.ref ra),some (.ref p),some (.int wy),none]∧gF H H' d l a pa tn na va ra p ws ns mS mI kvs bs∧bs.length≤15,?_,?_⟩
 ·refine cW (fun h=>⟨by decide,fun p13 hp13=>?_⟩) (fun h=>⟨bs,rfl,G12,by omega⟩)
  have G13:=G12.same (ao.upd0 (o:=.lst []) hp13);refine zK G13.hw ab G13.wo G13.E.nm ⟨_,rfl,?_⟩
  by_cases hb:bs=[]
  ·rw[decide_eq_true hb,if_neg (by decide)]
   exact⟨bs,rfl,G13,by omega⟩
  ·rw[decide_eq_false hb,if_pos (by decide)]
   have hpos:0 < bs.length:=length_pos_iff.mpr hb
   refine⟨⟨_,G13.hw⟩,_,G13.hw,aS G13.E.D (by rw[length_map];omega) (by rw[length_map];omega) fun i H14 i0 i1 D14 B14=>?_⟩
   have G14:=G13.but D14 B14;obtain⟨v,hv,hvm⟩:=jz (xs:=rfs bs) i0 i1;obtain⟨y,hy,rfl⟩:=mem_map.mp hvm;refine⟨i,rfl,_,G14.hw,_,hv,_,G14.hw,by rw[length_map];exact ax (by omega),bs++[y],rfl,?_,by simp;omega⟩
   rw[show rfs bs++[V.ref y.1]=rfs (bs++[y]) by simp]
   exact G14.setW (fun x hx=>by
    rcases mem_append.mp hx with z | z
    ·exact G14.wo x z
    ·rw[mem_singleton.mp z];exact G14.wo y hy) (by simp;omega)
 clear G12;rintro σ H12 ⟨bs,rfl,G12,hbl⟩
 ctx_has v kX
 refine⟨fun σ H'=>∃kvs,σ=[some (.ref d),some (.int mc),some (.ref a),some (.ref pa),some (.ref tn),some (.ref ra),some (.ref p),some (.int wy),none]∧gF H H' d l a pa tn na va ra p ws ns mS mI kvs bs,?_,?_⟩
 ·refine cW (fun h=>?_) (fun h=>⟨_,rfl,G12⟩)
  refine aS G12.E.D (by decide) (by decide) fun i H13 i0 i1 D13 B13=>?_
  have G13:=G12.but D13 B13;obtain⟨v,hv,hvm⟩:=jz (xs:=ns.map V.int) i0 (by rw[length_map,hn5];exact i1)
  obtain⟨n,hn,rfl⟩:=mem_map.mp hvm;refine⟨i,rfl,_,G13.E.hp,_,hv,by decide,fun p14 hp14=>?_⟩
  have G14:=G13.same (ao.upd0 (o:=.tup [.int n]) hp14);refine⟨_,G14.E.ha,aS G14.E.D (by rw[length_map];omega) (by rw[length_map];omega) fun j H15 j0 j1 D15 B15=>?_⟩
  have G15:=G14.but D15 B15;obtain⟨v2,hv2,hvm2⟩:=jz (xs:=ws.map V.str) j0 j1;obtain⟨c,hc,rfl⟩:=mem_map.mp hvm2;exact⟨j,rfl,_,G15.E.ha,_,hv2,Sum.inr c,rfl,_,G15.hr,ax (by omega),_,rfl,G15.setR (rs:=[n]) hc (B15.tup G14.E.D ab) ⟨by simp,by simp,by simp,fun v hv=>by rw[mem_singleton.mp hv];exact hn⟩ hkl⟩
 clear G12;rintro σ H12 ⟨kvs,rfl,G12⟩
 ctx_has v kX
 refine⟨fun σ H'=>∃bs,σ=[some (.ref d),some (.int mc),some (.ref a),some (.ref pa),some (.ref tn),some (.ref ra),some (.ref p),some (.int wy),none]∧gF H H' d l a pa tn na va ra p ws ns mS mI kvs bs∧bs.length≤16,?_,?_⟩
 ·refine cW (fun h=>⟨⟨_,G12.hw⟩,by decide,fun so hso=>?_⟩) (fun h=>⟨bs,rfl,G12,by omega⟩)
  have G13:=G12.same (ao.upd0 (o:=.lst ((fo false).map V.str)) hso);obtain⟨rm,F⟩:=vJ G13.E G13.hr G13.nr G13.ro G13.ck;refine⟨d,l,a,ra,pa,so,ws,ns,kvs,rm,rfl,F,G12.E.D.ne hso,ab,fun w W H14 hW hok _ D14 B14=>?_⟩
  have G14:=G13.but D14 B14;refine⟨_,G14.hw,by rw[length_map];exact ax (by omega),bs++[(w,W)],rfl,?_,by simp;omega⟩
  rw[show rfs bs++[V.ref w]=rfs (bs++[(w,W)]) by simp]
  exact G14.setW (fun x hx=>by
   rcases mem_append.mp hx with z | z
   ·exact G14.wo x z
   ·rw[mem_singleton.mp z];exact⟨hW,hok⟩) (by simp;omega)
 clear G12 hbl bs;rintro σ H12 ⟨bs,rfl,G12,hbl⟩
 have g1:=G12.hw;ctx_has v g1
 refine⟨d,l,p,_,_,rfl,G12.E.D,.inl g1,by simp,Int.le_refl _,by rw[length_map];omega,fun tw got rest H13 ftw hperm hgl h13 D13 B13=>?_⟩
 have G13:=G12.but D13 B13;have g2:=G13.E.ha;ctx_has v g2
 refine⟨d,l,a,_,_,rfl,G13.E.D,.inl g2,by simp,Int.le_refl _,by rw[length_map];omega,fun tc got2 rest2 H14 ftc hperm2 hgl2 h14 D14 B14=>⟨tc,rfl,_,h14,fun Dl hDl=>?_⟩⟩
 have G14:=G13.but D14 B14;have ntw:=G12.E.D.ne ftw;have h14w:=B14 _ _ ntw.1 ntw.2 h13;obtain⟨nl,hnl,rfl⟩:=ua hperm2 (by rw[length_map] at hgl2;omega)
 obtain⟨cl,hcl,e0⟩:=ua (f:=fun x:Addr × Wx=>V.ref x.1) hperm (by rw[length_map] at hgl;omega)
 subst e0;have hnll:nl.length=ws.length:=hnl.length_eq
 refine cP aW (fun i xs H'=>∃cs:List (Addr × Str × Addr × List Int),xs=(cs.map fun x=>V.ref x.1)∧cs.map (·.2.1)=nl.take i∧(∀x∈cs,H' x.1=some (.tup [.str x.2.1,.ref x.2.2.1])∧H' x.2.2.1=some (.tup (x.2.2.2.map V.int))∧gv ns x.2.2.2)∧ao H14 H'∧H' Dl=some (.lst xs)) ⟨[],rfl,rfl,(fun x hx=>by cases hx),ao.upd0 hDl,ab⟩ (fun i xs H' zq59=>by obtain⟨_,_,_,_,s,_⟩:=zq59;exact(.of (s _ _ h14))) ?_ ?_
 ·rintro i x xs H15 hi hx ⟨cs,rfl,hcn,hca,s15,h15⟩
  obtain⟨c,hci,rfl⟩ : ∃c,nl[i]? = some c∧V.str c=x:=by
   rw[List.getElem?_map] at hx;cases e:nl[i]? with
   | none=>rw[e] at hx;cases hx
   | some c=>rw[e] at hx;exact⟨c,rfl,Option.some.inj hx⟩
  have hcw:c∈ws:=hnl.mem_iff.mp (mem_of_getElem? hci)
  have hcl':cs.length≤i:=by
   have:=congrArg List.length hcn
   rw[length_map,length_take] at this;omega
  have hil:i < nl.length:=(List.getElem?_eq_some_iff.mp hci).1
  obtain⟨rb,rr,hvr,hrb,hgr⟩:=vK G14.ro G14.ck hcw;have h15r:=s15 _ _ G14.hr;have h15b:=s15 _ _ hrb;ctx_has v h15r hvr
  refine⟨by decide,fun q hq=>?_⟩
  have hk:=cE (o:=.lst ((cs.map fun x=>V.ref x.1)++[V.ref q])) (ao.upd0 (o:=.tup [.str c,.ref rb]) hq _ _ h15)
  have kk : ∀a xs,H15 a=some (.tup xs)→upd (upd H15 q (.tup [.str c,.ref rb])) Dl (.lst ((cs.map fun x=>V.ref x.1)++[V.ref q])) a=some (.tup xs):=fun a xs e=>hk _ _ (ao.upd0 hq _ _ e)
  refine⟨ao.upd0 hq _ _ h15,by rw[length_map];exact ax (by omega),cs++[(q,c,rb,rr)],by simp,by rw[map_append,hcn,take_add_one,hci];rfl,fun x hx=>?_,(s15.upd_new hq).putN hDl,ab⟩
  rcases mem_append.mp hx with z | z
  ·obtain⟨a1,a2,a3⟩:=hca x z
   exact⟨kk _ _ a1,kk _ _ a2,a3⟩
  ·rw[mem_singleton.mp z]
   exact⟨hk _ _ ab,kk _ _ h15b,hgr⟩
 ·rintro xs H15 ⟨cs,rfl,hcn,hca,s15,h15⟩
  rw[length_map,take_length] at hcn;have hcsl:cs.length=ws.length:=by rw[← hnll,← hcn,length_map]
  refine⟨Dl,rfl,_,h15,fun pc hpc=>⟨by decide,fun pp hpp=>⟨by decide,fun pr hpr=>?_⟩⟩⟩
  have s16:ao H14 (upd (upd (upd H15 pc (.tup (cs.map fun x=>V.ref x.1))) pp (.tup [.ref pc,.ref tw])) pr (.lst [.ref pp,.ref tn,.ref pa])):=((s15.upd_new hpc).upd_new hpp).upd_new hpr
  have s15':ao H15 (upd (upd (upd H15 pc (.tup (cs.map fun x=>V.ref x.1))) pp (.tup [.ref pc,.ref tw])) pr (.lst [.ref pp,.ref tn,.ref pa])):=((ao.upd0 hpc).upd_new hpp).upd_new hpr
  have g1:upd (upd (upd H15 pc (.tup (cs.map fun x=>V.ref x.1))) pp (.tup [.ref pc,.ref tw])) pr (.lst [.ref pp,.ref tn,.ref pa]) pr=some (.lst [.ref pp,.ref tn,.ref pa]):=ab
  have g2:upd (upd (upd H15 pc (.tup (cs.map fun x=>V.ref x.1))) pp (.tup [.ref pc,.ref tw])) pr (.lst [.ref pp,.ref tn,.ref pa]) pp=some (.tup [.ref pc,.ref tw]):=(ao.upd0 hpr) _ _ ab
  have g3:upd (upd (upd H15 pc (.tup (cs.map fun x=>V.ref x.1))) pp (.tup [.ref pc,.ref tw])) pr (.lst [.ref pp,.ref tn,.ref pa]) pc=some (.tup (cs.map fun x=>V.ref x.1)):=((ao.upd0 hpp).upd_new hpr) _ _ ab
  generalize upd (upd (upd H15 pc (.tup (cs.map fun x=>V.ref x.1))) pp (.tup [.ref pc,.ref tw])) pr (.lst [.ref pp,.ref tn,.ref pa])=G at s16 s15' g1 g2 g3 ⊢
  have GG:=G14.same s16;refine k pr pp pc tw tn na va pa cs _ (cl.map (·.2)) ws ns mS mI G g1 ⟨g2,g3,fun x hx=>⟨s15' _ _ (hca x hx).1,s15' _ _ (hca x hx).2.1⟩,?_,by omega,fun x hx=>?_,s16 _ _ h14w,⟨cl,rfl,rfl,fun x hx=>(GG.wo x (hcl.mem_iff.mp hx)).1⟩,fun W hW=>?_,GG.E.nm,?_⟩ GG.E.T GG.E.ms GG.E.mi GG.E.hp GG.E.n2 GG.E.n3 GG.E.n4 GG.E.n5 GG.E.pw (by rw[hcn];exact hnl) (fun x hx=>(hca x hx).2.2) (by omega) ok GG.E.D GG.B
  ·rw[hcn];exact hnl.nodup_iff.mpr GG.E.nd
  ·have:=(hca x hx).2.2.2.1
   omega
  ·obtain⟨y,hy,rfl⟩:=mem_map.mp hW
   exact(GG.wo y (hcl.mem_iff.mp hy)).2
  ·rw[length_map,hcl.length_eq];omega
theorem vW (mI:List (Int × Int)):idI (swp mI)=idI mI:=by
 unfold idI swp;rw[all_map]
 congr 1
 funext x
 show decide (x.2=x.1)=decide (x.1=x.2)
 rw[Bool.eq_iff_iff,decide_eq_true_eq,decide_eq_true_eq];exact⟨Eq.symm,Eq.symm⟩
theorem de  [DecidableEq α] {m:List (α × α)} (h:PM m) (l:List α):(l.map (ld m)).map (ld (swp m))=l:=by
 rw[map_map]
 conv=>rhs;rw[← map_id l]
 exact map_congr_left fun x _=>jC h x
theorem ni (hS:PM mS) (hI:PM mI) {W W':Wi} (h:bx mS mI W=some W'):bx (swp mS) (swp mI) W'=some W:=by
 cases W with
 | un cs=>cases h;unfold bx;dsimp only;rw[de hS]
 | mn av cs lo hi=>cases h;unfold bx;dsimp only;rw[de hS,de hI]
 | sm ts lo hi =>
  unfold bx at h;dsimp only at h
  split at h
  ·rename_i hid
   cases h;unfold bx;dsimp only;rw[vW,if_pos hid,map_map]
   congr 2
   conv=>rhs;rw[← map_id ts]
   exact map_congr_left fun x _=>by show(x.1,ld (swp mS) (ld mS x.2))=x;rw[jC hS]
  ·cases h
 | tb cs rows =>
  cases h;unfold bx;dsimp only;rw[de hS,map_map]
  congr 2
  conv=>rhs;rw[← map_id rows]
  exact map_congr_left fun r _=>de hI r
 | wy cs ps es =>
  cases h;unfold bx;dsimp only;rw[de hS,map_map]
  congr 2
  conv=>rhs;rw[← map_id ps]
  exact map_congr_left fun x _=>by show(x.1,ld (swp mI) (ld mI x.2.1),x.2.2)=x;rw[jC hI]
 | bh cs gap =>
  unfold bx at h;dsimp only at h
  split at h
  ·rename_i hid
   cases h;unfold bx;dsimp only;rw[vW,if_pos hid,de hS]
  ·cases h
theorem uB (hS:PM mS) (hI:PM mI) {W W':Wx} (h:bB mS mI W=some W'):bB (swp mS) (swp mI) W'=some W:=by
 cases W with
 | pl W =>
  obtain⟨V',hv,rfl⟩:=map_eq_some_iff.mp h
  show(bx _ _ V').map _=_
  rw[ni hS hI hv];rfl
 | sa c vs W =>
  obtain⟨V',hv,rfl⟩:=map_eq_some_iff.mp h
  show(bx _ _ V').map _=_
  rw[ni hS hI hv,jC hS,de hI];rfl
theorem lS {f:α→β} (hf : ∀a b,f a=f b→a=b) {l m:List α} (h:l.map f=m.map f):l=m:=(List.map_inj_right hf).mp h
theorem xQ {a b:Option Int} (h:bD a=bD b):a=b:=by
 cases a <;> cases b <;> simp[bD] at h ⊢
 exact h
theorem dI {l m:List Int} (h:l.map PyData.int=m.map PyData.int):l=m:=lS (fun _ _ e=>PyData.int.inj e) h
theorem dS {l m:List Str} (h:l.map PyData.str=m.map PyData.str):l=m:=lS (fun _ _ e=>PyData.str.inj e) h
theorem dT {l m:List PyData} (h:PyData.tuple l=PyData.tuple m):l=m:=PyData.tuple.inj h
theorem pB : ∀{W V:Wi},cB W=cB V→W=V:=by
 intro W V h;cases W <;> cases V <;> simp only[cB,PyData.tuple.injEq,List.cons.injEq,PyData.str.injEq,PyData.int.injEq,reduceCtorEq,and_false,false_and,and_true,true_and] at h <;> try (first | exact absurd h.1 (by decide) | exact absurd h (by decide))
 ·rw[dS h]
 ·rw[dI h.1,dS h.2.1,h.2.2.1,h.2.2.2]
 ·rw[lS (fun a b e=>?_) h.1,xQ h.2.1,xQ h.2.2]
  simp only[PyData.tuple.injEq,List.cons.injEq,PyData.str.injEq,PyData.int.injEq,and_true] at e;exact Prod.ext e.1 e.2
 ·rw[dS h.1,lS (fun a b e=>dI (dT e)) h.2]
 ·rw[dS h.1,lS (fun a b e=>?_) h.2.1,dI h.2.2]
  simp only[PyData.tuple.injEq,List.cons.injEq,PyData.int.injEq,and_true] at e;exact Prod.ext e.1 (Prod.ext e.2.1 e.2.2)
 ·rw[dS h.1,h.2]
theorem xc {W V:Wx} (h:bO W=bO V):W=V:=by
 cases W with
 | pl W =>
  cases V with
  | pl V=>rw[pB h]
  | sa c vs V =>
   exfalso
   cases W <;> simp only[bO,cB,PyData.tuple.injEq,List.cons.injEq,PyData.str.injEq] at h <;> exact absurd h.1 (by decide)
 | sa c vs W =>
  cases V with
  | pl V =>
   exfalso
   cases V <;> simp only[bO,cB,PyData.tuple.injEq,List.cons.injEq,PyData.str.injEq] at h <;> exact absurd h.1 (by decide)
  | sa c2 vs2 V =>
   simp only[bO,PyData.tuple.injEq,List.cons.injEq,PyData.str.injEq,and_true,true_and] at h;rw[h.1,dI h.2.1,pB h.2.2]
theorem wE (f:α→β) {d:α} {e:β} {pl:List Nat} {l:List α} (h : ∀i∈pl,i < l.length):(bv d pl l).map f=bv e pl (l.map f):=by
 unfold bv;rw[map_map];refine map_congr_left fun i hi=>?_
 have:=h i hi
 show f (l.getD i d)=(l.map f).getD i e
 rw[getD_eq_getElem?_getD,getD_eq_getElem?_getD,List.getElem?_map,List.getElem?_eq_getElem this];rfl
theorem Br (ts:List (Int × Str)) (lo hi:Option Int):bx mS mI (.sm ts lo hi)=if idI mI then some (.sm (ts.map fun x=>(x.1,ld mS x.2)) lo hi) else none:=rfl
theorem Ej (cs:List Str) (gap:Int):bx mS mI (.bh cs gap)=if idI mI then some (.bh (cs.map (ld mS)) gap) else none:=rfl
theorem tQ {A B:Wi} (ok:okW ws ns A) (m:qo A B):(bx mS mI A=none∧bx mS mI B=none)∨∃A' B',bx mS mI A=some A'∧bx mS mI B=some B'∧qo A' B':=by
 match A,B,ok,m with
 | .un cs,.un cs',ok,m=>exact .inr ⟨_,_,rfl,rfl,List.Perm.map _ m⟩
 | .mn av cs lo hi,.mn av' cs' lo' hi',ok,m=>exact .inr ⟨_,_,rfl,rfl,m.1.map _,m.2.1.map _,m.2.2.1,m.2.2.2⟩
 | .sm ts lo hi,.sm ts' lo' hi',ok,m =>
  rw[Br,Br];cases h:idI mI with
  | true=>exact .inr ⟨_,_,rfl,rfl,m.1.map _,m.2.1,m.2.2⟩
  | false=>exact .inl ⟨rfl,rfl⟩
 | .tb cs rows,.tb cs' rows',ok,⟨pl,hp,e,hr⟩ =>
  have hi : ∀i∈pl,i < cs.length:=fun i hi=>mem_range.mp (hp.mem_iff.mp hi)
  refine .inr ⟨_,_,rfl,rfl,pl,by rw[length_map];exact hp,by rw[e];exact wE _ hi,?_⟩
  have:(rows.map fun r=>r.map (ld mI)).map (bv 0 pl)=(rows.map (bv 0 pl)).map fun r=>r.map (ld mI):=by
   rw[map_map,map_map];refine map_congr_left fun r hm=>?_
   exact(wE (ld mI) fun i h=>by rw[ok.2.2.1 r hm];exact hi i h).symm
  rw[this];exact hr.map _
 | .wy cs ps es,.wy cs' ps' es',ok,⟨e,p,q⟩=>exact .inr ⟨_,_,rfl,rfl,by rw[e],p.map _,q⟩
 | .bh cs gap,.bh cs' gap',ok,⟨e,g⟩ =>
  subst e;subst g;rw[Ej];cases h:idI mI with
  | true=>exact .inr ⟨_,_,rfl,rfl,rfl,rfl⟩
  | false=>exact .inl ⟨rfl,rfl⟩
theorem tz (W:Wi):bB mS mI (.pl W)=(bx mS mI W).map .pl:=rfl
theorem rQ (c:Str) (vs:List Int) (W:Wi):bB mS mI (.sa c vs W)=(bx mS mI W).map (.sa (ld mS c) (vs.map (ld mI))):=rfl
theorem qb {A B:Wx} (ok:okX ws ns A) (m:uz A B):(bB mS mI A=none∧bB mS mI B=none)∨∃A' B',bB mS mI A=some A'∧bB mS mI B=some B'∧uz A' B':=by
 match A,B,ok,m with
 | .pl A,.pl B,ok,m =>
  rcases tQ (mS:=mS) (mI:=mI) (A:=A) ok m with⟨a,b⟩ | ⟨A',B',a,b,c⟩
  ·exact .inl ⟨by rw[tz,a];rfl,by rw[tz,b];rfl⟩
  ·exact .inr ⟨.pl A',.pl B',by rw[tz,a];rfl,by rw[tz,b];rfl,c⟩
 | .sa c vs A,.sa c' vs' B,ok,⟨e,p,m⟩ =>
  subst e;rcases tQ (mS:=mS) (mI:=mI) (A:=A) ok.2.2.1 m with⟨a,b⟩ | ⟨A',B',a,b,c⟩
  ·exact .inl ⟨by rw[rQ,a];rfl,by rw[rQ,b];rfl⟩
  ·exact .inr ⟨.sa (ld mS c') (vs.map (ld mI)) A',.sa (ld mS c') (vs'.map (ld mI)) B',by rw[rQ,a];rfl,by rw[rQ,b];rfl,rfl,p.map _,c⟩
theorem zq {A B:Wx} (okA:okX ws ns A) (okB:okX w2 n2 B) (e:dP A=dP B) {B':Wx} (h:bB mS mI B=some B') (t : ∀V,bB mS mI A=some V→okX ws ns V) (tB:okX w2 n2 B') : ∃A',bB mS mI A=some A'∧dP A'=dP B':=by
 have e':cL A=cL B:=xc e
 have m1:=iS okA;have m2:=iS okB;rw[← e'] at m2;rcases qb (mS:=mS) (mI:=mI) okB m2 with⟨z,_⟩ | ⟨B2,P',h2,h3,m3⟩
 ·rw[z] at h;cases h
 ·cases Option.some.inj (h.symm.trans h2)
  rcases qb (mS:=mS) (mI:=mI) okA m1 with⟨_,z⟩ | ⟨A',P2,h4,h5,m4⟩
  ·rw[z] at h3;cases h3
  ·cases Option.some.inj (h3.symm.trans h5)
   refine⟨A',h4,?_⟩
   unfold dP;rw[← mw (t A' h4) m4,← mw tB m3]
theorem yD (l m:List PyData) (d:PyData):cn (l++m) d=cn l d+cn m d:=by unfold cn;exact List.count_append
theorem vy : ∀{l m:List PyData},m.length≤l.length→(∀d,cn l d≤cn m d)→l.Perm m
 | [],m,hl,_=>by
  cases m with
  | nil=>exact .nil
  | cons y m=>exact absurd hl (by simp)
 | x :: l,m,hl,h=>by
  have hx:x∈m:=List.count_pos_iff.mp (lt_of_lt_of_le (by show 0 < cn (x :: l) x;rw[gb,if_pos rfl];omega) (h x))
  obtain⟨s,t,rfl⟩:=append_of_mem hx;refine List.Perm.trans (.cons x (vy (m:=s++t) ?_ fun d=>?_)) perm_middle.symm
  ·simp at hl ⊢;omega
  ·have:=h d
   rw[gb,yD,gb] at this;rw[yD];omega
theorem DA {l m:List PyData} (h:l.Perm m) (d:PyData):cn l d=cn m d:=h.count_eq d
theorem rO {α:Type} : ∀{l m:List α},l.Nodup→(∀x∈l,x∈m)→m.length≤l.length→l.Perm m
 | [],m,_,_,hl=>by
  cases m with
  | nil=>exact .nil
  | cons y m=>exact absurd hl (by simp)
 | x :: l,m,hn,h,hl=>by
  rw[nodup_cons] at hn;obtain⟨s,t,rfl⟩:=append_of_mem (h x mem_cons_self);refine List.Perm.trans (.cons x (rO (m:=s++t) hn.2 (fun y hy=>?_) ?_)) perm_middle.symm
  ·have:=h y (mem_cons_of_mem _ hy)
   rcases mem_append.mp this with z | z
   ·exact mem_append_left _ z
   ·rcases mem_cons.mp z with z | z
    ·subst z;exact absurd hy hn.1
    ·exact mem_append_right _ z
  ·simp at hl ⊢;omega
section
variable (hS:PM mS) (hI:PM mI)
include hS in
theorem mZ {ks:List Str} (h : ∀x∈mS,x.1∈ks) : ∀x∈swp mS,x.1∈ks:=fun x hx=>by
 obtain⟨y,hy,rfl⟩:=mem_map.mp hx;obtain⟨z,hz,e⟩:=mem_map.mp (hS.2.mem_iff.mp (mem_map.mpr ⟨y,hy,rfl⟩))
 show y.2∈ks
 rw[← e];exact h z hz
include hS hI in
theorem uM {x:Str × List Int} (hx:x.2.Pairwise (·≤·)):eR (swp mS) (swp mI) (eR mS mI x)=x:=by
 refine Prod.ext (jC hS _) ?_
 refine(mU ?_ hx).symm
 have:=(nI (x.2.map (ld mI))).map (ld (swp mI))
 rw[de hI] at this;exact this.symm
include hS hI in
theorem nj (nd:(ds.map (·.1)).Nodup) (hs : ∀x∈ds,x.2.Pairwise (·≤·)) (h:iq mS mI ds):iq (swp mS) (swp mI) ds:=by
 refine⟨mZ hS h.1,fun x hx=>?_⟩
 have hn:(ds.map (eR mS mI)).Nodup:=(pairwise_map.mp (show((ds.map (eR mS mI)).map (·.1)).Nodup by rw[iA];exact nC hS nd)).imp fun ne e=>ne (by rw[e])
 have hp:=rO hn (fun y hy=>by obtain⟨z,hz,rfl⟩:=mem_map.mp hy;exact h.2 z hz) (by rw[length_map];exact le_refl _)
 obtain⟨z,hz,rfl⟩:=mem_map.mp (hp.mem_iff.mpr hx);rw[uM hS hI (hs z hz)];exact hz
include hS hI in
theorem tY (h1 : ∀c∈ws,ld mS c∈ws) (h2 : ∀v∈ns,ld mI v∈ns) (h3 : ∀c∈ws,ld (swp mS) c∈ws) (h4 : ∀v∈ns,ld (swp mI) v∈ns) : ∀{Ws Vs Us:List Wx},(∀W∈Ws,okX ws ns W)→(∀W∈Us,okX ws ns W)→Ws.map dP=Vs.map dP→Vs.map some=Us.map (bB mS mI)→∃Ts:List Wx,Ws.map (bB (swp mS) (swp mI))=Ts.map some∧Ts.map dP=Us.map dP
 | [],[],[],_,_,_,_=>⟨[],rfl,rfl⟩
 | [],[],_ :: _,_,_,_,e=>by cases e
 | [],_ :: _,_,_,_,e,_=>by cases e
 | _ :: _,[],_,_,_,e,_=>by cases e
 | _ :: _,_ :: _,[],_,_,_,e=>by cases e
 | W :: Ws,V :: Vs,U :: Us,ok,ok2,e,e2=>by
  rw[map_cons,map_cons,List.cons.injEq] at e e2;have hU:=ok2 U mem_cons_self;have hW:=ok W mem_cons_self;have ht:bB mS mI U=some V:=e2.1.symm
  obtain⟨T,t1,t2⟩:=zq hW (fG hS hI h1 h2 hU ht) e.1 (uB hS hI ht) (fun X hX=>fG (cO hS) (cO hI) h3 h4 hW hX) hU
  obtain⟨Ts,a,b⟩:=tY h1 h2 h3 h4 (fun X hX=>ok X (mem_cons_of_mem _ hX)) (fun X hX=>ok2 X (mem_cons_of_mem _ hX)) e.2 e2.2
  exact⟨T :: Ts,by rw[map_cons,t1,a];rfl,by rw[map_cons,map_cons,t2,b]⟩
include hS hI in
theorem tS (h1 : ∀c∈ws,ld mS c∈ws) (h2 : ∀v∈ns,ld mI v∈ns) (h3 : ∀c∈ws,ld (swp mS) c∈ws) (h4 : ∀v∈ns,ld (swp mI) v∈ns) {Ws:List Wx} (ok : ∀W∈Ws,okX ws ns W) (h:Led mS mI Ws (Ws.map dP)):Led (swp mS) (swp mI) Ws (Ws.map dP):=by
 obtain⟨Vs,e,hc⟩:=h;have hl:=congrArg List.length e;rw[length_map,length_map] at hl;have hp:=vy (l:=Vs.map dP) (m:=Ws.map dP) (by rw[length_map,length_map];omega) hc
 obtain⟨V2,p2,e2⟩:=qI hp.symm rfl;obtain⟨U2,p3,e3⟩:=qI (p2.map (some:Wx→Option Wx)) e.symm;obtain⟨Ts,a,b⟩:=tY hS hI h1 h2 h3 h4 ok (fun W hW=>ok W (p3.mem_iff.mp hW)) e2 e3
 refine⟨Ts,a,fun d=>?_⟩
 rw[b,DA (p3.map dP) d];exact le_refl _
end
theorem lx (m:List (α × α)):swp (swp m)=m:=by
 unfold swp;rw[map_map];exact map_id'' (fun _=>rfl) m
theorem uR (hS:PM mS) (hI:PM mI) (hm : ∀x∈mS,x.1∈ws) (hi : ∀x∈mI,x.1∈ns) {ds:List (Str × List Int)} (nd:(ds.map (·.1)).Nodup) (hs : ∀x∈ds,x.2.Pairwise (·≤·)) {Ws:List Wx} (ok : ∀W∈Ws,okX ws ns W):lv (swp mS) (swp mI) ds Ws↔lv mS mI ds Ws:=by
 have h1 : ∀c∈ws,ld mS c∈ws:=fun c hc=>dX hS hm hc
 have h2:=iw hI hi;have h3 : ∀c∈ws,ld (swp mS) c∈ws:=fun c hc=>dX (cO hS) (mZ hS hm) hc
 have h4:=iw (cO hI) (fun x hx=>by
  obtain⟨y,hy,rfl⟩:=mem_map.mp hx;obtain⟨z,hz,e⟩:=mem_map.mp (hI.2.mem_iff.mp (mem_map.mpr ⟨y,hy,rfl⟩))
  show y.2∈ns
  rw[← e];exact hi z hz)
 constructor
 ·rintro⟨a,b⟩
  have a':=nj (cO hS) (cO hI) nd hs a;have b':=tS (cO hS) (cO hI) h3 h4 (by rw[lx];exact h1) (by rw[lx];exact h2) ok b
  rw[lx,lx] at a' b';exact⟨a',b'⟩
 ·rintro⟨a,b⟩
  exact⟨nj hS hI nd hs a,tS hS hI h1 h2 h3 h4 ok b⟩
theorem ki  [DecidableEq α] (x:α):ld ([]:List (α × α)) x=x:=eF (by simp)
theorem pE (W:Wx):bB [] [] W=some W:=by
 have hm : ∀{α:Type} [DecidableEq α] (l:List α),l.map (ld [])=l:=fun l=>map_id'' (fun x=>ki x) l
 have hw : ∀W:Wi,bx [] [] W=some W:=fun W=>by
  cases W with
  | un cs=>show some (Wi.un (cs.map (ld [])))=_;rw[hm]
  | mn av cs lo hi=>show some (Wi.mn (av.map (ld [])) (cs.map (ld [])) lo hi)=_;rw[hm,hm]
  | sm ts lo hi =>
   show some (Wi.sm (ts.map fun x=>(x.1,ld [] x.2)) lo hi)=_
   rw[map_id'' (fun x=>by rw[ki]) ts]
  | tb cs rows=>show some (Wi.tb (cs.map (ld [])) (rows.map fun r=>r.map (ld [])))=_;rw[hm,map_id'' (fun x=>hm x) rows]
  | wy cs ps es=>show some (Wi.wy (cs.map (ld [])) (ps.map fun x=>(x.1,ld [] x.2.1,x.2.2)) es)=_;rw[hm,map_id'' (fun x=>by rw[ki]) ps]
  | bh cs gap =>
   show some (Wi.bh (cs.map (ld [])) gap)=_
   rw[hm]
 cases W with
 | pl W=>rw[tz,hw];rfl
 | sa c vs W=>rw[rQ,hw,ki,hm];rfl
theorem xg (hs : ∀x∈ds,x.2.Pairwise (·≤·)) {Ws:List Wx}:lv [] [] ds Ws:=by
 refine⟨⟨fun x hx=>(by cases hx),fun x hx=>?_⟩,Ws,map_congr_left fun W _=>pE W,fun d=>le_refl _⟩
 have:eR [] [] x=x:=by
  refine Prod.ext (ki _) ?_
  show srt (x.2.map (ld []))=x.2
  rw[map_id'' (fun x=>ki x) x.2]
  exact(mU (.refl _) (hs x hx)).symm
 rw[this];exact hx
open L2.Irr
theorem EC (hr:cu k A):A.units+10 < cLine:=by have:=hr.un;omega
theorem sB {a b c d rest:TS} (h : ∀R:TS,R=rest→jk a (jk b (jk c (jk d R))) D σ H):jk a (jk b (jk c (jk d rest))) D σ H:=h rest rfl
theorem Dy (m:List (Str × Str)):kvK (swp (upS m))=kvS (swp m):=by rw[← wg];unfold swp upS;rw[map_map,map_map];rfl
theorem Ea (m:List (Int × Int)):kvK (swp (upI m))=kvI (swp m):=by rw[← tM];unfold swp upI;rw[map_map,map_map];rfl
theorem Cs {m:List (Str × Str)} {Q:VK} {E:XK} (h:H a=some (.dK (kvS m))) (p:PM m) (l:m.length≤40) (k : ∀r H',H r=none→ao H H'→H' r=some (.dK (kvS (swp m)))→Q (.ref r) H'):rL [.ref a] H Q E:=by
 refine⟨a,upS m,rfl,by rw[wg];exact h,?_,?_,by unfold upS;rw[length_map];exact l,fun r H' hr s e=>k r H' hr s (by rw[← Dy];exact e)⟩
 ·unfold upS;rw[map_map];have:=vv p.1;rw[map_map] at this;exact this
 ·unfold upS;rw[map_map];have:=vv (p.2.nodup_iff.mpr p.1);rw[map_map] at this;exact this
theorem CZ {m:List (Int × Int)} {Q:VK} {E:XK} (h:H a=some (.dK (kvI m))) (p:PM m) (l:m.length≤40) (k : ∀r H',H r=none→ao H H'→H' r=some (.dK (kvI (swp m)))→Q (.ref r) H'):rL [.ref a] H Q E:=by
 refine⟨a,upI m,rfl,by rw[tM];exact h,?_,?_,by unfold upI;rw[length_map];exact l,fun r H' hr s e=>k r H' hr s (by rw[← Ea];exact e)⟩
 ·unfold upI;rw[map_map];have:=uJ p.1;rw[map_map] at this;exact this
 ·unfold upI;rw[map_map];have:=uJ (p.2.nodup_iff.mpr p.1);rw[map_map] at this;exact this
theorem xz (hI:PM mI) {ks:List Int} (h : ∀x∈mI,x.1∈ks) : ∀x∈swp mI,x.1∈ks:=fun x hx=>by
 obtain⟨y,hy,rfl⟩:=mem_map.mp hx;obtain⟨z,hz,e⟩:=mem_map.mp (hI.2.mem_iff.mp (mem_map.mpr ⟨y,hy,rfl⟩))
 show y.2∈ks
 rw[← e];exact h z hz
theorem jN {a b:Bool} {P:Prop} (h:a=true↔P) (h':b=true↔P):a=b:=Bool.eq_iff_iff.mpr (h.trans h'.symm)
theorem fZ {b:Bool} {Q:VK} {E:XK} (q:Q (.bl true) H):qy [.bl b,.bl b] H Q E:=⟨b,b,rfl,by rw[decide_eq_true rfl];exact q⟩
theorem Ca (m:List (Str × Str)) : ∀p∈kvS m,dQ p.2=true:=fun p hp=>by
 obtain⟨x,_,rfl⟩:=mem_map.mp hp;rfl
theorem Cy (m:List (Int × Int)) : ∀p∈kvI m,dQ p.2=true:=fun p hp=>by
 obtain⟨x,_,rfl⟩:=mem_map.mp hp;rfl
theorem qp:PM ([]:List (α × α)):=⟨by simp,by simp⟩
theorem rq {b:Bool} {Q:VK} (q:Q (.bl false) H):Bm true (.bl b) (.bl b) H Q:=by
 exact⟨b,rfl,b,rfl,by rw[decide_eq_true rfl];exact q⟩
theorem A7 {p:Addr} (h1:H p=some (.tup [.ref c,.ref t])) (h2:H c=some (.tup [])) (h3:H t=some (.tup [])):iJ H p c t [] [] [] [] [] :=
 ⟨h1,h2,fun x hx=>(by cases hx),by simp,by decide,fun x hx=>(by cases hx),h3,⟨[],rfl,rfl,fun x hx=>(by cases hx)⟩,fun x hx=>(by cases hx),fun x hx=>(by cases hx),by decide⟩
theorem DL:TOk mS mI [] [] []:=⟨fun x hx=>(by cases hx),fun x hx=>(by cases hx)⟩
noncomputable def zzs (n:Nat):Str:=⟨(replicate n 122).toArray⟩
theorem C6 (h1:1≤n) (h:n≤8):cb (zzs n):=by
 obtain⟨m,rfl⟩ : ∃m,n=m+1:=⟨n - 1,by omega⟩
 exact cb.of (c:=122) (cs:=replicate m 122) (by simp[zzs,List.replicate_succ]) (by decide) (fun x hx=>by rw[List.eq_of_mem_replicate hx];decide) (by simp;omega)
theorem A6 (n:Nat):zzs n++Str.ofString "z" = zzs (n+1):=by
 apply vE
 rw[fU];simp[zzs,List.replicate_succ']
 rfl
theorem zS {m:Nat} (h:zzs n=zzs m):n=m:=by
 have:=congrArg (fun s=>s.cps.toList.length) h
 simpa [zzs] using this
theorem wT {α:Type} : ∀{l m:List α},l.Nodup→(∀x∈l,x∈m)→l.length≤m.length
 | [],m,_,_=>zero_le _
 | x :: l,m,hn,h=>by
  rw[nodup_cons] at hn;obtain⟨s,t,rfl⟩:=append_of_mem (h x mem_cons_self);have:=wT (m:=s++t) hn.2 fun y hy=>by
   rcases mem_append.mp (h y (mem_cons_of_mem _ hy)) with z | z
   ·exact mem_append_left _ z
   ·rcases mem_cons.mp z with z | z
    ·subst z;exact absurd hy hn.1
    ·exact mem_append_right _ z
  simp at this ⊢
  omega
theorem vX {i:Nat} (h : ∀j,j < i→zzs (j+2)∈ws):i≤ws.length:=by
 have:=wT (l:=(range i).map fun j=>zzs (j+2)) (m:=ws) (pairwise_map.mpr (List.nodup_range.imp fun ne e=>ne (by have:=zS e;omega))) fun x hx=>by
  obtain⟨j,hj,rfl⟩:=mem_map.mp hx;exact h j (mem_range.mp hj)
 simpa using this
noncomputable def vH (K:PySem.W.Frag):Sp:=fun vs H Q _=>∃(a:Addr) (ns:List Int),vs=[.ref a]∧SqL K H a (ns.map V.int)∧ns.length≤63∧kH tabs H∧∀H',kH tabs H'→Q (.bl true) H'
theorem C1 (T:Txt w K mg base) (L:Fun K "law" "law" mK f fd) (FU : @Dz1 P w K mg base) (FA : @Dq P w K mg base) (Fk : @CB P w K mg base) (FG:Fn P w K mg base "_law_back" 1 ["_law_leads_here"] (rL)) (Fu : @DN P w K mg base) (Fp:Fn P w K mg base "leads_on" 9 ["hall","turning"] (CO)) (Fr:Fn P w K mg base "_law_truth" 1 ["_law_found","_law_due"] (qy)):gY P w K mg base CX0 30 f fd ["_law_script"] (vH K):=by
 have nd:=zG.nd;refine L.ok zG (fun vs H Q E h=>?_) (fun cdv A outer s H vs Q E hr h=>?_) <;> obtain⟨a,ns0,rfl,hS,hlen,tb0,k⟩:=h
 ·rfl
 have hu:=sV hr;refine⟨_,(af (aC 1 (ah FU (aa (pvM 0) (aa ae ac))))
  (af (qS (ah FA (aa (pvM 1) (aa ae ac))) (AU (n:=3) rfl (aY (aB 2) (aY (aB 3) (aY (aB 4) cY)))))
  (af (cg 5 (N:=["_law_name","_law_room"]) (nt:=2) (js:=[]) (aI ["_law_script","_law_deal_here","_law_hall","_law_turning","_law_pool_here","_law_names_here","_law_fresh","_law_other","_law_back_here","_law_handed","_law_due"] (am mK).names) (cU K (ak ap (pvM 2) ae)) (du (n:=2) rfl (aY (aB 0) (aY (aB 1) cY))) dq aV (pvM 0))
  (af (aC 6 au)
  (bP (fO PassesOwn.never (ay vn (pvM 6) (pvM 5)) (ai (aC 6 (aN lu (pvM 6) au))))
  (af (aC 7 (aE (aa (ah Fk (aa (pvM 1) (aa (aN vN (pvM 5) (bA (aa (pvM 6) ac))) ac))) (aa (ah Fk (aa (pvM 1) (aa (pvM 4) ac))) ac))))
  (af (aC 8 (aE (aa (ah FG (aa (ak ap (pvM 3) ae) ac)) (aa (ah FG (aa (ak ap (pvM 3) ae) ac)) ac))))
  (af (aC 9 (aE (aa (aF mH T.b_dict (aa (ak ap (pvM 3) ae) ac)) (aa (aF mH T.b_dict (aa (ak ap (pvM 3) ae) ac)) ac))))
  (af (aC 10 (ah Fu (aa (pvM 2) (aa (pvM 3) ac))))
  (af (aK (PW.pt (pO (lW (kc (ah Fr (aa (ah Fp (aa (pvM 2) (aa (pvM 9) ac))) (aa (pvM 10) ac))))) (pO (ay (zP (EC hr)) (pvM 9) (pvM 3)) (mL (lW (kc (ah Fr (aa (ah Fp (aa (pvM 2) (aa (pvM 8) ac))) (aa (pvM 10) ac))))))))) (ai (aA fL)) az)
  (af (aK (PW.pt (pO (lW (kc (ah Fr (aa (ah Fp (aa (pvM 2) (aa (pvM 7) ac))) (aa (ah Fu (aa (pvM 2) (aa (pvM 7) ac))) ac))))) (mL (ay ma (ah Fp (aa (pvM 2) (aa (aE (aa cj (aa cj ac))) ac))) fL)))) (ai (aA fL)) az)
  (af (aK (PW.pt (pO (ay ma (ah Fp (aa (aE (aa (aE ac) (aa (aE ac) ac))) (aa (aE (aa cj (aa (ak ap (pvM 9) ae) ac))) ac))) fL) (mL (ay ma (ah Fp (aa (aE (aa (aE ac) (aa (aE ac) ac))) (aa (aE (aa (vU (gM au au wB) rfl rfl (by nofun) (by decide)) (aa cj ac))) ac))) fL)))) (ai (aA fL)) az)
  (ai (aA (ah Fr (aa (ah Fp (aa (pvM 2) (aa (pvM 9) ac))) (aa (pvM 10) ac))))))))))))))))),?_⟩
 refine sB fun R hR=>?_
 ctx_has v
 refine⟨a,ns0,1,rfl,hS,hlen,by decide,by decide,fun d l H1 hd hl D1 sm1=>?_⟩
 have tb1:=(show bM H from tb0).same sm1
 refine⟨d,l,_,rfl,D1,by decide,by decide,tb1,fun r p c t tn na va pa cs us Ws ws ns mS mI H2 h2r hH T0 hmS hmI h2p npa nna nva hn5 hpw hperm hgr hwl ok D2 B2=>?_⟩
 have tb2:=tb1.but D1 B2;clear hS sm1 B2 D1 tb1 tb0 hd hl;have hln:cs.length≤5:=by
  have:=hperm.length_eq
  rw[length_map] at this;omega
 have e1:=hH.hp;have e2:=hH.hc;ctx_has v Bu h2r e1
 refine⟨_,e2,fun Dl hDl=>?_⟩
 refine cP aW (fun i xs H'=>xs=((cs.take i).map (·.2.1)).map V.str∧ao H2 H'∧H' Dl=some (.lst xs)) ⟨rfl,ao.upd0 hDl,ab⟩ (fun i xs H' zq60=>by obtain⟨_,s,_⟩:=zq60;exact(.of (s _ _ e2))) ?_ ?_
 ·rintro i x xs H3 hi hx ⟨rfl,s3,h3⟩
  obtain⟨y,hy,rfl⟩ : ∃y,cs[i]? = some y∧V.ref y.1=x:=by
   rw[List.getElem?_map] at hx;cases e:cs[i]? with
   | none=>rw[e] at hx;cases hx
   | some nm=>rw[e] at hx;exact⟨nm,rfl,Option.some.inj hx⟩
  have g3:=s3 _ _ (hH.ca y (mem_of_getElem? hy)).1;ctx_has v g3 h3
  refine⟨by simp;exact ax (by omega),?_,s3.putN hDl,ab⟩
  rw[take_add_one,hy];simp
 rintro xs H3 ⟨rfl,s3,h3⟩
 rw[length_map,take_length] at h3;have H3':=hH.same s3;have T3:=T0.same s3;have D3:=D2.same s3;have tb3:=tb2.same s3;have h3p:=s3 _ _ h2p;have nDl:=D2.ne hDl;have nDp:Dl≠pa:=(aj h2p hDl).symm
 clear hH T0 D2 tb2 h2p e1 e2 h2r s3 hDl;obtain⟨nl,enl⟩ : ∃nl,cs.map (·.2.1)=nl:=⟨_,rfl⟩;rw[enl] at hperm h3;have hnl:nl.length≤5:=by rw[← enl,length_map];exact hln
 subst hR;refine qU (fun σ H'=>∃i,σ=[some (.ref a),some (.ref d),some (.ref p),some (.ref tn),some (.ref pa),some (.ref Dl),some (.str (zzs (i+2))),none,none,none,none]∧H'=H3∧i≤5∧zzs (i+2)∉nl) ?_ ?_
 ·refine fQ (fun μ σ H'=>∃i,σ=[some (.ref a),some (.ref d),some (.ref p),some (.ref tn),some (.ref pa),some (.ref Dl),some (.str (zzs (i+2))),none,none,none,none]∧H'=H3∧(∀j,j < i→zzs (j+2)∈nl)∧μ=6 - i)
   (fun σ H'=>∃i,σ=[some (.ref a),some (.ref d),some (.ref p),some (.ref tn),some (.ref pa),some (.ref Dl),some (.str (zzs (i+2))),none,none,none,none]∧H'=H3∧i≤5∧zzs (i+2)∉nl)
   ⟨6,0,rfl,rfl,fun j hj=>absurd hj (Nat.not_lt_zero _),rfl⟩ ?_ (fun σ H h=>h)
  rintro R hR μ σ H4 ⟨i,rfl,rfl,hz,rfl⟩
  have hi:=vX hz;ctx_has v h3
  refine⟨rfl,pJ _,?_⟩
  rw[oh];refine cW (fun h=>?_) (fun h=>?_)
  ·have hz' : ∀j,j < i+1→zzs (j+2)∈nl:=fun j hj=>by
    rcases Nat.lt_succ_iff_lt_or_eq.mp hj with z | z
    ·exact hz j z
    ·subst z;simpa using h
   have hi':=vX hz';refine⟨fun σ' H'=>σ'=[some (.ref a),some (.ref d),some (.ref p),some (.ref tn),some (.ref pa),some (.ref Dl),some (.str (zzs (i+1+2))),none,none,none,none]∧H'=H4,?_,?_⟩
   ·rintro σ' H' ⟨rfl,rfl⟩
    exact⟨6 - (i+1),by omega,i+1,rfl,rfl,hz',rfl⟩
   ·refine⟨?_,by rw[A6],rfl⟩
    rw[show(zzs (i+2)).length=i+2 by rw[← ic];simp[zzs]]
    exact le_trans (show i+2+1≤10 by omega) (by decide)
  ·exact hR _ _ ⟨i,rfl,rfl,by omega,by simpa using h⟩
 rintro σ H4 ⟨i,rfl,rfl,hi,hz⟩
 refine sB fun R hR=>?_
 ctx_has v h3
 refine⟨by decide,fun q1 hq1=>?_⟩
 have s4:=ao.upd0 (o:=.lst [V.str (zzs (i+2))]) hq1;refine⟨_,s4 _ _ h3,_,ab,by simp;exact ax (by omega),fun q2 hq2=>?_⟩
 have s5:=s4.upd_new (o:=.lst (nl.map V.str++[V.str (zzs (i+2))])) hq2;have g5:upd (upd H4 q1 (.lst [V.str (zzs (i+2))])) q2 (.lst (nl.map V.str++[V.str (zzs (i+2))])) q2=some (.lst ((nl++[zzs (i+2)]).map V.str)):=by rw[ab,map_append];rfl
 generalize upd (upd H4 q1 (.lst [V.str (zzs (i+2))])) q2 (.lst (nl.map V.str++[V.str (zzs (i+2))]))=H5 at s5 g5 ⊢;have hws:(nl++[zzs (i+2)]).Nodup:=nodup_append.mpr ⟨hperm.nodup_iff.mpr ok.nd,by simp,fun x hx y hy e=>by rw[mem_singleton.mp hy] at e;exact hz (by rw[← e];exact hx)⟩
 have D5:=D3.same s5;refine wL D5 (.inl g5) hws (by simp;omega) fun na2 mS2 H6 fna2 h6n hpS2 hmS2 hlS2 D6 B6=>?_
 have n2:=D5.ne fna2;have h6p:=B6 _ _ npa.1 npa.2 (s5 _ _ h3p);refine vO D6 (.inl h6p) (hpw.imp fun z=>by omega) (by omega) fun va2 mI2 H7 fva2 h7v hpI2 hmI2 hlI2 D7 B7=>⟨by decide,fun t2 ht2=>?_⟩
 have B57:=B6.trans B7;have kT : ∀b xs,H4 b=some (.tup xs)→H7 b=some (.tup xs):=fun b xs e=>B57.tup D5 (s5 _ _ e)
 have H7':=H3'.keep kT;have T7:bH H7 tn na va mS mI:=⟨kT _ _ T3.ht,B57 _ _ nna.1 nna.2 (s5 _ _ T3.hn),B57 _ _ nva.1 nva.2 (s5 _ _ T3.hv),T3.ps,T3.pi,T3.ls,T3.li⟩
 have tb7:=(tb3.same s5).but D5 B57;have h7n:=B7 _ _ n2.1 n2.2 h6n;have s8:=ao.upd0 (o:=.tup [.ref na2,.ref va2]) ht2;have O8:bH (upd H7 t2 (.tup [.ref na2,.ref va2])) t2 na2 va2 mS2 mI2:=⟨ab,s8 _ _ h7n,s8 _ _ h7v,hpS2,hpI2,hlS2,hlI2⟩
 have H8':=H7'.same s8;have T8:=T7.same s8;have tb8:=tb7.same s8;clear H7' T7 tb7 h7n s8 ht2 kT B57 B6 B7 D5 D6 D7 h6p h6n h7v g5 s5 s4 hq1 hq2 h3 h3p tb3 D3 T3 H3' fna2 fva2 n2;generalize upd H7 t2 (.tup [.ref na2,.ref va2])=H8 at O8 H8' T8 tb8 ⊢;refine⟨_,T8.ht,_,rfl,?_⟩
 refine Cs T8.hn T8.ps T8.ls fun b1 H9 fb1 s9 h9=>?_
 have T9:=T8.same s9;refine⟨_,T9.ht,_,rfl,?_⟩
 refine CZ T9.hv T9.pi T9.li fun b2 H10 fb2 s10 h10=>⟨by decide,fun t3 ht3=>?_⟩
 have s11:=ao.upd0 (o:=.tup [.ref b1,.ref b2]) ht3;have K11:bH (upd H10 t3 (.tup [.ref b1,.ref b2])) t3 b1 b2 (swp mS) (swp mI):=⟨ab,s11 _ _ (s10 _ _ h9),s11 _ _ h10,cO T8.ps,cO T8.pi,by unfold swp;rw[length_map];exact T8.ls,by unfold swp;rw[length_map];exact T8.li⟩
 have s811:=(s9.trans s10).trans s11;have H11':=H8'.same s811;have T11:=T8.same s811;have O11:=O8.same s811;have tb11:=tb8.same s811;clear H8' T8 T9 O8 tb8 s811 s9 s10 s11 h9 h10 ht3 fb1 fb2;generalize upd H10 t3 (.tup [.ref b1,.ref b2])=H11 at H11' T11 O11 tb11 K11 ⊢;refine⟨_,T11.ht,_,rfl,na,rfl,_,T11.hn,fun q3 hq3=>?_⟩
 have s12:=ao.upd0 (o:=.dK (kvS mS)) hq3;refine⟨_,s12 _ _ T11.ht,_,rfl,va,rfl,_,s12 _ _ T11.hv,fun q4 hq4=>⟨by decide,fun t4 ht4=>?_⟩⟩
 have s13:=ao.upd0 (o:=.dK (kvI mI)) hq4;have s14:=ao.upd0 (o:=.tup [.ref q3,.ref q4]) ht4;have J14:bH (upd (upd (upd H11 q3 (.dK (kvS mS))) q4 (.dK (kvI mI))) t4 (.tup [.ref q3,.ref q4])) t4 q3 q4 mS mI:=⟨ab,s14 _ _ (s13 _ _ ab),s14 _ _ ab,T11.ps,T11.pi,T11.ls,T11.li⟩
 have s114:=(s12.trans s13).trans s14;have H14':=H11'.same s114;have T14:=T11.same s114;have O14:=O11.same s114;have K14:=K11.same s114;have tb14:=tb11.same s114;clear H11' T11 O11 K11 tb11 s114 s14 s13 s12 ht4 hq3 hq4;generalize upd (upd (upd H11 q3 (.dK (kvS mS))) q4 (.dK (kvI mI))) t4 (.tup [.ref q3,.ref q4])=H14 at J14 H14' T14 O14 K14 tb14 ⊢;have okW':=H14'.wa.ok;have nmW:=H14'.wa.nm;have hi0:=iw T14.pi hmI;have tokT:TOk mS mI Ws ws ns:=⟨fun W hW V hV=>fG T14.ps T14.pi (fun c hc=>dX T14.ps hmS hc) hi0 (okW' W hW) hV,nmW⟩
 have tokB:TOk (swp mS) (swp mI) Ws ws ns:=⟨fun W hW V hV=>fG (cO T14.ps) (cO T14.pi) (fun c hc=>dX (cO T14.ps) (mZ T14.ps hmS) hc) (iw (cO T14.pi) (xz T14.pi hmI)) (okW' W hW) hV,nmW⟩
 have tokO:TOk mS2 mI2 Ws (nl++[zzs (i+2)]) ns:=⟨fun W hW V hV=>fG O14.ps O14.pi (fun c hc=>dX O14.ps hmS2 (mem_append_left _ (hperm.mem_iff.mpr hc))) (iw O14.pi hmI2) (okW' W hW) hV,fun c hc=>by
  rcases mem_append.mp hc with z | z
  ·exact nmW c (hperm.mem_iff.mp z)
  ·rw[mem_singleton.mp z];exact C6 (by omega) (by omega)⟩
 have hs : ∀x∈dat (xsH cs),x.2.Pairwise (·≤·):=fun x hx=>by
  obtain⟨y,hy,rfl⟩:=mem_map.mp hx;obtain⟨z,hz,rfl⟩:=mem_map.mp hy;exact(hgr z hz).2.2.1.imp fun h=>by omega
 have hnd:((dat (xsH cs)).map (·.1)).Nodup:=by rw[cX,map_map];exact H14'.nd
 have hback:=uR (mS:=mS) (mI:=mI) T14.ps T14.pi hmS hmI hnd hs okW';refine⟨p,c,t,tn,na,va,mS,mI,cs,us,Ws,ws,ws,ns,rfl,tb14,H14',T14,tokT,fun due H15 s15 hdue=>?_⟩
 subst hR;refine aw fun R hR=>?_
 ctx_has v
 refine⟨p,c,t,t4,q3,q4,mS,mI,cs,us,Ws,ws,ws,ns,rfl,tb14.same s15,H14'.same s15,J14.same s15,tokT,fun b1 H16 s16 hb1=>?_⟩
 cases (jN hb1 hdue);have s146:=s15.trans s16;refine fZ ⟨true,rfl,?_⟩
 rw[if_neg (by decide)]
 have J16:=J14.same s146;have T16:=T14.same s146;refine⟨t4,rfl,tn,rfl,q3,q4,J16.ht,na,va,T16.ht,_,J16.hn,T16.hn,Ca mS,_,J16.hv,T16.hv,Cy mI,false,rfl,?_⟩
 rw[if_neg (by decide)]
 refine⟨p,c,t,t3,b1,b2,swp mS,swp mI,cs,us,Ws,ws,ws,ns,rfl,tb14.same s146,H14'.same s146,K14.same s146,tokB,fun b1' H17 s17 hb2=>?_⟩
 cases (jN (hb2.trans hback) hdue);refine fZ ⟨true,rfl,?_⟩
 rw[if_neg (by decide)]
 have s147:=s146.trans s17;subst hR;refine aw fun R hR=>?_
 ctx_has v
 refine⟨p,c,t,t2,na2,va2,mS2,mI2,cs,us,Ws,ws,_,ns,rfl,tb14.same s147,H14'.same s147,O14.same s147,tokO,fun o1 H18 s18 ho1=>?_⟩
 have s148:=s147.trans s18;refine⟨p,c,t,t2,na2,va2,mS2,mI2,cs,us,Ws,ws,_,ns,rfl,tb14.same s148,H14'.same s148,O14.same s148,tokO,fun o2 H19 s19 ho2=>?_⟩
 have s149:=s148.trans s19;cases (jN ho1 ho2);refine fZ ⟨true,rfl,?_⟩
 rw[if_neg (by decide)]
 intro e1 he1 e2 he2;refine⟨by decide,fun e3 he3=>?_⟩
 have s20:=((ao.upd0 (o:=.dK []) he1).upd_new (o:=.dK []) he2).upd_new (o:=.tup [.ref e1,.ref e2]) he3;have E20:bH (upd (upd (upd H19 e1 (.dK [])) e2 (.dK [])) e3 (.tup [.ref e1,.ref e2])) e3 e1 e2 [] []:=⟨ab,((ao.upd0 he2).upd_new he3) _ _ ab,(ao.upd0 he3) _ _ ab,qp,qp,by decide,by decide⟩
 have s140:=s149.trans s20;generalize upd (upd (upd H19 e1 (.dK [])) e2 (.dK [])) e3 (.tup [.ref e1,.ref e2])=H20 at s140 E20 ⊢;refine⟨p,c,t,e3,e1,e2,[],[],cs,us,Ws,ws,ws,ns,rfl,tb14.same s140,H14'.same s140,E20,⟨fun W hW V hV=>by rw[pE] at hV;rw[← Option.some.inj hV];exact okW' W hW,nmW⟩,fun b3 H21 s21 hb3=>?_⟩
 cases hb3.mpr (xg hs);refine rq ⟨false,rfl,?_⟩
 rw[if_neg (by decide)]
 have s141:=s140.trans s21;clear hb3 ho1 ho2 s140 s149 s148 s147 s146 s15 s16 s17 s18 s19 s20 J16 T16 hb2 hb1;subst hR;refine aw fun R hR=>?_
 ctx_has v
 have J21:=J14.same s141;refine⟨by decide,fun u1 hu1=>⟨by decide,fun u2 hu2=>⟨by decide,fun u3 hu3 u4 hu4=>?_⟩⟩⟩
 have v1:=ao.upd0 (o:=.tup []) hu1;have v2:=ao.upd0 (o:=.tup []) hu2;have v3:=ao.upd0 (o:=.tup [.ref u1,.ref u2]) hu3;have v4:=ao.upd0 (o:=.dK []) hu4;refine⟨_,v4 _ _ (v3 _ _ (v2 _ _ (v1 _ _ J21.ht))),_,rfl,by decide,fun u5 hu5=>?_⟩
 have v5:=ao.upd0 (o:=.tup [.ref u4,.ref q4]) hu5;have A22:=A7 (H:=upd (upd (upd (upd (upd H21 u1 (.tup [])) u2 (.tup [])) u3 (.tup [.ref u1,.ref u2])) u4 (.dK [])) u5 (.tup [.ref u4,.ref q4])) (p:=u3) (c:=u1) (t:=u2) (v5 _ _ (v4 _ _ ab)) (v5 _ _ (v4 _ _ (v3 _ _ (v2 _ _ ab)))) (v5 _ _ (v4 _ _ (v3 _ _ ab)));have T22:bH (upd (upd (upd (upd (upd H21 u1 (.tup [])) u2 (.tup [])) u3 (.tup [.ref u1,.ref u2])) u4 (.dK [])) u5 (.tup [.ref u4,.ref q4])) u5 u4 q4 [] mI:=⟨ab,v5 _ _ ab,v5 _ _ (v4 _ _ (v3 _ _ (v2 _ _ (v1 _ _ J21.hv)))),qp,J21.pi,by decide,J21.li⟩
 have s142:=s141.trans ((((v1.trans v2).trans v3).trans v4).trans v5);generalize upd (upd (upd (upd (upd H21 u1 (.tup [])) u2 (.tup [])) u3 (.tup [.ref u1,.ref u2])) u4 (.dK [])) u5 (.tup [.ref u4,.ref q4])=H22 at A22 T22 s142 ⊢;clear hu1 hu2 hu3 hu4 hu5 v1 v2 v3 v4 v5 J21 E20 s141 s21;refine⟨u3,u1,u2,u5,u4,q4,[],mI,[],[],[],[],[],[],rfl,tb14.same s142,A22,T22,DL,fun b4 H23 s23 hb4=>?_⟩
 cases hb4.mpr ⟨⟨fun x hx=>(by cases hx),fun x hx=>(by cases hx)⟩,[],rfl,fun d=>le_refl _⟩
 refine rq ⟨false,rfl,?_⟩
 rw[if_neg (by decide)]
 have s143:=s142.trans s23;clear A22 T22 s142 s23 hb4;refine⟨by decide,fun u1 hu1=>⟨by decide,fun u2 hu2=>⟨by decide,fun u3 hu3 u4 hu4=>?_⟩⟩⟩
 have v1:=ao.upd0 (o:=.tup []) hu1;have v2:=ao.upd0 (o:=.tup []) hu2;have v3:=ao.upd0 (o:=.tup [.ref u1,.ref u2]) hu3;refine⟨ab,[(Sum.inr (Str.ofString "a"),.str (Str.ofString "a"))],rfl,by decide,?_⟩
 have v4:=(ao.upd0 (o:=.dK []) hu4).putN (o:=.dK (dh [] [(Sum.inr (Str.ofString "a"),.str (Str.ofString "a"))])) hu4;have g4:upd (upd (upd (upd (upd H23 u1 (.tup [])) u2 (.tup [])) u3 (.tup [.ref u1,.ref u2])) u4 (.dK [])) u4 (.dK (dh [] [(Sum.inr (Str.ofString "a"),.str (Str.ofString "a"))])) u4=some (.dK (kvS [(Str.ofString "a",Str.ofString "a")])):=ab
 have v14:=((v1.trans v2).trans v3).trans v4;have A4:=A7 (H:=upd (upd (upd (upd (upd H23 u1 (.tup [])) u2 (.tup [])) u3 (.tup [.ref u1,.ref u2])) u4 (.dK [])) u4 (.dK (dh [] [(Sum.inr (Str.ofString "a"),.str (Str.ofString "a"))]))) (p:=u3) (c:=u1) (t:=u2) (v4 _ _ ab) (v4 _ _ (v3 _ _ (v2 _ _ ab))) (v4 _ _ (v3 _ _ ab));generalize upd (upd (upd (upd (upd H23 u1 (.tup [])) u2 (.tup [])) u3 (.tup [.ref u1,.ref u2])) u4 (.dK [])) u4 (.dK (dh [] [(Sum.inr (Str.ofString "a"),.str (Str.ofString "a"))]))=H24 at g4 v14 A4 ⊢;refine fun u5 hu5=>⟨by decide,fun u6 hu6=>?_⟩
 have v5:=ao.upd0 (o:=.dK []) hu5;have v6:=ao.upd0 (o:=.tup [.ref u4,.ref u5]) hu6;have T25:bH (upd (upd H24 u5 (.dK [])) u6 (.tup [.ref u4,.ref u5])) u6 u4 u5 [(Str.ofString "a",Str.ofString "a")] []:=⟨ab,v6 _ _ (v5 _ _ g4),v6 _ _ ab,⟨by simp,.refl _⟩,qp,by decide,by decide⟩
 have A25:=A4.same (v5.trans v6);have s145:=(s143.trans v14).trans (v5.trans v6);generalize upd (upd H24 u5 (.dK [])) u6 (.tup [.ref u4,.ref u5])=H25 at T25 A25 s145 ⊢;refine⟨u3,u1,u2,u6,u4,u5,_,[],[],[],[],[],[],[],rfl,tb14.same s145,A25,T25,DL,fun b5 H26 s26 hb5=>?_⟩
 cases b5 with
 | true=>exact absurd ((hb5.mp rfl).1.1 _ mem_cons_self) (by simp[dat])
 | false =>
  refine rq ⟨false,rfl,?_⟩
  rw[if_neg (by decide)]
  have s146:=s145.trans s26;subst hR;ctx_has v
  refine⟨p,c,t,t4,q3,q4,mS,mI,cs,us,Ws,ws,ws,ns,rfl,tb14.same s146,H14'.same s146,J14.same s146,tokT,fun b6 H27 s27 hb6=>?_⟩
  cases (jN hb6 hdue);exact fZ (k _ ((tb14.same s146).same s27))
theorem ft6
  (F0:Fn P w K mg base "turned_unlike" 3 ["turning","wish"] (bF "unlike")) (m0:mg "turned_unlike" = some (.ref f0)) (n0:nsIn K a "unlike" = some (some (.ref f0))) (F1:Fn P w K mg base "turned_many" 3 ["turning","wish"] (bF "many")) (m1:mg "turned_many" = some (.ref f1)) (n1:nsIn K a "many" = some (some (.ref f1))) (F2:Fn P w K mg base "turned_sum" 3 ["turning","wish"] (bF "sum")) (m2:mg "turned_sum" = some (.ref f2)) (n2:nsIn K a "sum" = some (some (.ref f2))) (F3:Fn P w K mg base "turned_table" 3 ["turning","wish"] (bF "table")) (m3:mg "turned_table" = some (.ref f3)) (n3:nsIn K a "table" = some (some (.ref f3))) (F4:Fn P w K mg base "turned_way" 3 ["turning","wish"] (bF "way")) (m4:mg "turned_way" = some (.ref f4)) (n4:nsIn K a "way" = some (some (.ref f4))) (F5:Fn P w K mg base "turned_behind" 3 ["turning","wish"] (bF "behind")) (m5:mg "turned_behind" = some (.ref f5)) (n5:nsIn K a "behind" = some (some (.ref f5))) :
  ∀y∈ja,FnT P w K mg base a y 4 ["turning","wish"] (bF y):=by
 intro y hy;simp only[ja,mem_cons,not_mem_nil,or_false] at hy;rcases hy with rfl | rfl | rfl | rfl | rfl | rfl
 ·exact dt F0 m0 n0 (by decide) fun _ _ _ _ h=>h
 ·exact dt F1 m1 n1 (by decide) fun _ _ _ _ h=>h
 ·exact dt F2 m2 n2 (by decide) fun _ _ _ _ h=>h
 ·exact dt F3 m3 n3 (by decide) fun _ _ _ _ h=>h
 ·exact dt F4 m4 n4 (by decide) fun _ _ _ _ h=>h
 ·exact dt F5 m5 n5 (by decide) fun _ _ _ _ h=>h
theorem jZ (h:x ≠ "same") : ∀vs H Q E,gC x vs H Q E→bF x vs H Q E:=fun vs H Q E q=>by
 unfold gC at q
 rwa [if_neg h] at q
theorem ft7 {f6:Addr}
  (F0:Fn P w K mg base "turned_unlike" 3 ["turning","wish"] (bF "unlike")) (m0:mg "turned_unlike" = some (.ref f0)) (n0:nsIn K a "unlike" = some (some (.ref f0))) (F1:Fn P w K mg base "turned_many" 3 ["turning","wish"] (bF "many")) (m1:mg "turned_many" = some (.ref f1)) (n1:nsIn K a "many" = some (some (.ref f1))) (F2:Fn P w K mg base "turned_sum" 3 ["turning","wish"] (bF "sum")) (m2:mg "turned_sum" = some (.ref f2)) (n2:nsIn K a "sum" = some (some (.ref f2))) (F3:Fn P w K mg base "turned_table" 3 ["turning","wish"] (bF "table")) (m3:mg "turned_table" = some (.ref f3)) (n3:nsIn K a "table" = some (some (.ref f3))) (F4:Fn P w K mg base "turned_way" 3 ["turning","wish"] (bF "way")) (m4:mg "turned_way" = some (.ref f4)) (n4:nsIn K a "way" = some (some (.ref f4))) (F5:Fn P w K mg base "turned_behind" 3 ["turning","wish"] (bF "behind")) (m5:mg "turned_behind" = some (.ref f5)) (n5:nsIn K a "behind" = some (some (.ref f5)))
  (F6:Fn P w K mg base "turned_same" 6 ["turning","wish"] gR) (m6:mg "turned_same" = some (.ref f6)) (n6:nsIn K a "same" = some (some (.ref f6))) :
  ∀y∈qC,FnT P w K mg base a y 6 ["turning","wish"] (gC y):=by
 intro y hy;simp only[qC,ja,mem_cons,not_mem_nil,or_false] at hy;rcases hy with rfl | rfl | rfl | rfl | rfl | rfl | rfl
 ·exact dt F6 m6 n6 (by decide) fun vs H Q E q=>by
   unfold gC at q
   rwa [if_pos rfl] at q
 ·exact dt F0 m0 n0 (by decide) (jZ (show ¬ (Str.ofString "unlike" = Str.ofString "same") by decide+kernel))
 ·exact dt F1 m1 n1 (by decide) (jZ (show ¬ (Str.ofString "many" = Str.ofString "same") by decide+kernel))
 ·exact dt F2 m2 n2 (by decide) (jZ (show ¬ (Str.ofString "sum" = Str.ofString "same") by decide+kernel))
 ·exact dt F3 m3 n3 (by decide) (jZ (show ¬ (Str.ofString "table" = Str.ofString "same") by decide+kernel))
 ·exact dt F4 m4 n4 (by decide) (jZ (show ¬ (Str.ofString "way" = Str.ofString "same") by decide+kernel))
 ·exact dt F5 m5 n5 (by decide) (jZ (show ¬ (Str.ofString "behind" = Str.ofString "same") by decide+kernel))
noncomputable abbrev AT (K:PySem.W.Frag) (x:Str) (f:Addr):Prop:=nsIn K mainGlobals x=some (some (Value.ref f))
noncomputable abbrev LK (K:PySem.W.Frag) (f:Addr) (x:Str) (st:Stmt) (oc:Value) (od:Option Addr) (sl:Array (Option Value)) (kV dc pm:Value) (an:Option Addr) (cd ct:Value):Prop:=K.lookup f=some ⟨oc,od,.func (fnOf x x (cI st) (bT st) (am st) .none kV dc pm an cd ct),sl⟩
noncomputable abbrev CK (K:PySem.W.Frag) (cd:Value) (x:Str):Prop:=codeIn K cd x=true
noncomputable abbrev KK (K:PySem.W.Frag) (f:Addr):Prop:=keepIn K (Value.ref f)=true
noncomputable abbrev NB (K:PySem.W.Frag) (x:Str):Prop:=nsIn K mainGlobals x=some none
theorem zN {us:List α} (h:us.length=1) : ∃u0,us=[u0]:=by
 match us,h with
 | [u0],_=>exact⟨u0,rfl⟩
theorem DD {us:List α} (h:us.length=2) : ∃u0 u1,us=[u0,u1]:=by
 match us,h with
 | [u0,u1],_=>exact⟨u0,u1,rfl⟩
theorem DW {us:List α} (h:us.length=3) : ∃u0 u1 u2,us=[u0,u1,u2]:=by
 match us,h with
 | [u0,u1,u2],_=>exact⟨u0,u1,u2,rfl⟩
theorem Da {us:List α} (h:us.length=4) : ∃u0 u1 u2 u3,us=[u0,u1,u2,u3]:=by
 match us,h with
 | [u0,u1,u2,u3],_=>exact⟨u0,u1,u2,u3,rfl⟩
theorem Eb {us:List α} (h:us.length=5) : ∃u0 u1 u2 u3 u4,us=[u0,u1,u2,u3,u4]:=by
 match us,h with
 | [u0,u1,u2,u3,u4],_=>exact⟨u0,u1,u2,u3,u4,rfl⟩
local macro_rules | `(tactic| ctx_has b1) => `(tactic| exact fun _ _ _ _ _ _ us hl => by obtain ⟨u0, ee⟩ := zN hl; subst ee; rfl)
local macro_rules | `(tactic| ctx_has b2) => `(tactic| exact fun _ _ _ _ _ _ us hl => by obtain ⟨u0, u1, ee⟩ := DD hl; subst ee; rfl)
local macro_rules | `(tactic| ctx_has b3) => `(tactic| exact fun _ _ _ _ _ _ us hl => by obtain ⟨u0, u1, u2, ee⟩ := DW hl; subst ee; rfl)
local macro_rules | `(tactic| ctx_has b4) => `(tactic| exact fun _ _ _ _ _ _ us hl => by obtain ⟨u0, u1, u2, u3, ee⟩ := Da hl; subst ee; rfl)
local macro_rules | `(tactic| ctx_has b5) => `(tactic| exact fun _ _ _ _ _ _ us hl => by obtain ⟨u0, u1, u2, u3, u4, ee⟩ := Eb hl; subst ee; rfl)
local macro_rules | `(tactic| ctx_has bb) => `(tactic| first | ctx_has b1 | ctx_has b2 | ctx_has b3 | ctx_has b4 | ctx_has b5)
noncomputable def DF (K:PySem.W.Frag) (x:Str) (st:Stmt) (f:Addr):Prop:=∃(oc:Value) (od an:Option Addr) (sl:Array (Option Value)) (kV dc pm cd ct:Value),AT K x f∧LK K f x st oc od sl kV dc pm an cd ct∧CK K cd x∧KK K f
theorem dfI {an:Option Addr} {kV dc:Value} (a:nsIn K mainGlobals x=some (some (Value.ref f))) (l:K.lookup f=some ⟨oc,od,.func (fnOf x x (cI st) (bT st) (am st) .none kV dc pm an cd ct),sl⟩) (c:codeIn K cd x=true) (k:keepIn K (Value.ref f)=true):DF K x st f:=⟨_,_,_,_,_,_,_,_,_,a,l,c,k⟩
theorem dfM (X:K.In h) (G:h.Ns mainGlobals mg) (d:DF K x st f):mg x=some (.ref f):=by
 obtain⟨_,_,_,_,_,_,_,_,_,a,_⟩:=d;exact mg_of X G a
theorem dfL (X:K.In h) (G:h.Ns mainGlobals mg) (d:DF K x st f) (hb : ∀(kV doc pm:Value) (an:Option Addr) (cdv ct:Value) (us:List Value),us.length=ps.length→bindArgs (fnOf x x (cI st) (bT st) (am st) .none kV doc pm an cdv ct) ⟨us,[]⟩=pure (ps.zip us):=by ctx_has bb):FnL K mg x st ps:=by
 obtain⟨_,_,_,_,_,_,_,_,_,a,l,c,k⟩:=d;exact Bz X G a l c k hb
theorem BH {l:PySem.W.OpenLaw} (X:K.In h) (G:h.Ns mainGlobals mg) (hfa:mg "law" = some (.ref fa))
  {C_TURNERS:Addr} {te_TURNERS:Array DictEntry} {tn_TURNERS:Nat}
  {f30 f31 f46:Addr} {oc30 kV30 dc30 pm30 cd30 ct30 oc31 kV31 dc31 pm31 cd31 ct31 oc46 kV46 dc46 pm46 cd46 ct46:Value} {od30 an30 od31 an31 od46 an46:Option Addr} {sl30 sl31 sl46:Array (Option Value)}
  {f0 f1 f2 f3 f4 f5 f6 f7 f8 f9 f10 f11 f12 f13 f14 f15 f16 f17 f18 f19 f20 f21 f22 f23 f24 f25 f26 f27 f28 f29 f32 f33 f34 f35 f36 f37 f38 f39 f40 f41 f42 f43 f44 f45:Addr}
  (d0:DF K "_law_draw" gZ f0)
  (d1:DF K "_law_deal" eW f1)
  (d2:DF K "_law_names" eA f2)
  (d3:DF K "_law_pool" gK f3)
  (d4:DF K "_law_rooms" eC f4)
  (d5:DF K "_law_some" gV f5)
  (d6:DF K "_law_bounds" fj f6)
  (d7:DF K "_law_sum" eK f7)
  (d8:DF K "_law_rows" eQ f8)
  (d9:DF K "_law_way" gl f9)
  (d10:DF K "_law_wish" dG f10)
  (d11:DF K "led" yG f11)
  (d12:DF K "all_led" iy f12)
  (d13:DF K "keeps_values" dg f13)
  (d14:DF K "turned_unlike" dO f14)
  (d15:DF K "turned_many" eZ f15)
  (d16:DF K "turned_sum" eu f16)
  (d17:DF K "turned_table" dk f17)
  (d18:DF K "turned_way" dZ f18)
  (d19:DF K "turned_behind" dL f19)
  (d20:DF K "turned_wish" cG f20)
  (d21:DF K "turned_same" fz f21)
  (d22:DF K "_law_leads" fV f22)
  (d23:DF K "_law_moved" eh f23)
  (d24:DF K "_law_back" gO f24)
  (d25:DF K "_law_led_wish" bf f25)
  (d26:DF K "in_order" iY f26)
  (d27:DF K "_law_insert" fc f27)
  (d28:DF K "_law_by_key" dz f28)
  (d29:DF K "_law_rising" fb f29)
  (a30:AT K "plain_table" f30) (l30:LK K f30 "plain_table" bK oc30 od30 sl30 kV30 dc30 pm30 an30 cd30 ct30) (c30:CK K cd30 "plain_table") (k30:KK K f30)
  (hcd30:cd30 = .ref 105) (htb30:codeHdIn K 105 103=true)
  (a31:AT K "plain_form" f31) (l31:LK K f31 "plain_form" dj oc31 od31 sl31 kV31 dc31 pm31 an31 cd31 ct31) (c31:CK K cd31 "plain_form") (k31:KK K f31)
  (hcd31:cd31 = .ref 112) (htb31:codeHdIn K 112 108=true)
  (d32:DF K "_law_plain" bR f32)
  (d33:DF K "_law_mixed_up" bi f33)
  (d34:DF K "turned_rooms" di f34)
  (d35:DF K "plain_forms" eX f35)
  (d36:DF K "leads_wishes_among" ci f36)
  (d37:DF K "leads_rooms_on" cx f37)
  (d38:DF K "first_rooms" fk f38)
  (d39:DF K "leads_on" iU f39)
  (d40:DF K "_law_leads_on" cJ f40)
  (d41:DF K "_law_truth" gm f41)
  (d42:DF K "_law_round" fX f42)
  (d43:DF K "_law_even_rooms" df f43)
  (d44:DF K "_law_even_wishes" cM f44)
  (d45:DF K "_law_even_hall" cz f45)
  (a46:AT K "law" f46) (l46:LK K f46 "law" mK oc46 od46 sl46 kV46 dc46 pm46 an46 cd46 ct46) (c46:CK K cd46 "law") (k46:KK K f46)
  (z0:NB K "len")
  (z1:NB K "max")
  (z2:NB K "min")
  (z3:NB K "sum")
  (z4:NB K "list")
  (z5:NB K "reversed")
  (z6:NB K "range")
  (z7:NB K "isinstance")
  (z8:NB K "all")
  (z9:NB K "any")
  (z10:NB K "dict")
  (z11:NB K "tuple")
  (z12:NB K "set")
  (z13:NB K "int")
  (z14:NB K "sorted")
  (z15:NB K "bool")
  (aC_TURNERS:nsIn K mainGlobals "TURNERS" = some (some (.ref C_TURNERS)))
  (tl_TURNERS:K.lookup C_TURNERS=some ⟨.type "dict",none,.dict te_TURNERS tn_TURNERS,#[]⟩)
  (tk_TURNERS:PySem.W.KeysLit w.params te_TURNERS.toList)
  (tx_TURNERS_unlike:nsIn K C_TURNERS "unlike" = some (some (.ref f14)))
  (tx_TURNERS_many:nsIn K C_TURNERS "many" = some (some (.ref f15)))
  (tx_TURNERS_sum:nsIn K C_TURNERS "sum" = some (some (.ref f16)))
  (tx_TURNERS_table:nsIn K C_TURNERS "table" = some (some (.ref f17)))
  (tx_TURNERS_way:nsIn K C_TURNERS "way" = some (some (.ref f18)))
  (tx_TURNERS_behind:nsIn K C_TURNERS "behind" = some (some (.ref f19)))
  (tx_TURNERS_same:nsIn K C_TURNERS "same" = some (some (.ref f21))) :
  ∃fd:FuncData,(∀(s:Shared) (v:Value),BindsTo s fd ⟨[v],[]⟩ [("_law_script",v)])∧∀base:Heap,K.In base→base.Ns mainGlobals mg→iH mg base→gY l.prog w K mg base CX0 30 fa fd ["_law_script"] (vH K):=by
 have e:=hfa.symm.trans (mg_of X G a46);cases e;refine⟨fnOf "law" "law" (cI mK) (bT mK) (am mK) .none kV46 dc46 pm46 an46 cd46 ct46,fun s v=>.of_eq rfl,fun base KB _ bmn=>?_⟩
 have eC_TURNERS:=yg (mg_of X G aC_TURNERS);subst eC_TURNERS;have T:Txt w K mg base:=⟨mg_none_of X G z0,mg_none_of X G z1,mg_none_of X G z2,mg_none_of X G z3,mg_none_of X G z4,mg_none_of X G z5,mg_none_of X G z6,mg_none_of X G z7,mg_none_of X G z8,mg_none_of X G z9,mg_none_of X G z10,mg_none_of X G z11,mg_none_of X G z12,mg_none_of X G z13,mg_none_of X G z14,mg_none_of X G z15,bmn,mg_of X G aC_TURNERS,⟨_,_,tl_TURNERS,tk_TURNERS⟩⟩
 have L10:FnL K mg "_law_wish" dG ["_law_deal_here","_law_names_here","_law_rooms_here","_law_pool_here","_law_sorts"]:=dfL X G d10
 have L20:FnL K mg "turned_wish" cG ["turning","wish"]:=dfL X G d20
 have L25:FnL K mg "_law_led_wish" bf ["_law_turning","_law_wish_here"]:=dfL X G d25
 have L30:tZ K mg "plain_table" bK ["wish"] 103:=vS X G a30 l30 c30 k30 hcd30 htb30 fun _ _ _ _ _ _ us hl=>by obtain⟨u0,ee⟩:=zN hl;subst ee;rfl
 have L31:tZ K mg "plain_form" dj ["wish"] 108:=vS X G a31 l31 c31 k31 hcd31 htb31 fun _ _ _ _ _ _ us hl=>by obtain⟨u0,ee⟩:=zN hl;subst ee;rfl
 have L32:FnL K mg "_law_plain" bR ["_law_wish_here"]:=dfL X G d32
 have L33:FnL K mg "_law_mixed_up" bi ["_law_deal_here","_law_wish_here"]:=dfL X G d33
 have Fa:=qZ (P:=l.prog) (w:=w) (base:=base) T (dfL X G d0);have FU:=rA (P:=l.prog) (w:=w) (base:=base) T (dfL X G d1);have FR:=oJ (P:=l.prog) (w:=w) (base:=base) T (dfL X G d2) Fa;have FV:=qv (P:=l.prog) (w:=w) (base:=base) T (dfL X G d3) Fa;have FO:=oI (P:=l.prog) (w:=w) (base:=base) T (dfL X G d4) Fa;have Fb:=ri (P:=l.prog) (w:=w) (base:=base) T (dfL X G d5) Fa;have FI:=mj (P:=l.prog) (w:=w) (base:=base) T (dfL X G d6) Fa;have FE:=tW (P:=l.prog) (w:=w) (base:=base) T (dfL X G d7) Fa FI;have FB:=qf (P:=l.prog) (w:=w) (base:=base) T (dfL X G d8) Fa;have FD:=sS (P:=l.prog) (w:=w) (base:=base) T (dfL X G d9) Fa;have FQ:Fn l.prog w K mg base "_law_wish" 15 ["_law_deal_here","_law_names_here","_law_rooms_here","_law_pool_here","_law_sorts"] (ij false):=(gc (n:=0) (h:=false) T L10 Fa Fb FE FB FD (by unfold jl;rw[if_neg Bool.false_ne_true];exact tF L10)).mono (by decide)
 have FP:Fn l.prog w K mg base "_law_wish" 15 ["_law_deal_here","_law_names_here","_law_rooms_here","_law_pool_here","_law_sorts"] (ij true):=(gc (n:=4) (h:=true) T L10 Fa Fb FE FB FD (by unfold jl;rw[if_pos rfl];exact gc (n:=0) (h:=false) T L10 Fa Fb FE FB FD (by unfold jl;rw[if_neg Bool.false_ne_true];exact tF L10))).mono (by decide)
 have Fw:=Cu (P:=l.prog) (w:=w) (base:=base) T (dfL X G d11);have Fc:=uv (P:=l.prog) (w:=w) (base:=base) T (dfL X G d12) Fw;have Fo:=kU (P:=l.prog) (w:=w) (base:=base) T (dfL X G d13);have FS:=kq (P:=l.prog) (w:=w) (base:=base) T (dfL X G d14) Fc;have FX:=lT (P:=l.prog) (w:=w) (base:=base) T (dfL X G d15) Fc;have FZ:=oK (P:=l.prog) (w:=w) (base:=base) T (dfL X G d16) Fo Fw;have FW:=lh (P:=l.prog) (w:=w) (base:=base) T (dfL X G d17) Fc;have FY:=oM (P:=l.prog) (w:=w) (base:=base) T (dfL X G d18) Fc Fw;have FT:=kx (P:=l.prog) (w:=w) (base:=base) T (dfL X G d19) Fo Fc;have Fad:Fn l.prog w K mg base "turned_wish" 5 ["turning","wish"] (ji):=lf (ft6 FS (dfM X G d14) tx_TURNERS_unlike FX (dfM X G d15) tx_TURNERS_many FZ (dfM X G d16) tx_TURNERS_sum FW (dfM X G d17) tx_TURNERS_table FY (dfM X G d18) tx_TURNERS_way FT (dfM X G d19) tx_TURNERS_behind) T L20
 have Fae:=mq (P:=l.prog) (w:=w) (base:=base) T (dfL X G d21) Fad Fw Fc;have Fac:Fn l.prog w K mg base "turned_wish" 7 ["turning","wish"] (qO):=lj (ft7 FS (dfM X G d14) tx_TURNERS_unlike FX (dfM X G d15) tx_TURNERS_many FZ (dfM X G d16) tx_TURNERS_sum FW (dfM X G d17) tx_TURNERS_table FY (dfM X G d18) tx_TURNERS_way FT (dfM X G d19) tx_TURNERS_behind Fae (dfM X G d21) tx_TURNERS_same) T L20
 have Fk:=oQ (P:=l.prog) (w:=w) (base:=base) T (dfL X G d22) Fb;have Fd:=oX (P:=l.prog) (w:=w) (base:=base) T (dfL X G d23);have FG:=qr (P:=l.prog) (w:=w) (base:=base) T (dfL X G d24);have Fi:=jt (P:=l.prog) (w:=w) (base:=base) T L25 Fd;have Fj:=jw (P:=l.prog) (w:=w) (base:=base) T L25 Fi Fd;have Ff:=tu (P:=l.prog) (w:=w) (base:=base) T (dfL X G d26);have FN:=nO (P:=l.prog) (w:=w) (base:=base) T (dfL X G d27);have Fl:=nL (P:=l.prog) (w:=w) (base:=base) T (dfL X G d28) FN;have Fe:=nS (P:=l.prog) (w:=w) (base:=base) T (dfL X G d29) Fl;have FK:=nK (P:=l.prog) (w:=w) (base:=base) T L30 Ff;have Fm:=on (P:=l.prog) (w:=w) (base:=base) T L31 Ff FK;have Fq:=ow (P:=l.prog) (w:=w) (base:=base) T L31 Fm Ff;have Fg:=mO (P:=l.prog) (w:=w) (base:=base) T L32 Fe Fl;have Fh:=oj (P:=l.prog) (w:=w) (base:=base) T L32 Fg Fe;have Ft:=jm (P:=l.prog) (w:=w) (base:=base) T L33 Fb;have Fy:=jr (P:=l.prog) (w:=w) (base:=base) T L33 Ft Fb;have FF:=kW (P:=l.prog) (w:=w) (base:=base) T (dfL X G d34) Fw Fc;have FL:=lN (P:=l.prog) (w:=w) (base:=base) T (dfL X G d35) Fm Fq;have Fs:=gy (P:=l.prog) (w:=w) (base:=base) T (dfL X G d36) Fac Fm Fq;have Fz:=jB (P:=l.prog) (w:=w) (base:=base) T (dfL X G d37) FF;have FH:=mo (P:=l.prog) (w:=w) (base:=base) T (dfL X G d38);have Fp:=tO (P:=l.prog) (w:=w) (base:=base) T (dfL X G d39) FH Fz FL Fs;have Fu:=ko (P:=l.prog) (w:=w) (base:=base) T (dfL X G d40) Fd Fg Fh Fi Fj;have Fr:=oW (P:=l.prog) (w:=w) (base:=base) T (dfL X G d41);have FC:=oG (P:=l.prog) (w:=w) (base:=base) T (dfL X G d42);have Fx:=jh (P:=l.prog) (w:=w) (base:=base) T (dfL X G d43) FO FC Fd;have Fv:=iF (P:=l.prog) (w:=w) (base:=base) T (dfL X G d44) Fa FP Fg Fh Fi Fj Ft Fy;have FA:=jv (P:=l.prog) (w:=w) (base:=base) T (dfL X G d45) Fa FR FV Fk Fb Fx Fv FQ;exact C1 T (nX l46 c46 k46) FU FA Fk FG Fu Fp Fr
theorem Ep {l:PySem.W.OpenLaw} {d:DefRec} {K:Params→PySem.W.Frag} (hn:l.most=some 63) (hdf:d.params.defaults=[])
  (hY : ∀(w:World) (h:Heap),YP w h→(K w.params).In h) (hT : ∀(w:World) (h:Heap),YP w h→∀t∈tabs,h.get? t.2.1=some (tabObj #[]))
  (hC : ∀w:World,∀t∈tabs,codeHdIn (K w.params) t.1 t.2.1=true) (hKt : ∀w:World,∀t∈tabs,(K w.params).lookup t.2.1=none)
  (F : ∀(w:World) (mg:Str→Option Value) (fa:Addr) (h:Heap),(K w.params).In h→h.Ns mainGlobals mg→mg d.name=some (.ref fa) →
   ∃fd:FuncData,(∀(s:Shared) (u:Value),BindsTo s fd ⟨[u],[]⟩ [("_law_script",u)])∧∀base:Heap,(K w.params).In base→base.Ns mainGlobals mg→iH mg base→gY l.prog w (K w.params) mg base CX0 30 fa fd ["_law_script"] (vH (K w.params))) :
  PySem.W.WalkO q loose XP YP l.row.toRowW d [] (fun f vs=>PySem.call f vs) :=
 L2.yA (n:=63) (k:=30) (x := "_law_script") (tabs:=tabs) (sp:=fun w=>vH (K w.params)) hn (by decide) hdf ⟨rfl,by decide,by decide⟩ hY hT hC hKt (by decide) F (fun _ _ a ns hl hT hS=>⟨a,ns,rfl,hS,hl,hT,fun _ z=>⟨rfl,z⟩⟩)
end Lw
variable {W:Lw.Wi} {Ws:List Lw.Wx}
open PySem PySem.W PyProof.Rows
local macro_rules | `(tactic| ctx_has kj $ids*) => `(tactic| ($[case $ids:ident => (change _ = _; k_is)];*))
local macro_rules | `(tactic| ctx_has kk) => `(tactic| (refine' Lw.dfI ?a ?l ?c ?k; (case a => k_is); (case l => k_is); (case c => k_is); (case k => k_is)))
local macro_rules | `(tactic| ctx_has kd $ids*) => `(tactic| ($[case $ids:ident => ctx_has kk];*))
local macro_rules | `(tactic| o_head $H) => do
  let hw:=Lean.mkIdent `hw
  let hc:=Lean.mkIdent `hc
  `(tactic| (refine holds_open (q:=Lw.eU) (hY:=Hook.of $H) (hYk:=Hook.keeps $H) (YP:=Hook.says $H) (XP:=XL Lw.eU List.nil) (Xt:=Lw.hX)
                Lw.hl (fun s e=>xl_of s (Bool.and_eq_true_iff.mp e).1) XL.keeps (by rfl) (by rfl) (by rfl)
                (fun s e=>recFacts_of (Bool.and_eq_true_iff.mp e).2) (by rfl) (by assumption) (by decide+kernel)
                ⟨rfl,rfl,rfl,rfl,rfl,by decide+kernel⟩ ?$hw ?$hc))
set_option maxHeartbeats 0 in
theorem PySem.Challenge.cw_seekhall_k52_halls_led_on_holds : PySem.Challenge.rw_seekhall_k52_halls_led_on.Holds := by
  w_on;o_law;o_head (kmHook Lw.Bf.heap_1 Lw.hAs Lw.hAe [103,108]);(case hw=>w_witness2)
  k_fill
  refine Lw.Ep (l:=PySem.Challenge.rw_seekhall_k52_halls_led_on) rfl rfl (fun w h Y=>PySem.W.km_in_of Y) ?hT ?hC ?hKt ?F
  (case hT=>(intro w h Y t ht;have z:=PySem.W.km_tabs_of Y;simp only[Lw.tabs,mem_cons,not_mem_nil,or_false] at ht;rcases ht with rfl | rfl <;> exact z _ (by decide)))
  (case hC=>(intro w t ht;simp only[Lw.tabs,mem_cons,not_mem_nil,or_false] at ht;rcases ht with rfl | rfl <;> kernel_rfl))
  (case hKt=>(intro w t ht;simp only[Lw.tabs,mem_cons,not_mem_nil,or_false] at ht;rcases ht with rfl | rfl <;> kernel_rfl))
  case F =>
    intro w mg fa h KX G hmg
    refine' Lw.BH KX G hmg ?d0 ?d1 ?d2 ?d3 ?d4 ?d5 ?d6 ?d7 ?d8 ?d9 ?d10 ?d11 ?d12 ?d13 ?d14 ?d15 ?d16 ?d17 ?d18 ?d19 ?d20 ?d21 ?d22 ?d23 ?d24 ?d25 ?d26 ?d27 ?d28 ?d29 ?a30 ?l30 ?c30 ?k30 ?hcd30 ?htb30 ?a31 ?l31 ?c31 ?k31 ?hcd31 ?htb31 ?d32 ?d33 ?d34 ?d35 ?d36 ?d37 ?d38 ?d39 ?d40 ?d41 ?d42 ?d43 ?d44 ?d45 ?a46 ?l46 ?c46 ?k46 ?z0 ?z1 ?z2 ?z3 ?z4 ?z5 ?z6 ?z7 ?z8 ?z9 ?z10 ?z11 ?z12 ?z13 ?z14 ?z15 ?aC_TURNERS ?tl_TURNERS ?tk_TURNERS ?tx_TURNERS_unlike ?tx_TURNERS_many ?tx_TURNERS_sum ?tx_TURNERS_table ?tx_TURNERS_way ?tx_TURNERS_behind ?tx_TURNERS_same
    ctx_has kd d0 d1 d2 d3 d4 d5 d6 d7 d8 d9 d10 d11 d12 d13 d14 d15 d16 d17 d18 d19 d20 d21 d22 d23 d24 d25 d26 d27 d28 d29
    ctx_has kj a30 l30 c30 k30
    (case hcd30=>rfl)
    (case htb30=>kernel_rfl)
    ctx_has kj a31 l31 c31 k31
    (case hcd31=>rfl)
    (case htb31=>kernel_rfl)
    ctx_has kd d32 d33 d34 d35 d36 d37 d38 d39 d40 d41 d42 d43 d44 d45
    ctx_has kj a46 l46 c46 k46 z0 z1 z2 z3 z4 z5 z6 z7 z8 z9 z10 z11 z12 z13 z14 z15 aC_TURNERS tl_TURNERS
    (case tk_TURNERS=>k_keys)
    ctx_has kj tx_TURNERS_unlike tx_TURNERS_many tx_TURNERS_sum tx_TURNERS_table tx_TURNERS_way tx_TURNERS_behind tx_TURNERS_same
