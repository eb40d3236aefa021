import PyProof.Rows.All
import Wide.All
import OpenK.AllK
import Wide.FinOn
import Lean
import PyProof.EqAt
import PyProof.EqKinds
import PyProof.TupleCall
import PySem.Challenge.RW_seekhall_k55_whole_turnings_behind_one_a
set_option Elab.async false
set_option linter.all false
set_option compiler.extract_closed false
set_option maxRecDepth 100000
set_option maxHeartbeats 4000000
namespace Ob
variable {C p q r s t u v w x y z k l m : Prop} {A B D E F G H I J : Sort _}
theorem e1 {P : A → Prop} (h : ∃ a, P a) (f : ∀ a, P a → C) : C := h.elim f
theorem e2 {P : A → B → Prop} (h : ∃ a b, P a b) (f : ∀ a b, P a b → C) : C := h.elim fun a h => e1 h (f a)
theorem e3 {P : A → B → D → Prop} (h : ∃ a b d, P a b d) (f : ∀ a b d, P a b d → C) : C := h.elim fun a h => e2 h (f a)
theorem e4 {P : A → B → D → E → Prop} (h : ∃ a b d e, P a b d e) (f : ∀ a b d e, P a b d e → C) : C := h.elim fun a h => e3 h (f a)
theorem e5 {P : A → B → D → E → F → Prop} (h : ∃ a b d e f, P a b d e f) (f : ∀ a b d e f, P a b d e f → C) : C := h.elim fun a h => e4 h (f a)
theorem e6 {P : A → B → D → E → F → G → Prop} (h : ∃ a b d e f g, P a b d e f g) (f : ∀ a b d e f g, P a b d e f g → C) : C := h.elim fun a h => e5 h (f a)
theorem e7 {P : A → B → D → E → F → G → H → Prop} (h : ∃ a b d e f g h, P a b d e f g h) (f : ∀ a b d e f g h, P a b d e f g h → C) : C := h.elim fun a h => e6 h (f a)
theorem e8 {P : A → B → D → E → F → G → H → I → Prop} (h : ∃ a b d e f g h i, P a b d e f g h i) (f : ∀ a b d e f g h i, P a b d e f g h i → C) : C := h.elim fun a h => e7 h (f a)
theorem e9 {P : A → B → D → E → F → G → H → I → J → Prop} (h : ∃ a b d e f g h i j, P a b d e f g h i j) (f : ∀ a b d e f g h i j, P a b d e f g h i j → C) : C := h.elim fun a h => e8 h (f a)
theorem i2 {P : A → B → Prop} (a : A) (b : B) (o : P a b) : ∃ a b, P a b := ⟨a, b, o⟩
theorem i3 {P : A → B → D → Prop} (a : A) (b : B) (d : D) (o : P a b d) : ∃ a b d, P a b d := ⟨a, b, d, o⟩
theorem i4 {P : A → B → D → E → Prop} (a : A) (b : B) (d : D) (e : E) (o : P a b d e) : ∃ a b d e, P a b d e := ⟨a, b, d, e, o⟩
theorem i5 {P : A → B → D → E → F → Prop} (a : A) (b : B) (d : D) (e : E) (f : F) (o : P a b d e f) : ∃ a b d e f, P a b d e f := ⟨a, b, d, e, f, o⟩
theorem i6 {P : A → B → D → E → F → G → Prop} (a : A) (b : B) (d : D) (e : E) (f : F) (g : G) (o : P a b d e f g) : ∃ a b d e f g, P a b d e f g := ⟨a, b, d, e, f, g, o⟩
theorem i7 {P : A → B → D → E → F → G → H → Prop} (a : A) (b : B) (d : D) (e : E) (f : F) (g : G) (h : H) (o : P a b d e f g h) : ∃ a b d e f g h, P a b d e f g h := ⟨a, b, d, e, f, g, h, o⟩
theorem i8 {P : A → B → D → E → F → G → H → I → Prop} (a : A) (b : B) (d : D) (e : E) (f : F) (g : G) (h : H) (i : I) (o : P a b d e f g h i) : ∃ a b d e f g h i, P a b d e f g h i := ⟨a, b, d, e, f, g, h, i, o⟩
theorem i9 {P : A → B → D → E → F → G → H → I → J → Prop} (a : A) (b : B) (d : D) (e : E) (f : F) (g : G) (h : H) (i : I) (j : J) (o : P a b d e f g h i j) : ∃ a b d e f g h i j, P a b d e f g h i j := ⟨a, b, d, e, f, g, h, i, j, o⟩
theorem c2 (h : p ∧ q) (f : p → q → C) : C := f h.1 h.2
theorem c3 (h : p ∧ q ∧ r) (f : p → q → r → C) : C := c2 h.2 (f h.1)
theorem c4 (h : p ∧ q ∧ r ∧ s) (f : p → q → r → s → C) : C := c3 h.2 (f h.1)
theorem c5 (h : p ∧ q ∧ r ∧ s ∧ t) (f : p → q → r → s → t → C) : C := c4 h.2 (f h.1)
theorem c6 (h : p ∧ q ∧ r ∧ s ∧ t ∧ u) (f : p → q → r → s → t → u → C) : C := c5 h.2 (f h.1)
theorem c7 (h : p ∧ q ∧ r ∧ s ∧ t ∧ u ∧ v) (f : p → q → r → s → t → u → v → C) : C := c6 h.2 (f h.1)
theorem c8 (h : p ∧ q ∧ r ∧ s ∧ t ∧ u ∧ v ∧ w) (f : p → q → r → s → t → u → v → w → C) : C := c7 h.2 (f h.1)
theorem c9 (h : p ∧ q ∧ r ∧ s ∧ t ∧ u ∧ v ∧ w ∧ x) (f : p → q → r → s → t → u → v → w → x → C) : C := c8 h.2 (f h.1)
theorem c10 (h : p ∧ q ∧ r ∧ s ∧ t ∧ u ∧ v ∧ w ∧ x ∧ y) (f : p → q → r → s → t → u → v → w → x → y → C) : C := c9 h.2 (f h.1)
theorem c11 (h : p ∧ q ∧ r ∧ s ∧ t ∧ u ∧ v ∧ w ∧ x ∧ y ∧ z) (f : p → q → r → s → t → u → v → w → x → y → z → C) : C := c10 h.2 (f h.1)
theorem c12 (h : p ∧ q ∧ r ∧ s ∧ t ∧ u ∧ v ∧ w ∧ x ∧ y ∧ z ∧ k) (f : p → q → r → s → t → u → v → w → x → y → z → k → C) : C := c11 h.2 (f h.1)
theorem c13 (h : p ∧ q ∧ r ∧ s ∧ t ∧ u ∧ v ∧ w ∧ x ∧ y ∧ z ∧ k ∧ l) (f : p → q → r → s → t → u → v → w → x → y → z → k → l → C) : C := c12 h.2 (f h.1)
theorem c14 (h : p ∧ q ∧ r ∧ s ∧ t ∧ u ∧ v ∧ w ∧ x ∧ y ∧ z ∧ k ∧ l ∧ m) (f : p → q → r → s → t → u → v → w → x → y → z → k → l → m → C) : C := c13 h.2 (f h.1)
end Ob
open Lean Lean.Parser.Tactic in
local macro_rules
 | `(tactic| obtain $p:rcasesPatMed := $e:term) => do
  let pl : TSyntax ``rcasesPatLo := ⟨mkNode ``rcasesPatLo #[p, mkNullNode]⟩
  let plain ← `(tactic| rcases $e:term with $pl)
  let q := p.raw[0][0]
  let ps := q[1].getSepArgs
  let n := ps.size
  if p.raw[0].getNumArgs != 1 || q.getKind != ``rcasesPat.tuple || n < 2 || n > 20 then return plain
  let mut nm : Array Ident := #[]
  let mut fs : Array (TSyntax `tactic) := #[]
  let cl (b : Term) : MacroM Term := if e.raw.isIdent then `(clear% $(⟨e.raw⟩); $b) else pure b
  for x in ps do
    let v := x[0][0][0]
    if x[1].getNumArgs == 0 && x[0][0].getNumArgs == 1 && v.getKind == ``rcasesPat.one && v[0].getId != `rfl then nm := nm.push ⟨v[0]⟩
    else
      let y := mkIdent (.mkSimple s!"hX{nm.size}")
      nm := nm.push y
      fs := fs.push (← `(tactic| all_goals rcases $y:ident with $(⟨x⟩)))
  let mut alts : Array (TSyntax `tactic) := #[]
  for d in [0:n] do
    let m := n - 1 - d
    let k := n - m
    if m ≤ 9 && k ≤ 14 then
      let f := mkIdent (.mkStr `Ob s!"e{m}")
      let g := mkIdent (.mkStr `Ob s!"c{k}")
      let xs := nm.extract 0 m
      let ys := nm.extract m n
      let b ← cl (← if m == 0 then `(fun $ys* => ?_) else if k == 1 then `(fun $xs* $(ys[0]!) => ?_) else `(fun $xs* hW => $g hW (clear% hW; fun $ys* => ?_)))
      alts := alts.push (← if m == 0 then `(tactic| refine $g $e $b) else `(tactic| refine $f $e $b))
  `(tactic| first | (refine Classical.byContradiction fun hN => ?_; (first $[| $alts:tactic]*); ($[$fs:tactic];*); all_goals (refine hN ?_; clear hN)) | $plain:tactic)
 | `(tactic| rintro $[$rs:rintroPat]*) => do
  let mut ts : Array (TSyntax `tactic) := #[]
  for r in rs do
    let v := r.raw[0]
    if v.getKind == ``rcasesPat.one && v[0].getId != `rfl then ts := ts.push (← `(tactic| intro $(⟨v[0]⟩):ident))
    else if v.getKind == ``rcasesPat.tuple then
      let p : TSyntax ``rcasesPatMed := ⟨mkNode ``rcasesPatMed #[mkNullNode #[v]]⟩
      ts := ts.push (← `(tactic| (intro hY; obtain $p := hY)))
    else Macro.throwUnsupported
  `(tactic| ($[$ts:tactic];*))
 | `(tactic| refine $t:term) => do
  let xs : Array Term := t.raw[1].getSepArgs.map (⟨·⟩)
  let n := xs.size
  if t.raw.getKind != `Lean.Parser.Term.anonymousCtor || n < 3 then Macro.throwUnsupported
  let mut alts : Array (TSyntax `tactic) := #[]
  for d in [1:n] do
    let m := n - d
    if 2 ≤ m && m ≤ 9 then
      let r := xs.extract m n
      let r : Term ← if r.size == 1 then pure r[0]! else `(⟨$r,*⟩)
      let f := mkIdent (.mkStr `Ob s!"i{m}")
      alts := alts.push (← `(tactic| refine $f $(xs.extract 0 m)* $r))
  `(tactic| first $[| $alts:tactic]* | refine ($t))
local macro_rules | `(tactic| omega) => `(tactic| first | with_reducible assumption | decide +kernel | lia | omega +splitDisjunctions)
variable {A:PySem.Around} {E Q Qf xe:PySem.Value->PySem.Shared->Prop} {Ev:PySem.Value->PySem.Value->Prop} {G:List PySem.Value->Prop} {K:PySem.W.Frag} {M:PySem.Model} {N cs' loose names ps w2 ws ws':List PySem.Str} {P prog q:PySem.Program} {R:PySem.Result->PySem.Shared->Prop} {T:String} {XP:(PySem.Str->Option PySem.Value)->PySem.Heap->Prop} {Xt:PySem.Shared->Bool} {YP:PySem.World->PySem.Heap->Prop} {a b c c' d dx f f0 f1 f2 f3 f4 f5 fa it l na pa ra so t tn va:PySem.Addr} {acc items:Array PySem.Value} {apos cpos p1 p2 p3 pos pos' pos2:PySem.Pos} {as:List (PySem.Addr × Int × Int × Int)} {base h h':PySem.Heap} {body rest:List PySem.Stmt} {cd cdv ct ctv doc oc pm u v vl vu:PySem.Value} {ch fp:List PySem.Addr} {cl clos closure:List (PySem.Str × PySem.Addr)} {cmp:Nat->Nat->(Bool->PySem.Shared->Prop)->PySem.Shared->Prop} {cs:List (PySem.Addr × PySem.Str × PySem.Addr × List Int)} {d':PySem.Drawn} {ds:List (PySem.Str × List Int)} {e e1 elt iter oe slice tg value:PySem.Expr} {elts es ifs values:List PySem.Expr} {env:PySem.Env} {ep j k kk n nt t' tk:Nat} {fd:PySem.FuncData} {func od:Option PySem.Addr} {g:Int->Int} {g':Array PySem.GenState} {hi lo:Option Int} {i:Int} {its us:List PySem.Value} {js pl:List Nat} {kf:List (PySem.Str × Int)} {m1 m2 mS sS:List (PySem.Str × PySem.Str)} {mA mb mg:PySem.Str->Option PySem.Value} {mI sI:List (Int × Int)} {ms n2 ns pool rs:List Int} {name qual x:PySem.Str} {nm:Bool} {op':PySem.CmpOp} {osl sl:Array (Option PySem.Value)} {outer:List PySem.Env} {p:Array Nat} {params:PySem.Arguments} {pins pins':List (PySem.Addr × PySem.Obj)} {rm:PySem.Str->List Int} {rows:List (List Int)} {s s' s₁:PySem.Shared} {sc scope:PySem.Scope} {st:PySem.Stmt} {use:Option (PySem.Value->PySem.Sem Unit)} {w:PySem.World} {ys:List (PySem.Str × PySem.Addr × List Int)} {α β κ:Type} {φ:PySem.Heap->Prop}
open List (all_cons all_eq_true all_map any_cons any_eq_true append_assoc append_nil cons_append cons_lt_cons_iff drop_zero ext_getElem? find?_cons find?_eq_none find?_some foldl_append forIn_cons getD_eq_getElem?_getD length_append length_cons length_drop length_eq_zero_iff length_map length_nil length_pos_iff length_range length_take length_take_le lookup_cons map_append map_congr_left map_cons map_drop map_eq_nil_iff map_fst_zip map_id map_id' map_map map_nil map_snd_zip map_take mem_append mem_append_left mem_append_right mem_cons mem_cons_of_mem mem_cons_self mem_filter mem_map mem_of_find?_eq_some mem_of_getElem? mem_of_mem_take mem_range mem_singleton nil_append nodup_append nodup_cons not_mem_nil of_mem_zip pairwise_cons pairwise_map perm_cons perm_middle range range' replicate size_toArray take_add_one take_length take_of_length_le take_sublist)
open PySem.W (callWith_K codeHdIn codeHd_of_K codeIn findIn fnOf instObj kdl_call keepIn keq_eq keq_ne kia_one kitOne kitx_dict kitx_list lookIn methodObj mg_none_of mg_of nsIn plainGet tabObj)
open Nat (le_of_eq le_of_lt le_of_succ_le le_refl le_succ le_trans lt_irrefl lt_of_lt_of_le lt_succ_of_lt lt_trans min_eq_left ne_of_gt ne_of_lt zero_le)
open Option (getD_none getD_some isNone isSome_iff_exists isSome_map isSome_some map_bind map_eq_some_iff)
open Array (ext' getD_eq_getD_getElem? length_toList toArray_toList toList_inj)
namespace Lw
open PySem PySem.W PySem.Calls PyProof.Rows
theorem left_two {p:Program} {U:Shared->α} {F:World->α} {N:Nat} (z:String)
  (h1 : ∀w:World,(fencedOpening treeTable p w N).bind (λB=>(topFrom treeTable p (w.withFollow z false) N B).map (λs=>(openSeen q loose (importedModules p.main.body) Xt true s,U s)))=some (openGood q loose,F (w.withFollow z false)))
  (h2 : ∀w:World,(fencedOpening treeTable p w N).bind (λB=>(topFrom treeTable p (w.withFollow z true) N B).map (λs=>(openSeen q loose (importedModules p.main.body) Xt true s,U s)))=some (openGood q loose,F (w.withFollow z true))):LeftO p q loose Xt U F N:=λw=>by
 have e:=World.withFollow_self w z;unfold openEnds;rw[map_bind];cases Y:w.params.followText z <;> rw[Y] at e
 .have:=h1 w;rw[e] at this;exact this
 .have:=h2 w;rw[e] at this;exact this
def top (i:Nat):Stmt:=PySem.Challenge.pw_seekhall_k55_whole_turnings_behind_one_a.main.body.getD i (.Pass ⟨0,0,0,0⟩)
noncomputable def eU:Program:={ PySem.Challenge.pw_seekhall_k55_whole_turnings_behind_one_a with main:={ PySem.Challenge.pw_seekhall_k55_whole_turnings_behind_one_a.main with body:=[1,2,3,4,6,8,9,10,11,12,13,14,15,16,17,18,19,20,21,22,23,24,25,26,27,28,29,30,32,33,34,35,36,37,38,39,40,41,42,43,44,45,46,47,48,49,50,51,52,53,54,55,56,57,58].map top } }
section
local macro_rules | `(tactic| o_head $H) => `(tactic| (have z := $H; assumption))
set_option maxHeartbeats 0 in
theorem De (h:PySem.Challenge.rw_seekhall_k55_whole_turnings_behind_one_a.row.Holds):PySem.Challenge.rw_seekhall_k55_whole_turnings_behind_one_a.row.Holds:=by
 k_head
end
def hAs:List Addr:=[2,3,15,16,18,19,21,22,23,26,27,28,30,31,33,34,35,38,39,40,42,43,45,46,47,49,50,52,53,54,57,58,59,62,63,64,67,68,69,71,72,74,75,76,78,79,81,82,83,86,87,88,91,92,93,96,97,98,101,102,103,105,106,108,109,110,112,113,115,116,117,118,120,121,123,124,125,127,128,130,131,132,135,136,137,139,140,142,143,144,146,147,149,150,151,153,154,156,157,158,161,162,163,165,166,168,169,170,173,174,175,177,178,180,181,182,185,186,187,189,190,192,193,194,197,198,199,201,202,204,205,206,208,209,211,212,213,216,217,218,221,222,223,226,227,228,231,232,233,235,236,238,239,240,243,244,245,248,249,250,252,253,255,256,257,260,261,262,264,265,267,268,269,272,273,274,277,278,279,281,282,284,285,286,288,289,291,292,293,295,296,298,299,300,303,304,305,307,308,310,311,312,314,315,317,318,319,321,322,324,325,326,329,330]
theorem hAe : ∀P,hAs=(De.heap_1 P).map (·.1):=λ_=>by kernel_rfl
noncomputable abbrev hK:Hook:=kmHook De.heap_1 hAs hAe [133,138]
noncomputable def hX (s:Shared):Bool:=xlAt eU List.nil s && recOk (RowW.records PySem.Challenge.rw_seekhall_k55_whole_turnings_behind_one_a.row.toRowW) s
abbrev CL (b:Bool):Prop:=∀w:World,(fencedOpening treeTable PySem.Challenge.pw_seekhall_k55_whole_turnings_behind_one_a w 11800).bind (λz=>(topFrom treeTable PySem.Challenge.pw_seekhall_k55_whole_turnings_behind_one_a (w.withFollow "special-get-raises" b) 11800 z).map (λs=>(openSeen eU [Str.ofString "TURNERS"] (importedModules PySem.Challenge.pw_seekhall_k55_whole_turnings_behind_one_a.main.body) hX true s,Hook.obs hK s)))=some (openGood eU [Str.ofString "TURNERS"],Hook.val hK (w.withFollow "special-get-raises" b))
theorem CY {σ A B C D E:Type} {o:Option σ} {k:σ->Option σ} {f1:σ->A} {f2:σ->B} {f3:σ->C} {f4:σ->D} {W:σ->E} {U:A} {a2:B} {Y:C} {a4:D} {v:E} (h1:o.bind (λs=>(k s).map f1)=some U) (h2:o.bind (λs=>(k s).map f2)=some a2) (F:o.bind (λs=>(k s).map f3)=some Y) (z:o.bind (λs=>(k s).map f4)=some a4) (H : ∀s,f1 s=U->f2 s=a2->f3 s=Y->f4 s=a4->W s=v):o.bind (λs=>(k s).map W)=some v:=by
 cases o with
 | none=>cases h1
 | some s =>
  change (k s).map f1=_ at h1;change (k s).map f2=_ at h2;change (k s).map f3=_ at F;change (k s).map f4=_ at z;change (k s).map W=_;cases Z:k s with
  | none=>rw[Z] at h1;cases h1
  | some t =>
   rw[Z] at h1 h2 F z;exact congrArg some (H t (Option.some.inj h1) (Option.some.inj h2) (Option.some.inj F) (Option.some.inj z))
theorem C3 {A B C D G:Type} {x y:A × B × C × D} {u v:G} (h1:x.1=y.1) (h2:(x.2.1,x.2.2.1)=(y.2.1,y.2.2.1)) (F:x.2.2.2=y.2.2.2) (z:u=v):(x,u)=(y,v):=by
 obtain⟨a,b,c,d⟩:=x;obtain⟨U,Y,c',d'⟩:=y;cases h1;cases h2;cases F;cases z;rfl
abbrev hS0 (b:Bool):Prop:=∀w:World,(fencedOpening treeTable PySem.Challenge.pw_seekhall_k55_whole_turnings_behind_one_a w 11800).bind (λz=>(topFrom treeTable PySem.Challenge.pw_seekhall_k55_whole_turnings_behind_one_a (w.withFollow "special-get-raises" b) 11800 z).map (λs=>(openSeen eU [Str.ofString "TURNERS"] (importedModules PySem.Challenge.pw_seekhall_k55_whole_turnings_behind_one_a.main.body) hX true s).1))=some ((openGood eU [Str.ofString "TURNERS"]).1)
theorem G7:hS0 false:=by intro w;kernel_rfl
theorem GO:hS0 true:=by intro w;kernel_rfl
abbrev hS1 (b:Bool):Prop:=∀w:World,(fencedOpening treeTable PySem.Challenge.pw_seekhall_k55_whole_turnings_behind_one_a w 11800).bind (λz=>(topFrom treeTable PySem.Challenge.pw_seekhall_k55_whole_turnings_behind_one_a (w.withFollow "special-get-raises" b) 11800 z).map (λs=>((openSeen eU [Str.ofString "TURNERS"] (importedModules PySem.Challenge.pw_seekhall_k55_whole_turnings_behind_one_a.main.body) hX true s).2.1,(openSeen eU [Str.ofString "TURNERS"] (importedModules PySem.Challenge.pw_seekhall_k55_whole_turnings_behind_one_a.main.body) hX true s).2.2.1)))=some ((openGood eU [Str.ofString "TURNERS"]).2.1,(openGood eU [Str.ofString "TURNERS"]).2.2.1)
theorem Gr:hS1 false:=by intro w;kernel_rfl
theorem GC:hS1 true:=by intro w;kernel_rfl
abbrev hS2 (b:Bool):Prop:=∀w:World,(fencedOpening treeTable PySem.Challenge.pw_seekhall_k55_whole_turnings_behind_one_a w 11800).bind (λz=>(topFrom treeTable PySem.Challenge.pw_seekhall_k55_whole_turnings_behind_one_a (w.withFollow "special-get-raises" b) 11800 z).map (λs=>(openSeen eU [Str.ofString "TURNERS"] (importedModules PySem.Challenge.pw_seekhall_k55_whole_turnings_behind_one_a.main.body) hX true s).2.2.2))=some ((openGood eU [Str.ofString "TURNERS"]).2.2.2)
theorem Hn:hS2 false:=by intro w;kernel_rfl
theorem Hb:hS2 true:=by intro w;kernel_rfl
abbrev hS3 (b:Bool):Prop:=∀w:World,(fencedOpening treeTable PySem.Challenge.pw_seekhall_k55_whole_turnings_behind_one_a w 11800).bind (λz=>(topFrom treeTable PySem.Challenge.pw_seekhall_k55_whole_turnings_behind_one_a (w.withFollow "special-get-raises" b) 11800 z).map (λs=>Hook.obs hK s))=some (Hook.val hK (w.withFollow "special-get-raises" b))
theorem GN:hS3 false:=by intro w;kernel_rfl
theorem G4:hS3 true:=by intro w;kernel_rfl
theorem hl1:CL false:=λw=>CY (G7 w) (Gr w) (Hn w) (GN w) λs e1 e2 z B=>C3 e1 e2 z B
theorem hl2:CL true:=λw=>CY (GO w) (GC w) (Hb w) (G4 w) λs e1 e2 z B=>C3 e1 e2 z B
theorem hl:LeftO PySem.Challenge.pw_seekhall_k55_whole_turnings_behind_one_a eU [Str.ofString "TURNERS"] hX (Hook.obs hK) (Hook.val hK) 11800:=left_two "special-get-raises" hl1 hl2
end Lw
namespace L2
open PySem PySem.Spec PyProof.Rows
abbrev Key:=Sum Int Str
def kZ:Key->Value->Bool
 | .inl k,v=>Value.isInt k v
 | .inr x,v=>Value.isStrOf x v
def Gj (w:World):Key->Int
 | .inl k=>hashInt k
 | .inr x=>hashStr w x
theorem bA : ∀{k:Key} {v:Value},kZ k v=true->(∃i t,k=Sum.inl i/\v=Value.int i t)\/(∃x t,k=Sum.inr x/\v=Value.str x t)
 | .inl i,v,h=>by
  obtain⟨t,e⟩:=Value.isInt_shape (k:=i) (v:=v) h;exact .inl ⟨i,t,rfl,e⟩
 | .inr x,v,h=>by
  obtain⟨t,e⟩:=Value.isStrOf_shape (x:=x) (v:=v) h;exact .inr ⟨x,t,rfl,e⟩
theorem yf (i:Int) (t:Tok):kZ (.inl i) (.int i t)=true:=by simp[kZ,Value.isInt]
theorem yE (x:Str) (t:Tok):kZ (.inr x) (.str x t)=true:=by simp[kZ,Value.isStrOf]
theorem F7 (a b:Int):decide ((Sum.inl a:Key)=Sum.inl b)=(a == b):=by
 by_cases e:a=b
 .subst e;simp
 .have h : ¬ (Sum.inl a:Key)=Sum.inl b:=λq=>e (Sum.inl.inj q)
  rw[decide_eq_false h];exact(beq_eq_false_iff_ne.mpr e).symm
theorem Dj (a b:Str):decide ((Sum.inr a:Key)=Sum.inr b)=decide (a=b):=by
 by_cases e:a=b
 .subst e;simp
 .have h : ¬ (Sum.inr a:Key)=Sum.inr b:=λq=>e (Sum.inr.inj q)
  rw[decide_eq_false h,decide_eq_false e]
theorem DE (a:Int) (b:Str):decide ((Sum.inl a:Key)=Sum.inr b)=false:=decide_eq_false (λq=>nomatch q)
theorem DZ (a:Str) (b:Int):decide ((Sum.inr a:Key)=Sum.inl b)=false:=decide_eq_false (λq=>nomatch q)
def aU (prog:Program) (w:World):PySem.KeyKind prog w Key where
 is:=kZ
 hash:=Gj w
 inj := λv a b F B=>by
  rcases bA F with⟨i,t,rfl,rfl⟩ | ⟨x,t,rfl,rfl⟩
  .rcases bA B with⟨j,u,rfl,e⟩ | ⟨y,u,rfl,e⟩
   .injection e with e1 _;rw[e1]
   .exact nomatch e
  .rcases bA B with⟨j,u,rfl,e⟩ | ⟨y,u,rfl,e⟩
   .exact nomatch e
   .injection e with e1 _;rw[e1]
 byValue:=λk v h=>by
  rcases bA h with⟨i,t,rfl,rfl⟩ | ⟨x,t,rfl,rfl⟩ <;> rfl
 pyHash:=λz h=>by
  rcases bA z with⟨i,t,rfl,rfl⟩ | ⟨x,t,rfl,rfl⟩
  .exact wpAny_pyHash_int h
  .exact wpAny_pyHash_str h
 eqBool:=λU z h=>by
  rcases bA U with⟨i,t,rfl,rfl⟩ | ⟨x,t,rfl,rfl⟩
  .rcases bA z with⟨j,u,rfl,rfl⟩ | ⟨y,u,rfl,rfl⟩
   .rw[F7] at h;exact wpAny_eqBool_int h
   .rw[DE] at h;exact SeqAt.EqAt.int_str i t y u _ _ _ _ h
  .rcases bA z with⟨j,u,rfl,rfl⟩ | ⟨y,u,rfl,rfl⟩
   .rw[DZ] at h;exact SeqAt.EqAt.str_int x t j u _ _ _ _ h
   .rw[Dj] at h;exact wpAny_eqBool_str h
 «strs» := λk x t v h=>by
  rcases bA h with⟨i,u,rfl,e⟩ | ⟨y,u,rfl,e⟩
  .exact nomatch e
  .injection e with e1 _
   subst e1
   cases v <;> rfl
theorem uq (prog:Program) (w:World) (i:Int) (t:Tok):(aU prog w).is (.inl i) (.int i t)=true:=yf i t
theorem uf (prog:Program) (w:World) (x:Str) (t:Tok):(aU prog w).is (.inr x) (.str x t)=true:=yE x t
inductive V where
 | non | bl (b:Bool) | int (i:Int) | str (x:Str) | byt (b:Array UInt8) | flt (b:UInt64) | ref (a:Addr) | ty (n:String)
 deriving DecidableEq
def aY:V->Value->Prop
 | .non,u=>u=Value.none
 | .bl b,u=>u=Value.bool b
 | .int i,u=>∃t,u=Value.int i t
 | .str x,u=>∃t,u=Value.str x t
 | .byt b,u=>∃t,u=Value.bytes b t
 | .flt b,u=>∃t,u=Value.float b t
 | .ref a,u=>u=Value.ref a
 | .ty n,u=>u=Value.type n
abbrev aR:List V->List Value->Prop:=Paired aY
theorem aR.length {xs:List V} {us:List Value} (r:aR xs us):xs.length=us.length:=Paired.length r
theorem aR.get : ∀{xs:List V} {us:List Value} {i:Nat} {x:V},aR xs us->xs[i]? = some x->∃u,us[i]? = some u/\aY x u
 | _,_,_,_,.nil,e=>by simp at e
 | _,_,0,_,.cons r _,e=>by simp at e;subst e;exact⟨_,rfl,r⟩
 | _,_,i+1,x,.cons _ t,e=>by
  obtain⟨u,h1,h2⟩:=aR.get (i:=i) (x:=x) t (by simpa using e)
  exact⟨u,by simpa using h1,h2⟩
theorem aR.append : ∀{xs ys:List V} {us ws:List Value},aR xs us->aR ys ws->aR (xs++ys) (us++ws)
 | _,_,_,_,.nil,s=>s
 | _,_,_,_,.cons r t,s=>.cons r (aR.append t s)
theorem aR.take : ∀{xs:List V} {us:List Value} (n:Nat),aR xs us->aR (xs.take n) (us.take n)
 | _,_,0,_=>.nil
 | _,_,_+1,.nil=>.nil
 | _,_,n+1,.cons r t=>.cons r (aR.take n t)
theorem aR.drop : ∀{xs:List V} {us:List Value} (n:Nat),aR xs us->aR (xs.drop n) (us.drop n)
 | _,_,0,r=>r
 | _,_,_+1,.nil=>.nil
 | _,_,n+1,.cons _ t=>aR.drop n t
def iN:Option V->Option Value->Prop
 | some v,some u=>aY v u
 | none,none=>True
 | _,_=>False
def KV {κ:Type}:List (κ × V)->List (κ × Value)->Prop:=Paired λ(p:κ × V) (q:κ × Value)=>p.1=q.1/\aY p.2 q.2
def kV:Key->V
 | .inl i=>.int i
 | .inr x=>.str x
inductive HO where
 | lst (xs:List V)
 | tup (xs:List V)
 | dK (kvs:List (Key × V)) | dT (kvs:List (List Key × V))
 | set (S:Int->Bool) (n:Nat)
 | ins (C dx:Addr) (fs:List (Str × V))
 | own (x:Addr)
 | xd (fs:List (Str × V))
 | met (f x:Addr)
 | rng (lo hi:Int)
 | frz (o:Obj) (u:HO)
 | tbl (ps:Array Value)
 | tab (q:Str)
 | ext (φ:Heap->Prop)
abbrev Hp:=Addr->Option HO
def upd (H:Hp) (a:Addr) (o:HO):Hp:=λb=>if b=a then some o else H b
theorem ab {H:Hp} {o:HO}:upd H a o a=some o:=by unfold upd;rw[if_pos rfl]
theorem ag {H:Hp} {o:HO} (h:b≠a):upd H a o b=H b:=by unfold upd;rw[if_neg h]
theorem aX {H:Hp} {o u:HO} (h:H a=some o) (h':H b=some u) (d:o≠u):a≠b:=by
 intro e;subst e;rw[h] at h';exact d (Option.some.inj h')
theorem aj {H:Hp} {o:HO} (h:H a=some o) (h':H b=none):a≠b:=by
 intro e;subst e;rw[h] at h';cases h'
section
variable (P:Program) (w:World)
def Gi (o:Obj) (q:Str):Prop:=∃vs t,o.data = .fields vs/\vs[1]? = some (.str q t)
def be (H:Hp) (h:Heap) (a:Addr):HO->Prop
 | .lst xs=>xs.length<=sizeLine/\∃(its:List Value) (n:Nat),aR xs its/\h.get? a=some { cls:=.type "list",data:=.seq its.toArray n }
 | .tup xs=>xs.length<=sizeLine/\∃its:List Value,aR xs its/\IsTup h a its.toArray
 | .dK kvs=>kvs.length<=sizeLine/\(a == sysModules)=false/\∃vs,KV kvs vs/\h.DictOf (aU P w) a vs
 | .dT kvs=>kvs.length<=sizeLine/\(a == sysModules)=false/\∃xs:List (List Key × Addr × Value),
   Paired (λ(p:List Key × V) (q:List Key × Addr × Value)=>p.1=q.1/\H q.2.1=some (.tup (p.1.map kV))/\aY p.2 q.2.2) kvs xs /\
   ∃o es ep,h.get? a=some o/\o.ExactDict/\o.data = .dict es ep/\es.toList=xs.map (entryOfKey (tupleKind (aU P w)))/\(xs.map (·.1)).Nodup
 | .set S n=>h.SetOf (intKind P w) a S n
 | .ins C dx fs=>H dx=some (.own a)/\fs.length<=1000/\dx≠a/\h.get? a=some (instObj C dx) /\
   ∃mA,h.Ns1 dx mA/\(∀f,iN (fs.lookup f) (mA f))/\PySem.Within mA (fs.map (·.1))
 | .own _=>∃o,h.get? a=some o
 | .xd fs=>∃mA,h.Ns1 a mA/\∀f,iN (fs.lookup f) (mA f)
 | .rng lo hi=>∃t u v,h.get? a=some { cls:=.type "range",data:=.fields #[.int lo t,.int hi u,.int 1 v] }
 | .frz o u=>h.get? a=some o/\be H h a u
 | .tbl ps=>h.get? a=some { cls:=.none,data:=.fields ps }
 | .tab q=>∃ps:Array Value,h.get? a=some { cls:=.none,data:=.fields ps }/\TriplesOk ps.toList/\∀pos z,codeAmong pos ps.toList=some z->∃c oc,z=Value.ref c/\c≠a/\H c=some (.frz oc (.own a))/\Gi oc q
 | .met f x=>h.get? a=some (methodObj (.ref f) (.ref x))
 | .ext φ=>φ h/\(∃o,h.get? a=some o)/\∀h1 h2:Heap,φ h1->(∀o,h1.get? a=some o->h2.get? a=some o)->φ h2
def HOk (H:Hp) (h:Heap):Prop:=∀a o,H a=some o->be P w H h a o
end
section
variable {H H':Hp} {o:HO}
theorem be.lt (x:be P w H h a o):a < h.objs.size:=by
 cases o with
 | lst xs=>obtain⟨_,_,_,_,e⟩:=x;exact Heap.lt_size e
 | tup xs=>obtain⟨_,_,_,p⟩:=x;exact p.lt
 | dK kvs=>obtain⟨_,_,_,_,o,_,_,e,_⟩:=x;exact Heap.lt_size e
 | dT kvs=>obtain⟨_,_,_,_,o,_,_,e,_⟩:=x;exact Heap.lt_size e
 | set S n=>obtain⟨o,_,_,_,e,_⟩:=x;exact Heap.lt_size e
 | ins C dx fs=>obtain⟨_,_,_,e,_⟩:=x;exact Heap.lt_size e
 | own y=>obtain⟨_,e⟩:=x;exact Heap.lt_size e
 | xd fs=>obtain⟨_,⟨_,_,_,e,_⟩,_⟩:=x;exact Heap.lt_size e
 | rng lo hi=>obtain⟨_,_,_,e⟩:=x;exact Heap.lt_size e
 | frz ob u=>obtain⟨e,_⟩:=x;exact Heap.lt_size e
 | tbl ps=>exact Heap.lt_size (show h.get? a=some _ from x)
 | tab q=>obtain⟨_,e,_⟩:=x;exact Heap.lt_size e
 | met f y=>exact Heap.lt_size (show h.get? a=some _ from x)
 | ext φ=>obtain⟨_,⟨_,e⟩,_⟩:=x;exact Heap.lt_size e
theorem Paired.mapP {α β:Type} {F G:α->β->Prop} : ∀{l₁:List α} {z:List β},Paired F l₁ z->(∀a b,F a b->G a b)->Paired G l₁ z
 | _,_,.nil,_=>.nil
 | _,_,.cons r t,f=>.cons (f _ _ r) (Paired.mapP t f)
theorem be.stay (x:be P w H h a o) (k : ∀b u,(b=a\/H b=some (.own a))->h.get? b=some u->h'.get? b=some u)
  (F : ∀b,H b=some (.own a)->H' b=some (.own a)) (U : ∀b xs,H b=some (.tup xs)->H' b=some (.tup xs)) (hz : ∀b o y,H b=some (.frz o (.own y))->H' b=some (.frz o (.own y)):=by exact λ_ _ _ q=>q):be P w H' h' a o:=by
 induction o with
 | lst xs=>obtain⟨z,its,n,r,e⟩:=x;exact⟨z,its,n,r,k _ _ (.inl rfl) e⟩
 | tup xs=>obtain⟨z,its,r,ob,e,c⟩:=x;exact⟨z,its,r,ob,k _ _ (.inl rfl) e,c⟩
 | dK kvs=>obtain⟨z,y,vs,r,ob,es,ep,e,c⟩:=x;exact⟨z,y,vs,r,ob,es,ep,k _ _ (.inl rfl) e,c⟩
 | dT kvs =>
  obtain⟨z,y,xs,r,ob,es,ep,e,c⟩:=x;exact⟨z,y,xs,Paired.mapP r λp q z=>⟨z.1,U _ _ z.2.1,z.2.2⟩,ob,es,ep,k _ _ (.inl rfl) e,c⟩
 | set S n=>obtain⟨ob,es,ep,t,e,c⟩:=x;exact⟨ob,es,ep,t,k _ _ (.inl rfl) e,c⟩
 | ins C dx fs =>
  obtain⟨d,z,ne,e,mA,⟨od,es,ep,e2,c⟩,r⟩:=x;exact⟨F _ d,z,ne,k _ _ (.inl rfl) e,mA,⟨od,es,ep,k _ _ (.inr d) e2,c⟩,r⟩
 | own y=>obtain⟨ob,e⟩:=x;exact⟨ob,k _ _ (.inl rfl) e⟩
 | xd fs=>obtain⟨mA,⟨od,es,ep,e,c⟩,r⟩:=x;exact⟨mA,⟨od,es,ep,k _ _ (.inl rfl) e,c⟩,r⟩
 | rng lo hi=>obtain⟨t,u,v,e⟩:=x;exact⟨t,u,v,k _ _ (.inl rfl) e⟩
 | frz ob u Y=>obtain⟨e,q⟩:=x;exact⟨k _ _ (.inl rfl) e,Y q⟩
 | tbl ps =>
  have e:h.get? a=some { cls:=.none,data:=.fields ps }:=x
  show h'.get? a=some { cls:=.none,data:=.fields ps }
  exact k a _ (.inl rfl) e
 | tab q =>
  obtain⟨ps,e,t,Z⟩:=x;refine⟨ps,k _ _ (.inl rfl) e,t,λpos cv z=>?_⟩
  obtain⟨c,oc,B,ne,hw,hq⟩:=Z pos cv z;exact⟨c,oc,B,ne,hz _ _ _ hw,hq⟩
 | met f y =>
  have e:h.get? a=some (methodObj (.ref f) (.ref y)):=x
  show h'.get? a=some (methodObj (.ref f) (.ref y))
  exact k a _ (.inl rfl) e
 | ext φ=>obtain⟨p,⟨o,e⟩,st⟩:=x;exact⟨st _ _ p λo q=>k _ _ (.inl rfl) q,⟨o,k _ _ (.inl rfl) e⟩,st⟩
theorem HOk.lt (x:HOk P w H h) (e:H a=some o):a < h.objs.size:=(x a o e).lt
theorem HOk.fresh (x:HOk P w H h) (e:h.objs.size<=a):H a=none:=by
 cases q:H a with
 | none=>rfl
 | some u=>exact absurd (lt_of_lt_of_le (x.lt q) e) (lt_irrefl _)
theorem HOk.kept (x:HOk P w H h) (k : ∀b u,h.get? b=some u->h'.get? b=some u):HOk P w H h':=λa o e =>
 (x a o e).stay (λb u _ q=>k b u q) (λ_ q=>q) λ_ _ q=>q
theorem HOk.laid (x:HOk P w H h) (k : ∀b u,h.get? b=some u->h'.get? b=some u) (B:h.objs.size<=a) (new:be P w (upd H a o) h' a o):HOk P w (upd H a o) h':=λb u e=>by
 have hn:=x.fresh B
 by_cases z:b=a
 .subst z;rw[ab] at e;cases e;exact new
 .rw[ag z] at e
  exact(x b u e).stay (λc v _ q=>k c v q) (λc q=>by rw[ag (aj q hn)];exact q) (λc xs q=>by rw[ag (aj q hn)];exact q) λc _ _ q=>by rw[ag (aj q hn)];exact q
end
def Rd (H:Hp) (a:Addr) (u:HO):Prop:=H a=some u\/∃o,H a=some (.frz o u)
theorem Rd.ok {H:Hp} {u:HO} (r:Rd H a u) (x:HOk P w H h):be P w H h a u:=by
 rcases r with r | ⟨o,r⟩
 .exact x a u r
 .obtain⟨_,q⟩:=x a _ r
  exact q
def Mut:Option HO->Prop
 | some (.lst _)=>True
 | some (.dK _)=>True
 | some (.dT _)=>True
 | some (.set _ _)=>True
 | some (.ins _ _ _)=>True
 | some (.ext _)=>True
 | some (.tab _)=>True
 | _=>False
section
variable {H:Hp} {x e:Addr} {o':HO}
theorem HOk.write (ok:HOk P w H h) (U:Mut (H x)) (he:e=x\/H e=some (.own x)) (k : ∀b u,b≠e->h.get? b=some u->h'.get? b=some u) (aa : ∃u,h'.get? e=some u)
  (new:be P w (upd H x o') h' x o'):HOk P w (upd H x o') h':=λb u q=>by
 have F : ∀c y,H c=some (.own y)->c≠x:=λc y r z=>by subst z;rw[r] at U;exact U
 have Y : ∀c xs,H c=some (.tup xs)->c≠x:=λc xs r z=>by subst z;rw[r] at U;exact U
 by_cases hb:b=x
 .subst hb;rw[ab] at q;cases q;exact new
 .rw[ag hb] at q
  by_cases B:b=e
  .have q':H b=some (.own x):=by
    rcases he with z | z
    .exact absurd (B.trans z) hb
    .rw[B];exact z
   rw[q] at q';cases q';obtain⟨v,hv⟩:=aa;exact⟨v,by rw[B];exact hv⟩
  .refine(ok b u q).stay (λc v Z r=>k c v ?_ r) (λc r=>by rw[ag (F c b r)];exact r) (λc xs r=>by rw[ag (Y c xs r)];exact r) λc _ _ r=>by rw[ag (λz=>by subst z;rw[r] at U;exact U)];exact r
   rcases Z with rfl | Z
   .exact B
   .rintro rfl
    rcases he with z | z
    .exact F c b Z z
    .rw[Z] at z;cases z;exact hb rfl
end
structure Un (fs ex:List Addr) (H H':Hp) (h h':Heap):Prop where
 keep : ∀b o,h.get? b=some o->H b=none->b∉fs->b∉ex->h'.get? b=some o
 slot : ∀b o,h.get? b=some o->H b=none->b∈fs->b∉ex->∃sl,h'.get? b=some { o with slots:=sl }
 free : ∀b o,h.get? b=some o->H b=none->b∉ex->H' b=none
 there : ∀b o,h.get? b=some o->b∉ex->∃o',h'.get? b=some o'
 tups : ∀b xs,H b=some (.tup xs)->H' b=some (.tup xs)
 frzs : ∀b o u,H b=some (.frz o u)->H' b=some (.frz o u)
 tbls : ∀b ps,H b=some (.tbl ps)->∃more,H' b=some (.tbl (ps++more))
section
variable {fs fs' ex ex':List Addr} {H H1 H2:Hp} {h1 h2:Heap} {x e:Addr} {o:HO}
theorem Un.any (u:Un fs ex H H1 h h1) {b:Addr} {ob:Obj} (q:h.get? b=some ob) (n:H b=none) (B:b∉ex) : ∃sl,h1.get? b=some { ob with slots:=sl }:=by
 by_cases z:b∈fs
 .exact u.slot b ob q n z B
 .exact⟨ob.slots,u.keep b ob q n z B⟩
theorem Un.kept (k : ∀b u,h.get? b=some u->h'.get? b=some u):Un fs ex H H h h' :=
 ⟨λb ob q _ _ _=>k b ob q,λb ob q _ _ _=>⟨ob.slots,k b ob q⟩,λ_ _ _ n _=>n,λb ob q _=>⟨ob,k b ob q⟩,λ_ _ q=>q,λ_ _ _ q=>q,λ_ ps q=>⟨#[],by rw[q];simp⟩⟩
theorem Un.refl:Un fs ex H H h h:=Un.kept λ_ _ q=>q
theorem Un.laid (k : ∀b u,h.get? b=some u->h'.get? b=some u) (z:h.objs.size<=a) (hn:H a=none):Un fs ex H (upd H a o) h h' where
 keep:=λb u q _ _ _=>k b u q
 slot:=λb u q _ _ _=>⟨u.slots,k b u q⟩
 free:=λb u q n _=>by rw[ag (ne_of_lt (lt_of_lt_of_le (Heap.lt_size q) z))];exact n
 there:=λb u q _=>⟨u,k b u q⟩
 tups:=λb xs q=>by rw[ag (aj q hn)];exact q
 frzs:=λb u xs q=>by rw[ag (aj q hn)];exact q
 tbls:=λb ps q=>⟨#[],by rw[ag (aj q hn),q];simp⟩
theorem Un.write (F:Mut (H x)) (he:e=x\/H e=some (.own x)) (k : ∀b u,b≠e->h.get? b=some u->h'.get? b=some u) (U : ∃u,h'.get? e=some u):Un fs ex H (upd H x o) h h':=by
 have Z : ∀b,H b=none->b≠x:=λb n z=>by subst z;rw[n] at F;exact F
 have hb : ∀b,H b=none->b≠e:=λb n z=>by
  subst z;rcases he with r | r
  .exact Z b n r
  .rw[n] at r;cases r
 have Y : ∀b u,H b=some u->¬ Mut (some u)->b≠x:=λb u q nm z=>by subst z;rw[q] at F;exact nm F
 refine⟨λb u q n _ _=>k b u (hb b n) q,λb u q n _ _=>⟨u.slots,k b u (hb b n) q⟩,λb u q n _=>by rw[ag (Z b n)];exact n,λb u q _=>?_,
  λb xs q=>by rw[ag (Y b _ q λz=>z)];exact q,λb u xs q=>by rw[ag (Y b _ q λz=>z)];exact q,λb ps q=>⟨#[],by rw[ag (Y b _ q λz=>z),q];simp⟩⟩
 by_cases B:b=e
 .subst B;exact U
 .exact⟨u,k b u B q⟩
end
def trk (h:Heap) (H:Hp):List Addr:=(range h.objs.size).filter λa=>(H a).isSome
def pd (h:Heap) (H:Hp):Heap:=PySem.W.hideAll h (trk h H)
theorem xW (h:Heap) (H:Hp):(pd h H).objs.size=h.objs.size:=PySem.W.hideAll_size _ _
theorem A0 {H:Hp} {o:Obj} (e:h.get? b=some o) (n:H b=none):(pd h H).get? b=some o :=
 PySem.W.hideAll_get _ e λz=>by
  have q:(H b).isSome=true:=(mem_filter.mp z).2
  rw[n] at q;simp at q
theorem Bo {H:Hp} {o:Obj} (e:(pd h H).get? b=some o):h.get? b=some o/\H b=none:=by
 have B:h.get? b=some o:=PySem.W.of_hideAll (trk h H) e
 refine⟨B,?_⟩
 cases q:H b with
 | none=>rfl
 | some x =>
  have F:b∈trk h H:=mem_filter.mpr ⟨mem_range.mpr (Heap.lt_size B),by simp[q]⟩
  have z:(pd h H).get? b=none:=PySem.W.hideAll_none (trk h H) F
  rw[z] at e;cases e
structure Mod (K:PySem.W.Frag) (mg:Str->Option Value) (base:Heap):Prop where
 kin:K.In base
 glob:base.Ns mainGlobals mg
 blt : ∃mb,base.Ns builtinsNs mb/\∀x:Str,x ≠ "__name__" -> mb x=bootBuiltins x
 nolimit:base.NoLimit
structure Cx where
 prog:Program
 w:World
 K:PySem.W.Frag
 mg:Str->Option Value
 base:Heap
 A:Around
 N:List Str
 s₀:Shared
 H₀:Hp
 env:Env
 outer:List Env
 stack:List Env
 ex:List Addr
 fn:Str->Bool
 calm:Bool
 pn:List (Addr × Obj)
 xe:Value->Shared->Prop
def frs (l:List Env):List Addr:=l.filterMap (·.frame)
abbrev Cx.fs (X:Cx):List Addr:=frs X.outer
def Vis (sc:Scope) (x:Str):Prop:=sc.names.lookup x=some .local\/sc.names.lookup x=some .cell\/sc.names.lookup x=some .free
def Loc (sc:Scope) (x:Str):Prop:=sc.names.lookup x=some .local\/sc.names.lookup x=some .cell
def Iq (env:Env) (h:Heap) (m:Str->Option Value) (x:Str) (u:Value):Prop :=
 (env.kindOf x=some .local/\m x=some u)\/((env.kindOf x=some .cell\/env.kindOf x=some .free)/\∃c,env.cells.lookup x=some c/\h.IsCell c (some u))
structure Cx.Ok (X:Cx):Prop where
 mod:Mod X.K X.mg X.base
 kind:X.env.scope.kind = .function
 glob:X.env.globals=mainGlobals
 blt:X.env.builtins=builtinsNs
 above:X.s₀.heap.objs.size<=X.env.locals
 inj : ∀x y c,X.env.cells.lookup x=some c->X.env.cells.lookup y=some c->x=y
 has : ∀x,(X.env.kindOf x=some .cell\/X.env.kindOf x=some .free)->∃c,X.env.cells.lookup x=some c
 cab : ∀x c,X.fn x=true->X.env.cells.lookup x=some c->X.s₀.heap.objs.size<=c
 hd:X.calm=true->X.A.handled=none
 frames:X.A.frames=some X.stack
 stk:X.stack=X.outer\/(X.stack=X.env :: X.outer/\X.env.frame=some X.env.locals)
 exf : ∀b∈X.ex,b≠X.env.locals/\∀x c,X.env.cells.lookup x=some c->c≠b
 bs : ∀b o,X.base.get? b=some o->X.s₀.heap.get? b=some o/\X.H₀ b=none
 bsz:X.base.objs.size<=X.s₀.heap.objs.size
 noex : ∀b o,X.base.get? b=some o->b∉X.ex
 exfs : ∀b∈X.ex,b∉X.fs
 funs:X.s₀.heap.FunFrames X.base X.outer
 frf : ∀b∈X.fs,X.H₀ b=none
structure Inv (X:Cx) (pins:List (Addr × Obj)) (σ:List (Option V)) (H:Hp) (s:Shared):Prop where
 ok:X.Ok
 os:s.os=X.s₀.os
 bare:AllBare s.gens
 base:Un X.fs X.ex X.H₀ H X.s₀.heap s.heap
 loc : ∃m,s.heap.Ns X.env.locals m/\∀(i:Nat) (x:Str) (v:V),X.N[i]? = some x->σ[i]? = some (some v)->Vis X.env.scope x->∃u,aY v u/\Iq X.env s.heap m x u
 cell : ∀x c,X.env.cells.lookup x=some c->∃v,s.heap.IsCell c v
 free:H X.env.locals=none
 freeC : ∀x c,X.env.cells.lookup x=some c->H c=none
 pin : ∀p∈X.pn++pins,s.heap.get? p.1=some p.2/\H p.1=none/\p.1≠X.env.locals/\p.1∉X.fs/\∀v,p.2.data≠.cell v
 hok:HOk X.prog X.w H s.heap
 len:σ.length=X.N.length
section
variable {X:Cx} {σ:List (Option V)} {H H':Hp}
theorem Cx.Ok.nofr (ok:X.Ok) {b:Addr} {o:Obj} (e:X.base.get? b=some o):b∉X.fs:=λz=>by
 have:=(ok.funs.mem z).1
 rw[e] at this;cases this
theorem Inv.bs (I:Inv X pins σ H s) : ∀b o,X.base.get? b=some o->s.heap.get? b=some o/\H b=none:=λb o e =>
 ⟨I.base.keep b o (I.ok.bs b o e).1 (I.ok.bs b o e).2 (I.ok.nofr e) (I.ok.noex b o e),I.base.free b o (I.ok.bs b o e).1 (I.ok.bs b o e).2 (I.ok.noex b o e)⟩
theorem Inv.bk (I:Inv X pins σ H s) : ∀b o,X.base.get? b=some o->s.heap.get? b=some o:=λb o e=>(I.bs b o e).1
theorem Inv.mod (I:Inv X pins σ H s):Mod X.K X.mg X.base:=I.ok.mod
theorem Inv.kIn (I:Inv X pins σ H s):X.K.In s.heap:=I.ok.mod.kin.keeps I.bk
theorem Inv.nolimit (I:Inv X pins σ H s):s.heap.NoLimit:=I.ok.mod.nolimit.keeps I.bk
theorem Inv.lt (I:Inv X pins σ H s):X.env.locals < s.heap.objs.size:=let ⟨_,hn,_⟩:=I.loc;hn.lt
theorem Inv.sz (I:Inv X pins σ H s):X.s₀.heap.objs.size<=s.heap.objs.size:=le_trans I.ok.above (le_of_lt I.lt)
theorem Inv.nofs (I:Inv X pins σ H s) {a:Addr} (h:s.heap.objs.size<=a):a∉X.fs:=λz=>by
 obtain⟨_,o,B,_⟩:=I.ok.funs.mem z;exact absurd (lt_of_lt_of_le (Heap.lt_size B) (le_trans I.sz h)) (lt_irrefl _)
theorem Inv.cne (I:Inv X pins σ H s) : ∀x c,X.env.cells.lookup x=some c->c≠X.env.locals:=λx c e z=>by
 obtain⟨v,o,U,Y⟩:=I.cell x c e;obtain⟨m,⟨o',es,ep,F,B,_⟩,_⟩:=I.loc;rw[z,F] at U;cases U;rw[B] at Y;cases Y
theorem Inv.funs (I:Inv X pins σ H s):s.heap.FunFrames X.base X.outer:=by
 have all : ∀(l:List Env),(∀b∈frs l,b∈X.fs)->X.s₀.heap.FunFrames X.base l->s.heap.FunFrames X.base l:=by
  intro l
  induction l with
  | nil=>intro _ _;trivial
  | cons env r ih =>
   intro Y hl;obtain⟨Z,⟨L,o,U,hn,ho,hd⟩,hr⟩:=hl;have B:L∈X.fs:=Y L (by unfold frs;rw[List.filterMap_cons,U];exact mem_cons_self)
   obtain⟨sl,e⟩:=I.base.slot L o ho (I.ok.frf L B) B λz=>I.ok.exfs L z B
   exact⟨Z,⟨L,_,U,hn,e,hd⟩,ih (λb F=>Y b (by unfold frs;rw[List.filterMap_cons,U];exact mem_cons_of_mem _ F)) hr⟩
 exact all X.outer (λ_ F=>F) I.ok.funs
theorem Inv.stack (I:Inv X pins σ H s):s.heap.FunFrames X.base X.stack:=by
 rcases I.ok.stk with e | ⟨e,hf⟩
 .rw[e];exact I.funs
 .rw[e]
  obtain⟨m,hn,_⟩:=I.loc;refine .cons (by rw[I.ok.kind];decide) hf hn ?_ I.funs
  exact Heap.get?_none_of_le (le_trans I.ok.bsz I.ok.above)
theorem Inv.stkSub (I:Inv X pins σ H s) : ∀b∈frs X.stack,b∈X.env.locals :: X.fs:=λb z=>by
 rcases I.ok.stk with e | ⟨e,hf⟩
 .rw[e] at z;exact mem_cons_of_mem _ z
 .rw[e] at z
  unfold frs at z;rw[List.filterMap_cons,hf] at z;exact z
theorem Inv.stkFree (I:Inv X pins σ H s) : ∀b∈frs X.stack,H b=none:=λb B=>by
 rcases mem_cons.mp (I.stkSub b B) with e | B
 .rw[e];exact I.free
 .obtain⟨_,o,ho,_⟩:=I.ok.funs.mem B
  exact I.base.free b o ho (I.ok.frf b B) λz=>I.ok.exfs b z B
theorem Inv.step (I:Inv X pins σ H s)
  (Y : ∀b∈ch,(b∈X.ex\/X.s₀.heap.objs.size<=b)/\b≠X.env.locals/\(∀x c,X.env.cells.lookup x=some c->c≠b)/\∀p∈X.pn++pins,p.1≠b)
  (keep : ∀b o,b≠X.env.locals->b∉X.fs->b∉ch->s.heap.get? b=some o->H b=none->h'.get? b=some o)
  (slot : ∀b o,b≠X.env.locals->b∈X.fs->b∉ch->s.heap.get? b=some o->H b=none->∃sl,h'.get? b=some { o with slots:=sl }) (free : ∀b o,b∉ch->s.heap.get? b=some o->H b=none->H' b=none)
  (there : ∀b o,b∉ch->s.heap.get? b=some o->∃o',h'.get? b=some o')
  (tups : ∀b xs,H b=some (.tup xs)->H' b=some (.tup xs)) (frzs : ∀b o u,H b=some (.frz o u)->H' b=some (.frz o u)) (tbls : ∀b ps,H b=some (.tbl ps)->∃ac,H' b=some (.tbl (ps++ac)))
  (ns : ∀m,s.heap.Ns X.env.locals m->h'.Ns X.env.locals m) (ae:HOk X.prog X.w H' h') (hg:AllBare g') :
  Inv X pins σ H' { s with heap:=h',gens:=g',drawn:=d',toks:=t' }:=by
 have aa : ∀b o,X.s₀.heap.get? b=some o->b≠X.env.locals:=λb o e=>ne_of_lt (lt_of_lt_of_le (Heap.lt_size e) I.ok.above)
 have Z : ∀b o,X.s₀.heap.get? b=some o->b∉X.ex->b∉ch:=λb o e B hb=>by
  rcases (Y b hb).1 with z | z
  .exact B z
  .exact absurd (lt_of_lt_of_le (Heap.lt_size e) z) (lt_irrefl _)
 have F : ∀x c,X.env.cells.lookup x=some c->∀v,s.heap.IsCell c v->h'.IsCell c v:=λx c e v ⟨o,ho,hd⟩=>by
  have U:c∉ch:=λz=>(Y c z).2.2.1 x c e rfl
  by_cases hc:c∈X.fs
  .obtain⟨sl,q⟩:=slot c o (I.cne x c e) hc U ho (I.freeC x c e)
   exact⟨_,q,hd⟩
  .exact⟨o,keep c o (I.cne x c e) hc U ho (I.freeC x c e),hd⟩
 refine⟨I.ok,I.os,hg,⟨λb o e n hb B=>?_,λb o e n hb B=>?_,λb o e n B=>?_,λb o e B=>?_,λb xs e=>tups b xs (I.base.tups b xs e),λb o xs e=>frzs b o xs (I.base.frzs b o xs e),λb ps e=>?_⟩,?_,λx c e=>?_,?_,λx c e=>?_,λp hp=>?_,ae,I.len⟩
 .exact keep b o (aa b o e) hb (Z b o e B) (I.base.keep b o e n hb B) (I.base.free b o e n B)
 .obtain⟨sl,e1⟩:=I.base.slot b o e n hb B
  obtain⟨ad,e2⟩:=slot b _ (aa b o e) hb (Z b o e B) e1 (I.base.free b o e n B);exact⟨ad,e2⟩
 .obtain⟨o',e1⟩:=I.base.there b o e B
  exact free b o' (Z b o e B) e1 (I.base.free b o e n B)
 .obtain⟨o',e1⟩:=I.base.there b o e B
  exact there b o' (Z b o e B) e1
 .obtain⟨m1,e1⟩:=I.base.tbls b ps e
  obtain⟨m2,e2⟩:=tbls b _ e1;exact⟨m1++m2,by rw[e2,Array.append_assoc]⟩
 .obtain⟨m,hn,hl⟩:=I.loc
  refine⟨m,ns m hn,λi x v e1 e2 e3=>?_⟩
  obtain⟨u,r,l⟩:=hl i x v e1 e2 e3;refine⟨u,r,?_⟩
  rcases l with l | ⟨k,c,e,z⟩
  .exact .inl l
  .exact .inr ⟨k,c,e,F x c e _ z⟩
 .obtain⟨v,z⟩:=I.cell x c e
  exact⟨v,F x c e v z⟩
 .obtain⟨m,⟨o,_,_,ho,_⟩,_⟩:=I.loc
  exact free _ o (λz=>(Y _ z).2.1 rfl) ho I.free
 .obtain⟨v,o,ho,hd⟩:=I.cell x c e
  exact free c o (λz=>(Y c z).2.2.1 x c e rfl) ho (I.freeC x c e)
 .obtain⟨e,n,ne,nf,d⟩:=I.pin p hp
  have U:p.1∉ch:=λz=>(Y p.1 z).2.2.2 p hp rfl
  exact⟨keep p.1 p.2 ne nf U e n,free p.1 p.2 U e n,ne,nf,d⟩
theorem Inv.un (I:Inv X pins σ H s) (u:Un X.fs [] H H' s.heap h') (Y:HOk X.prog X.w H' h'):Inv X pins σ H' { s with heap:=h',toks:=t' }:=by
 obtain⟨m,⟨o,es,ep,ho,r⟩,_⟩:=id I.loc;obtain⟨sl,hL⟩:=u.any ho I.free (by simp)
 exact I.step (g':=s.gens) (d':=s.drawn) (ch:=[]) (λ_ z=>nomatch z) (λb o _ U _ e n=>u.keep b o e n U (by simp)) (λb o _ U _ e n=>u.slot b o e n U (by simp)) (λb o _ e n=>u.free b o e n (by simp)) (λb o _ e=>u.there b o e (by simp)) u.tups u.frzs u.tbls (λm' hm=>by
  obtain⟨o',F,Z,B,r'⟩:=hm;rw[ho] at B;cases B;exact⟨_,F,Z,hL,r'⟩) Y I.bare
theorem Inv.call (I:Inv X pins σ H s) (u:Un (frs X.stack) ch H H' s.heap h') (aa:HOk X.prog X.w H' h') (hg:AllBare g')
  (U : ∀b∈ch,(b∈X.ex\/X.s₀.heap.objs.size<=b)/\b≠X.env.locals/\(∀x c,X.env.cells.lookup x=some c->c≠b)/\∀p∈X.pn++pins,p.1≠b) :
  Inv X pins σ H' { s with heap:=h',gens:=g',drawn:=d',toks:=t' }:=by
 obtain⟨m,⟨o,es,ep,ho,r⟩,_⟩:=id I.loc;obtain⟨sl,Z⟩:=u.any ho I.free λz=>(U _ z).2.1 rfl
 exact I.step (ch:=ch) U (λb o Z hb B e n=>u.keep b o e n (λz=>(mem_cons.mp (I.stkSub b z)).elim Z hb) B) (λb o _ _ B e n=>u.any e n B) (λb o B e n=>u.free b o e n B) (λb o B e=>u.there b o e B) u.tups u.frzs u.tbls (λm' hm=>by
  obtain⟨o',Y,ac,F,r'⟩:=hm;rw[ho] at F;cases F;exact⟨_,Y,ac,Z,r'⟩) aa hg
theorem Inv.turned (I:Inv X pins σ H s) (k : ∀b o,b≠it->s.heap.get? b=some o->h'.get? b=some o) (hn:H it=none) (U:it≠X.env.locals)
  (h1:it∈X.ex\/X.s₀.heap.objs.size<=it) (h2 : ∀x c,X.env.cells.lookup x=some c->c≠it) (Z : ∀p∈X.pn++pins,p.1≠it):Inv X pins σ H { s with heap:=h',toks:=t' }:=by
 have F : ∀b u,H b=some u->b≠it:=λb u e z=>by rw[z,hn] at e;cases e
 refine I.step (g':=s.gens) (d':=s.drawn) (ch:=[it]) (λb hb=>?_) (λb o _ _ B e _=>k b o (λz=>B (by simp[z])) e) (λb o _ _ B e _=>⟨o.slots,k b o (λz=>B (by simp[z])) e⟩) (λ_ _ _ _ n=>n)
  (λb o B e=>⟨o,k b o (λz=>B (by simp[z])) e⟩) (λ_ _ e=>e) (λ_ _ _ e=>e) (λb ps e=>⟨#[],by rw[e];simp⟩) (λm Y=>?_) (λb u e=>?_) I.bare
 .have e:b=it:=by simpa using hb
  subst e;exact⟨h1,U,h2,Z⟩
 .obtain⟨o,es,ep,ho,r⟩:=Y
  exact⟨o,es,ep,k _ o (Ne.symm U) ho,r⟩
 .refine(I.hok b u e).stay (λc v B q=>k c v ?_ q) (λ_ q=>q) λ_ _ q=>q
  rcases B with z | z
  .rw[z];exact F b u e
  .exact F c _ z
theorem Inv.tok (I:Inv X pins σ H s) (t:Nat):Inv X pins σ H { s with toks:=t }:=I.un (h':=s.heap) (t':=t) Un.refl I.hok
theorem Inv.kept {t':Nat} (I:Inv X pins σ H s) (k : ∀b u,s.heap.get? b=some u->h'.get? b=some u):Inv X pins σ H { s with heap:=h',toks:=t' }:=I.un (Un.kept k) (I.hok.kept k)
theorem Inv.laid {a:Addr} {o:HO} {t':Nat} (I:Inv X pins σ H s) (k : ∀b u,s.heap.get? b=some u->h'.get? b=some u) (z:s.heap.objs.size<=a) (new:be X.prog X.w (upd H a o) h' a o) :
  Inv X pins σ (upd H a o) { s with heap:=h',toks:=t' }:=I.un (Un.laid k z (I.hok.fresh z)) (I.hok.laid k z new)
theorem Inv.write {x e:Addr} {o:HO} {t':Nat} (I:Inv X pins σ H s) (F:Mut (H x)) (B:e=x\/H e=some (.own x)) (k : ∀b u,b≠e->s.heap.get? b=some u->h'.get? b=some u) (z : ∃u,h'.get? e=some u)
  (new:be X.prog X.w (upd H x o) h' x o):Inv X pins σ (upd H x o) { s with heap:=h',toks:=t' }:=I.un (Un.write F B k z) (I.hok.write F B k z new)
theorem Inv.weak {σ':List (Option V)} (I:Inv X pins σ H s) (hl:σ'.length=σ.length) (w : ∀(i:Nat) v,σ'[i]? = some (some v)->σ[i]? = some (some v)):Inv X pins σ' H s :=
 ⟨I.ok,I.os,I.bare,I.base,let ⟨m,hn,hl'⟩:=I.loc;⟨m,hn,λi x v e1 e2 z=>hl' i x v e1 (w i v e2) z⟩,I.cell,I.free,I.freeC,I.pin,I.hok,hl.trans I.len⟩
theorem Inv.pins_of (I:Inv X pins σ H s) (h : ∀p∈pins',s.heap.get? p.1=some p.2/\H p.1=none/\p.1≠X.env.locals/\p.1∉X.fs/\∀v,p.2.data≠.cell v):Inv X pins' σ H s :=
 ⟨I.ok,I.os,I.bare,I.base,I.loc,I.cell,I.free,I.freeC,λp B=>(mem_append.mp B).elim (λz=>I.pin p (mem_append_left _ z)) (h p),I.hok,I.len⟩
theorem tJ (z:N.Nodup) {i j:Nat} {x:Str} (a:N[i]? = some x) (b:N[j]? = some x):i=j:=by
 obtain⟨h1,e1⟩:=List.getElem?_eq_some_iff.mp a;obtain⟨h2,e2⟩:=List.getElem?_eq_some_iff.mp b;exact(List.getElem_inj z).mp (e1.trans e2.symm)
theorem qf {i:Nat} {v:V} {Q:Unit->Shared->Prop} (I:Inv X pins σ H s) (hN:X.N.Nodup) (hi:X.N[i]? = some x) (Y:Loc X.env.scope x) (r:aY v u)
  (h : ∀s',Inv X pins (σ.set i (some v)) H s'->(∃a,Heap.SameBut a s.heap s'.heap/\(a=X.env.locals\/X.env.cells.lookup x=some a))->Q () s') (hf:X.fn x=true\/X.env.scope.names.lookup x=some .local:=by first | exact .inl rfl | exact .inr rfl | assumption):wpAny M A (storeName X.env x u) Q E s:=by
 obtain⟨m,hn,hl⟩:=id I.loc;have ad:(X.env.scope.kind == .class || (X.env.scope.kind == .module && X.env.locals != X.env.globals))=false:=by rw[I.ok.kind];rfl
 have aa:i < σ.length:=by rw[I.len];exact(List.getElem?_eq_some_iff.mp hi).1
 have cne:=I.cne;have F : ∀{a:Addr} {h':Heap},(∃o,s.heap.get? a=some o/\H a=none)->Heap.SameBut a s.heap h'->HOk X.prog X.w H h':=λ{a h'} ha B b ob e=>by
  obtain⟨_,_,Z⟩:=ha;refine(I.hok b ob e).stay (λc w' U q=>(B.2 c ?_).trans q) (λ_ q=>q) λ_ _ q=>q
  rintro rfl
  rcases U with rfl | U
  .rw[Z] at e;cases e
  .rw[Z] at U;cases U
 rcases Y with hk | hk
 .refine wpAny_storeName_local hk hn (λh' ah B=>?_) ad
  obtain⟨oL,_,_,ag,_⟩:=id hn;refine h _ ⟨I.ok,I.os,I.bare,⟨λb o e n hb Y=>?_,λb o e n hb Y=>?_,I.base.free,λb o e Y=>?_,I.base.tups,I.base.frzs,I.base.tbls⟩,⟨_,ah,λj y v' e1 e2 e3=>?_⟩,λy c e=>?_,I.free,I.freeC,λp hp=>?_,F ⟨oL,ag,I.free⟩ B,by simpa using I.len⟩ ⟨_,B,.inl rfl⟩
  .exact(B.2 b (ne_of_lt (lt_of_lt_of_le (Heap.lt_size e) I.ok.above))).trans (I.base.keep b o e n hb Y)
  .obtain⟨sl,e1⟩:=I.base.slot b o e n hb Y
   exact⟨sl,(B.2 b (ne_of_lt (lt_of_lt_of_le (Heap.lt_size e) I.ok.above))).trans e1⟩
  .obtain⟨o',e1⟩:=I.base.there b o e Y
   exact⟨o',(B.2 b (ne_of_lt (lt_of_lt_of_le (Heap.lt_size e) I.ok.above))).trans e1⟩
  .by_cases hj:j=i
   .subst hj
    rw[hi] at e1;cases e1;rw[List.getElem?_set_self aa] at e2;cases e2;exact⟨u,r,.inl ⟨hk,by simp⟩⟩
   .rw[List.getElem?_set_ne (Ne.symm hj)] at e2
    obtain⟨u',r',q⟩:=hl j y v' e1 e2 e3;refine⟨u',r',?_⟩
    rcases q with⟨k,e⟩ | ⟨k,c,e,z⟩
    .refine .inl ⟨k,?_⟩
     have:y≠x:=λe=>hj (tJ hN e1 (e ▸ hi))
     simp[this,e]
    .exact .inr ⟨k,c,e,z.sameBut B (cne y c e)⟩
  .obtain⟨w',z⟩:=I.cell y c e
   exact⟨w',z.sameBut B (cne y c e)⟩
  .obtain⟨e,n,ne,nf,d⟩:=I.pin p hp
   exact⟨(B.2 p.1 ne).trans e,n,ne,nf,d⟩
 .have hfn:X.fn x=true:=by
   rcases hf with z | z
   .exact z
   .rw[z] at hk;cases hk
  obtain⟨c,U⟩:=I.ok.has x (.inl hk);obtain⟨w',z⟩:=I.cell x c U;refine wpAny_storeName_cell I.ok.kind hk U z (λh' af B=>?_)
  obtain⟨oc,ae,ac⟩:=id z;refine h { s with heap:=h' } ⟨I.ok,I.os,I.bare,⟨λb o e n hb Y=>?_,λb o e n hb Y=>?_,I.base.free,λb o e Y=>?_,I.base.tups,I.base.frzs,I.base.tbls⟩,⟨m,hn.sameBut B (Ne.symm (cne x c U)),λj y v' e1 e2 e3=>?_⟩,λy c' e=>?_,I.free,I.freeC,λp hp=>?_,F ⟨oc,ae,I.freeC x c U⟩ B,by simpa using I.len⟩ ⟨c,B,.inr U⟩
  .exact(B.2 b (ne_of_lt (lt_of_lt_of_le (Heap.lt_size e) (I.ok.cab x c hfn U)))).trans (I.base.keep b o e n hb Y)
  .obtain⟨sl,e1⟩:=I.base.slot b o e n hb Y
   exact⟨sl,(B.2 b (ne_of_lt (lt_of_lt_of_le (Heap.lt_size e) (I.ok.cab x c hfn U)))).trans e1⟩
  .obtain⟨o',e1⟩:=I.base.there b o e Y
   exact⟨o',(B.2 b (ne_of_lt (lt_of_lt_of_le (Heap.lt_size e) (I.ok.cab x c hfn U)))).trans e1⟩
  .by_cases hj:j=i
   .subst hj
    rw[hi] at e1;cases e1;rw[List.getElem?_set_self aa] at e2;cases e2;exact⟨u,r,.inr ⟨.inl hk,c,U,af⟩⟩
   .rw[List.getElem?_set_ne (Ne.symm hj)] at e2
    obtain⟨u',r',q⟩:=hl j y v' e1 e2 e3;refine⟨u',r',?_⟩
    rcases q with q | ⟨k,c',e,z'⟩
    .exact .inl q
    .refine .inr ⟨k,c',e,z'.sameBut B ?_⟩
     rintro rfl
     exact hj (tJ hN e1 (I.ok.inj _ _ _ e U ▸ hi))
  .by_cases hcc:c'=c
   .subst hcc;exact⟨_,af⟩
   .obtain⟨w2,z2⟩:=I.cell y c' e
    exact⟨w2,z2.sameBut B hcc⟩
  .obtain⟨e,n,ne,nf,d⟩:=I.pin p hp
   refine⟨(B.2 p.1 ?_).trans e,n,ne,nf,d⟩
   intro q;rw[q,ae] at e;have q':oc=p.2:=Option.some.inj e
   exact d w' (by rw[<- q'];exact ac)
theorem sN {i:Nat} {v:V} {Q:Unit->Shared->Prop} (I:Inv X pins σ H s) (F:X.N.Nodup) (hi:X.N[i]? = some x) (B:Loc X.env.scope x) (r:aY v u)
  (h : ∀s',Inv X pins (σ.set i (some v)) H s'->Q () s') (U:X.fn x=true\/X.env.scope.names.lookup x=some .local:=by first | exact .inl rfl | exact .inr rfl | assumption):wpAny M A (storeName X.env x u) Q E s :=
 qf I F hi B r (λs' z _=>h s' z) U
theorem Inv.call' (I:Inv X pins σ H s) (F:s'.os=s.os) (u:Un (frs X.stack) ch H H' s.heap s'.heap) (z:HOk X.prog X.w H' s'.heap) (U:AllBare s'.gens)
  (B : ∀b∈ch,(b∈X.ex\/X.s₀.heap.objs.size<=b)/\b≠X.env.locals/\(∀x c,X.env.cells.lookup x=some c->c≠b)/\∀p∈X.pn++pins,p.1≠b):Inv X pins σ H' s':=by
 obtain⟨h',g',d',t',o'⟩:=s';have e:o'=s.os:=F
 subst e;exact I.call (g':=g') (t':=t') (d':=d') u z U B
end
abbrev XK:=Value->Option Addr->Hp->Prop
abbrev St:=List (Option V)
abbrev VK:=V->Hp->Prop
abbrev TE:=St->Hp->VK->Prop
abbrev TT:=St->Hp->(Bool->Hp->Prop)->Prop
abbrev TA:=St->Hp->(List V->Hp->Prop)->Prop
structure lN where
 nx:St->Hp->Prop
 rt:VK
 bk:St->Hp->Prop:=λ_ _=>False
 ct:St->Hp->Prop:=λ_ _=>False
abbrev TS:=lN->St->Hp->Prop
def EP (X:Cx) (pins:List (Addr × Obj)) (σ:St) (Q:VK) (u:Value) (s':Shared):Prop:=∃v H',Inv X pins σ H' s'/\aY v u/\Q v H'
def TP (X:Cx) (pins:List (Addr × Obj)) (σ:St) (Q:Bool->Hp->Prop) (b:Bool) (s':Shared):Prop:=∃H',Inv X pins σ H' s'/\Q b H'
def AP (X:Cx) (pins:List (Addr × Obj)) (σ:St) (Q:List V->Hp->Prop) (us:List Value) (s':Shared):Prop:=∃vs H',Inv X pins σ H' s'/\aR vs us/\Q vs H'
def SP (X:Cx) (pins:List (Addr × Obj)) (D:lN) (f:Flow) (s':Shared):Prop :=
 match f with
 | .next=>∃ σ' H',Inv X pins σ' H' s'/\D.nx σ' H'
 | .brk=>∃ σ' H',Inv X pins σ' H' s'/\D.bk σ' H'
 | .cont=>∃ σ' H',Inv X pins σ' H' s'/\D.ct σ' H'
 | .ret u=>∃v σ' H',Inv X pins σ' H' s'/\aY v u/\D.rt v H'
namespace Irr
set_option allowUnsafeReducibility true in
@[scoped irreducible] def _root_.L2.PE (X:Cx) (e:Expr) (t:TE):Prop :=
 ∀(pins:List (Addr × Obj)) (s:Shared) (σ:St) (H:Hp) (Q:VK),Inv X pins σ H s->t σ H Q->wpAny (model X.prog X.w) X.A (eval e X.env) (EP X pins σ Q) X.xe s
end Irr
namespace Irr
set_option allowUnsafeReducibility true in
@[scoped irreducible] def _root_.L2.PT (X:Cx) (e:Expr) (t:TT):Prop :=
 ∀(pins:List (Addr × Obj)) (s:Shared) (σ:St) (H:Hp) (Q:Bool->Hp->Prop),Inv X pins σ H s->t σ H Q->wpAny (model X.prog X.w) X.A (isTrue e X.env (eval e X.env)) (TP X pins σ Q) X.xe s
end Irr
namespace Irr
set_option allowUnsafeReducibility true in
@[scoped irreducible] def _root_.L2.PW (X:Cx) (e:Expr) (t:TT):Prop :=
 ∀(z:Sem Value) (pins:List (Addr × Obj)) (s:Shared) (σ:St) (H:Hp) (Q:Bool->Hp->Prop),Inv X pins σ H s->t σ H Q->wpAny (model X.prog X.w) X.A (isTrue e X.env z) (TP X pins σ Q) X.xe s
end Irr
theorem PW.pt {X:Cx} {t:TT} (h:PW X e t):PT X e t:=h _
namespace Irr
set_option allowUnsafeReducibility true in
@[scoped irreducible] def _root_.L2.PA (X:Cx) (es:List Expr) (t:TA):Prop :=
 ∀(pos:Pos) (pins:List (Addr × Obj)) (s:Shared) (σ:St) (H:Hp) (Q:List V->Hp->Prop),Inv X pins σ H s->t σ H Q->wpAny (model X.prog X.w) X.A (spliced (backTo pos (starEach es X.env))) (AP X pins σ Q) X.xe s
end Irr
namespace Irr
set_option allowUnsafeReducibility true in
@[scoped irreducible] def _root_.L2.PS (X:Cx) (st:Stmt) (t:TS):Prop :=
 ∀(pins:List (Addr × Obj)) (s:Shared) (σ:St) (H:Hp) (D:lN),Inv X pins σ H s->t D σ H->wpAny (model X.prog X.w) X.A (exec st X.env) (SP X pins D) X.xe s
end Irr
namespace Irr
set_option allowUnsafeReducibility true in
@[scoped irreducible] def _root_.L2.PSs (X:Cx) (st:List Stmt) (t:TS):Prop :=
 ∀(pins:List (Addr × Obj)) (s:Shared) (σ:St) (H:Hp) (D:lN),Inv X pins σ H s->t D σ H->wpAny (model X.prog X.w) X.A (execs st X.env) (SP X pins D) X.xe s
end Irr
theorem thn {t:Sem α} {Q z:α->Shared->Prop} (h:wpAny M A t Q E s) (B : ∀a s,Q a s->z a s):wpAny M A t z E s:=wpAny_mono h B λ_ _ x=>x
section
variable {X:Cx}
def BQ (i:Nat):TE:=λσ H Q=>∃v,σ[i]? = some (some v)/\Q v H
def tC (v:V):TE:=λ_ H Q=>Q v H
theorem zA {i:Nat} (hN:X.N[i]? = some x) (Z:Vis X.env.scope x) (F:(x ==("__debug__" : Str))=false:=by decide) (U:(x ==("__classdict__" : Str))=false:=by decide):PE X (.Name x pos) (BQ i):=by
 intro pins s σ H Q I h;obtain⟨v,e,h⟩:=h;obtain⟨m,hn,hl⟩:=I.loc;obtain⟨u,r,l⟩:=hl i x v hN e Z;have B:EP X pins σ Q u s:=⟨v,H,I,r,h⟩
 rcases l with⟨z,Y⟩ | ⟨z,c,hc,hcell⟩
 .exact wpAny_Name (wpAny_loadName_local I.ok.kind z hn Y B) F
 .rcases z with z | z
  .exact wpAny_Name (wpAny_loadName_cell I.ok.kind z hc hcell B) F
  .exact wpAny_Name (wpAny_loadName_free I.ok.kind z hc hcell B U) F
theorem ae {i j pos}:PE X (.Constant (.int i) j pos) (tC (.int i)):=λ_ _ _ H _ I h=>wpAny_Constant_int ⟨.int i,H,I.tok _,⟨_,rfl⟩,h⟩
theorem jT {b j pos}:PE X (.Constant (.bool b) j pos) (tC (.bl b)):=λ_ _ _ H _ I h=>Constant_bool ⟨.bl b,H,I,rfl,h⟩
theorem jo {j pos}:PE X (.Constant .none j pos) (tC .non):=λ_ _ _ H _ I h=>Constant_none ⟨.non,H,I,rfl,h⟩
theorem au {x j pos}:PE X (.Constant (.str x) j pos) (tC (.str x)):=λ_ _ _ H _ I h=>Calls.Constant_str ⟨.str x,H,I.tok _,⟨_,rfl⟩,h⟩
def Gl (X:Cx) (x:Str):Prop:=X.env.kindOf x=some .globalImplicit
theorem md {σ:St} {H:Hp} (I:Inv X pins σ H s) (B:Gl X x) (z:X.mg x=some u) (h:Q u s)
  (F:(x ==("__debug__" : Str))=false:=by decide):wpAny (model X.prog X.w) X.A (eval (.Name x pos) X.env) Q E s :=
 Calls.Name_function_global I.ok.kind B (Calls.loadGlobal_global (by rw[I.ok.glob];exact I.mod.glob.keeps I.bk) z h) F
theorem dU {σ:St} {H:Hp} (I:Inv X pins σ H s) (F:Gl X x) (B:X.mg x=none) (z:bootBuiltins x=some u) (h:Q u s)
  (hn:x ≠ "__name__" := by decide) (U:(x ==("__debug__" : Str))=false:=by decide):wpAny (model X.prog X.w) X.A (eval (.Name x pos) X.env) Q E s:=by
 obtain⟨mb,h1,h2⟩:=I.mod.blt;exact Calls.Name_function_global I.ok.kind F (Calls.loadGlobal_builtin (by rw[I.ok.glob];exact I.mod.glob.keeps I.bk) B (by rw[I.ok.blt];exact h1.keeps I.bk) ((h2 x hn).trans z) h) U
theorem lU {v:V} (B:Gl X x) (z:X.mg x=some u) (r:aY v u) (F:(x ==("__debug__" : Str))=false:=by decide):PE X (.Name x pos) (tC v) :=
 λ_ _ _ H _ I h=>md I B z ⟨v,H,I,r,h⟩ F
theorem Bv {v:V} (F:Gl X x) (B:X.mg x=none) (z:bootBuiltins x=some u) (r:aY v u) (hn:x ≠ "__name__" := by decide) (U:(x ==("__debug__" : Str))=false:=by decide):PE X (.Name x pos) (tC v) :=
 λ_ _ _ H _ I h=>dU I F B z ⟨v,H,I,r,h⟩ hn U
variable {a b:Expr} {ta tb:TE}
def PC (X:Cx) (op:CmpOp) (a b:Expr) (t:TE):Prop :=
 ∀ (pins:List (Addr × Obj)) (s:Shared) (σ:St) (H:Hp) (Q:VK),Inv X pins σ H s->t σ H Q ->
  wpAny (model X.prog X.w) X.A (eval a X.env) (λv s₁=>wpAny (model X.prog X.w) X.A (eval b X.env) (λu z=>wpAny (model X.prog X.w) X.A (compareOp op v u) (EP X pins σ Q) X.xe z) X.xe s₁) X.xe s
theorem uo (b:Expr) {op:CmpOp} (h:op≠.In) (h2:op≠.NotIn):behindInMarks op b=false:=by
 have e1:(op == CmpOp.In)=false:=by cases op <;> first | rfl | exact absurd rfl h
 have e2:(op == CmpOp.NotIn)=false:=by cases op <;> first | rfl | exact absurd rfl h2
 cases b <;> simp[behindInMarks,e1,e2]
def Dm (ta:TE):TE:=λσ H Q=>ta σ H λx H1=>Q (.bl (decide (x = .non))) H1
def xn (ta:TE):TE:=λσ H Q=>ta σ H λx H1=>Q (.bl (!decide (x = .non))) H1
theorem aY.none_iff {x:V} (r:aY x v):(v == Value.none)=decide (x = .non):=by
 cases x with
 | non=>cases r;rfl
 | bl _=>cases r;rfl
 | int _=>obtain⟨t,rfl⟩:=r;rfl
 | str _=>obtain⟨t,rfl⟩:=r;rfl
 | byt _=>obtain⟨t,rfl⟩:=r;rfl
 | flt _=>obtain⟨t,rfl⟩:=r;rfl
 | ref _=>cases r;rfl
 | ty _=>cases r;rfl
theorem qN {j pos'} (B:PE X a ta):PC X .Is a (.Constant .none j pos') (Dm ta):=by
 intro pins s σ H Q I h;refine thn (B pins s σ H _ I h) λv Z z=>?_
 obtain⟨x,H1,U,F,Y⟩:=z;exact Constant_none (is_none_gen ⟨.bl _,H1,U,by rw[F.none_iff];rfl,Y⟩)
theorem qP {j pos'} (B:PE X a ta):PC X .IsNot a (.Constant .none j pos') (xn ta):=by
 intro pins s σ H Q I h;refine thn (B pins s σ H _ I h) λv Z z=>?_
 obtain⟨x,H1,U,F,Y⟩:=z;exact Constant_none (isnot_none_gen ⟨.bl _,H1,U,by rw[F.none_iff];rfl,Y⟩)
def tB (t:TE):TT:=λσ H Q=>t σ H λx H1=>∃c,x = .bl c/\Q c H1
theorem F8 {op:CmpOp} {t:TE} (h:PC X op a b t) (h1:behindInMarks op b=false:=by first | exact uo _ (by decide) (by decide) | rfl):PE X (.Compare a [op] [b] pos) t:=λpins s σ H Q I hw=>wpAny_Compare1 (h pins s σ H Q I hw) h1
theorem il {op:CmpOp} {t:TE} (h:PC X op a b t) (h1:behindInMarks op b=false:=by first | exact uo _ (by decide) (by decide) | rfl):PT X (.Compare a [op] [b] pos) (tB t):=by
 intro pins s σ H Q I hw;refine wpAny_isTrue_Compare1 (thn (h pins s σ H _ I hw) λv s1 h1=>thn h1 λu Y h2=>thn h2 λc Z z=>?_) h1
 obtain⟨x,H1,B,U,F⟩:=z;obtain⟨d,rfl,q⟩:=F;cases U;exact wpAny_truthy_bool ⟨H1,B,q⟩
theorem oI {t:TE} (h:PE X e t) (F : ∀z,isTrue e X.env z=(do let v <- z;standAt e.pos;holding [v] (truthy v)):=by intro _;rfl):PT X e (tB t):=by
 intro pins s σ H Q I hw;refine isTrue_plain (thn (h pins s σ H _ I hw) λv s1 B=>?_) (F _)
 obtain⟨x,H1,U,Z,Y⟩:=B;obtain⟨d,rfl,q⟩:=Y;cases Z;exact wpAny_truthy_bool ⟨H1,U,q⟩
variable {tA tB':TT} {rest:List Expr}
def EK (t u:TT):TT:=λσ H Q=>t σ H λc H1=>if c=true then u σ H1 Q else Q false H1
def tOr (t u:TT):TT:=λσ H Q=>t σ H λc H1=>if c=true then Q true H1 else u σ H1 Q
def EF (t:TT):TT:=λσ H Q=>t σ H λc H1=>Q (!c) H1
theorem eS (z:PT X a tA):PW X (.BoolOp .And [a] pos) tA:=by
 intro F pins s σ H Q I h;refine isTrue_and (thn (z pins s σ H Q I h) λc B e=>?_)
 cases c with
 | true=>exact isTrue_and_nil e
 | false=>exact e
theorem uY (z:PT X a tA):PW X (.BoolOp .Or [a] pos) tA:=by
 intro F pins s σ H Q I h;refine isTrue_or (thn (z pins s σ H Q I h) λc B e=>?_)
 cases c with
 | false=>exact isTrue_or_nil e
 | true=>exact e
theorem fK (U:PT X a tA) (hb:PW X (.BoolOp .And (b :: rest) pos) tB'):PW X (.BoolOp .And (a :: b :: rest) pos) (EK tA tB'):=by
 intro Z pins s σ H Q I h;refine isTrue_and (thn (U pins s σ H _ I h) λc Y z=>?_)
 obtain⟨H1,F,B⟩:=z;cases c with
 | true=>exact hb Z pins Y σ H1 Q F B
 | false=>exact⟨H1,F,B⟩
theorem xM (U:PT X a tA) (hb:PW X (.BoolOp .Or (b :: rest) pos) tB'):PW X (.BoolOp .Or (a :: b :: rest) pos) (tOr tA tB'):=by
 intro Z pins s σ H Q I h;refine isTrue_or (thn (U pins s σ H _ I h) λc Y z=>?_)
 obtain⟨H1,F,B⟩:=z;cases c with
 | true=>exact⟨H1,F,B⟩
 | false=>exact hb Z pins Y σ H1 Q F B
theorem mV (z:PT X a tA):PT X (.UnaryOp .Not a pos) (EF tA):=by
 intro pins s σ H Q I h;exact isTrue_not (z pins s σ H (λc H1=>Q (!c) H1) I h)
def zK (ta tb:TE):TE:=λσ H Q=>ta σ H λx H1=>∃c,x = .bl c/\if c=true then tb σ H1 Q else Q (.bl false) H1
def DQ (ta tb:TE):TE:=λσ H Q=>ta σ H λx H1=>∃c,x = .bl c/\if c=true then Q (.bl true) H1 else tb σ H1 Q
def Bc (ta:TE):TE:=λσ H Q=>ta σ H λx H1=>∃c,x = .bl c/\Q (.bl (!c)) H1
theorem kR {op} {t:TE} (h:PE X a t):PE X (.BoolOp op [a] pos) t:=λpins s σ H Q I hw=>BoolOp_one (h pins s σ H Q I hw)
theorem mz (U:PE X a ta) (Y:PE X (.BoolOp .And (b :: rest) pos) tb):PE X (.BoolOp .And (a :: b :: rest) pos) (zK ta tb):=by
 intro pins s σ H Q I h;refine BoolOp_and (thn (U pins s σ H _ I h) λv Z z=>?_)
 obtain⟨x,H1,F,r1,B⟩:=z;obtain⟨c,rfl,B⟩:=B;cases r1;refine wpAny_truthy_bool ?_
 cases c with
 | true=>exact Y pins Z σ H1 Q F B
 | false=>exact⟨.bl false,H1,F,rfl,B⟩
theorem GM (U:PE X a ta) (Y:PE X (.BoolOp .Or (b :: rest) pos) tb):PE X (.BoolOp .Or (a :: b :: rest) pos) (DQ ta tb):=by
 intro pins s σ H Q I h;refine BoolOp_or (thn (U pins s σ H _ I h) λv Z z=>?_)
 obtain⟨x,H1,F,r1,B⟩:=z;obtain⟨c,rfl,B⟩:=B;cases r1;refine wpAny_truthy_bool ?_
 cases c with
 | false=>exact Y pins Z σ H1 Q F B
 | true=>exact⟨.bl true,H1,F,rfl,B⟩
theorem Ag (F:PE X a ta):PE X (.UnaryOp .Not a pos) (Bc ta):=by
 intro pins s σ H Q I h;refine UnaryOp_ (thn (F pins s σ H _ I h) λv Z z=>?_)
 obtain⟨x,H1,Y,U,B⟩:=z;obtain⟨c,rfl,B⟩:=B;cases U;exact not_of (wpAny_truthy_bool ⟨.bl (!c),H1,Y,rfl,B⟩)
end
def SqL (K:PySem.W.Frag) (H:Hp) (a:Addr) (xs:List V):Prop :=
 Rd H a (.lst xs) \/
  ∃(o:Obj) (its:Array Value) (n:Nat),K.lookup a=some o/\o.cls = .type "list" /\ o.dict=none/\o.data = .seq its n/\its.size<=sizeLine/\aR xs its.toList
def SqT (K:PySem.W.Frag) (H:Hp) (a:Addr) (xs:List V):Prop :=
 Rd H a (.tup xs) \/
  ∃(o:Obj) (its:Array Value) (n:Nat),K.lookup a=some o/\o.cls = .type "tuple" /\ o.data = .seq its n/\its.size<=sizeLine/\aR xs its.toList
def HB:Value->Option V
 | .none=>some .non
 | .bool b=>some (.bl b)
 | .int i _=>some (.int i)
 | .str x _=>some (.str x)
 | .bytes b _=>some (.byt b)
 | .float b _=>some (.flt b)
 | .ref a=>some (.ref a)
 | .type n=>some (.ty n)
 | _=>none
theorem aY.abs {x:V} (r:aY x u):HB u=some x:=by
 cases x with
 | non=>cases r;rfl
 | bl _=>cases r;rfl
 | int _=>obtain⟨t,rfl⟩:=r;rfl
 | str _=>obtain⟨t,rfl⟩:=r;rfl
 | byt _=>obtain⟨t,rfl⟩:=r;rfl
 | flt _=>obtain⟨t,rfl⟩:=r;rfl
 | ref _=>cases r;rfl
 | ty _=>cases r;rfl
theorem aY.inj {x y:V} {u:Value} (r:aY x u) (q:aY y u):x=y:=Option.some.inj (r.abs.symm.trans q.abs)
theorem aR.inj : ∀{xs ys:List V} {us:List Value},aR xs us->aR ys us->xs=ys
 | _,_,_,.nil,.nil=>rfl
 | _,_,_,.cons r t,.cons r' t'=>by rw[r.inj r',aR.inj t t']
section
variable {X:Cx} {σ:St} {H:Hp} {xs ys:List V}
theorem SqL.of (h:H a=some (.lst xs)):SqL K H a xs:=.inl (.inl h)
theorem SqT.of (h:H a=some (.tup xs)):SqT K H a xs:=.inl (.inl h)
theorem Inv.list (I:Inv X pins σ H s) (h:SqL X.K H a xs) : ∃its:List Value,aR xs its/\PlainL s.heap a its.toArray/\xs.length<=sizeLine:=by
 rcases h with h | ⟨o,its,n,hk,hc,hd,hs,hz,r⟩
 .obtain⟨z,its,n,r,e⟩:=h.ok I.hok
  exact⟨its,r,⟨_,n,e,rfl,rfl,rfl⟩,z⟩
 .refine⟨its.toList,r,⟨o,n,I.kIn a o hk,hc,hd,by simpa using hs⟩,?_⟩
  have e:=r.length;simp only[length_toList] at e;omega
theorem Inv.tuple (I:Inv X pins σ H s) (h:SqT X.K H a xs) : ∃its:List Value,aR xs its/\IsTup s.heap a its.toArray/\xs.length<=sizeLine:=by
 rcases h with h | ⟨o,its,n,hk,hc,hs,hz,r⟩
 .obtain⟨z,its,r,p⟩:=h.ok I.hok
  exact⟨its,r,p,z⟩
 .refine⟨its.toList,r,⟨o,I.kIn a o hk,hc,n,by simpa using hs⟩,?_⟩
  have e:=r.length;simp only[length_toList] at e;omega
theorem Inv.list_inj (I:Inv X pins σ H s) (h:SqL X.K H a xs) (h':SqL X.K H a ys):xs=ys:=by
 obtain⟨its,r,⟨o,n,e,_,_,d⟩,_⟩:=I.list h;obtain⟨its',r',⟨o',B,z,_,_,d'⟩,_⟩:=I.list h';rw[e] at z;cases z;rw[d] at d'
 injection d' with d1 _
 have:its=its':=by simpa using congrArg Array.toList d1
 subst this;exact r.inj r'
theorem Inv.tuple_inj (I:Inv X pins σ H s) (h:SqT X.K H a xs) (h':SqT X.K H a ys):xs=ys:=by
 obtain⟨its,r,⟨o,e,_,n,d⟩,_⟩:=I.tuple h;obtain⟨its',r',⟨o',z,_,B,d'⟩,_⟩:=I.tuple h';rw[e] at z;cases z;rw[d] at d'
 injection d' with d1 _
 have:its=its':=by simpa using congrArg Array.toList d1
 subst this;exact r.inj r'
end
abbrev Cx.wish (X:Cx) (E:Value->Shared->Prop):Cx:={ X with xe:=E }
abbrev Cx.nox (X:Cx):Cx:=X.wish λ_ _=>False
theorem Cx.Ok.wish {X:Cx} (ok:X.Ok) (E:Value->Shared->Prop):(X.wish E).Ok :=
 ⟨ok.mod,ok.kind,ok.glob,ok.blt,ok.above,ok.inj,ok.has,ok.cab,ok.hd,ok.frames,ok.stk,ok.exf,ok.bs,ok.bsz,ok.noex,ok.exfs,ok.funs,ok.frf⟩
theorem Cx.Ok.unwish {X:Cx} (ok:(X.wish E).Ok):X.Ok :=
 ⟨ok.mod,ok.kind,ok.glob,ok.blt,ok.above,ok.inj,ok.has,ok.cab,ok.hd,ok.frames,ok.stk,ok.exf,ok.bs,ok.bsz,ok.noex,ok.exfs,ok.funs,ok.frf⟩
section
variable {X:Cx} {σ:St} {H:Hp}
theorem Inv.wish (I:Inv X pins σ H s) (E:Value->Shared->Prop):Inv (X.wish E) pins σ H s:=⟨I.ok.wish E,I.os,I.bare,I.base,I.loc,I.cell,I.free,I.freeC,I.pin,I.hok,I.len⟩
theorem Inv.unwish (I:Inv (X.wish E) pins σ H s):Inv X pins σ H s:=⟨I.ok.unwish,I.os,I.bare,I.base,I.loc,I.cell,I.free,I.freeC,I.pin,I.hok,I.len⟩
theorem SP.unwish {D:lN} {f:Flow} {s':Shared} (h:SP (X.wish E) pins D f s'):SP X pins D f s':=by
 cases f with
 | next=>obtain⟨σ',H',I,q⟩:=h;exact⟨σ',H',I.unwish,q⟩
 | brk=>obtain⟨σ',H',I,q⟩:=h;exact⟨σ',H',I.unwish,q⟩
 | cont=>obtain⟨σ',H',I,q⟩:=h;exact⟨σ',H',I.unwish,q⟩
 | ret u=>obtain⟨v,σ',H',I,r,q⟩:=h;exact⟨v,σ',H',I.unwish,r,q⟩
theorem PSs.nox {st:List Stmt} {t:TS} (h:PSs X.nox st t):PSs X st t:=λpins s σ H D I hw =>
 wpAny_mono (h pins s σ H D (I.wish _) hw) (λ_ _ q=>q.unwish) λ_ _ z=>False.elim z
end
section
variable {X:Cx} {t u:TS} {te:TE}
def xf:TS:=λD σ H=>D.nx σ H
def fL (t u:TS):TS:=λD σ H=>t { D with nx:=u D } σ H
theorem aD:PSs X [] xf:=λ_ _ σ H _ I h=>wpAny_execs_nil ⟨σ,H,I,h⟩
theorem af (h1:PS X st t) (h2:PSs X rest u):PSs X (st :: rest) (fL t u):=by
 intro pins s σ H D I h;refine wpAny_execs_cons (thn (h1 pins s σ H { D with nx:=u D } I h) λf B q=>?_)
 cases f with
 | next =>
  obtain⟨σ',H',z,q⟩:=q;exact h2 pins B σ' H' D z q
 | ret v=>exact q
 | brk=>exact q
 | cont=>exact q
theorem ai (h1:PS X st t):PSs X [st] t:=by
 intro pins s σ H D I h;refine wpAny_execs_cons (thn (h1 pins s σ H D I h) λf z q=>?_)
 cases f with
 | next=>exact wpAny_execs_nil q
 | ret v=>exact q
 | brk=>exact q
 | cont=>exact q
theorem Inv.quiet {σ:St} {H:Hp} (I:Inv X pins σ H s):interactive X.env=false:=by simp[interactive,I.ok.kind]
def AV (te:TE):TS:=λD σ H=>te σ H λ_ H1=>D.nx σ H1
theorem bY (F:PE X e te) (B:swapsWith e none pos.line X.env=pure false:=by rfl):PS X (.Expr e pos) (AV te):=by
 intro pins s σ H D I h;exact wpAny_Expr_any (thn (F pins s σ H _ I h) λv Z z=>by obtain⟨x,H1,U,r1,Y⟩:=z;exact(⟨σ,H1,U,Y⟩)) I.quiet B
def Ea (te:TE):TS:=λD σ H=>te σ H D.rt
theorem aB (B:PE X e te):PS X (.Return (some e) pos) (Ea te):=by
 intro pins s σ H D I h;exact wpAny_Return_some (thn (B pins s σ H _ I h) λv Z z=>by obtain⟨x,H1,U,F,Y⟩:=z;exact(⟨x,σ,H1,U,F,Y⟩))
def EB (c:TT) (t u:TS):TS:=λD σ H=>c σ H λb H1=>if b=true then t D σ H1 else u D σ H1
theorem aK {c:Expr} {a b:List Stmt} {tc:TT} (Z:PT X c tc) (Y:PSs X a t) (hb:PSs X b u):PS X (.If c a b pos) (EB tc t u):=by
 intro pins s σ H D I h;refine wpAny_If (thn (Z pins s σ H _ I h) λd U z=>?_)
 obtain⟨H1,B,F⟩:=z;cases d with
 | true=>exact Y pins U σ H1 D B F
 | false=>exact hb pins U σ H1 D B F
def vg:TS:=λ_ _ _=>False
theorem aL:PS X st vg:=λ_ _ _ _ _ _ h=>h.elim
end
abbrev TG:=V->St->Hp->(St->Hp->Prop)->Prop
abbrev TGs:=List V->St->Hp->(St->Hp->Prop)->Prop
def PG (X:Cx) (z:Expr) (t:TG):Prop :=
 ∀ (pins:List (Addr × Obj)) (s:Shared) (σ:St) (H:Hp) (v:V) (u:Value) (Q:St->Hp->Prop),Inv X pins σ H s->aY v u->t v σ H Q ->
  wpAny (model X.prog X.w) X.A (assign z X.env u) (λ_ s'=>∃ σ' H',Inv X pins σ' H' s'/\Q σ' H') X.xe s
def PGs (X:Cx) (ts:List Expr) (t:TGs):Prop :=
 ∀ (pins:List (Addr × Obj)) (s:Shared) (σ:St) (H:Hp) (vs:List V) (us:List Value) (Q:St->Hp->Prop),Inv X pins σ H s->aR vs us->t vs σ H Q ->
  wpAny (model X.prog X.w) X.A (assignInOrder ((assignEach ts X.env).map (·.2)) us) (λ_ s'=>∃ σ' H',Inv X pins σ' H' s'/\Q σ' H') X.xe s
section
variable {X:Cx}
def dW (i:Nat):TG:=λv σ H Q=>Q (σ.set i (some v)) H
theorem aA (i:Nat) {x:Str} (F:X.N.Nodup:=by first | assumption | exact of_decide_eq_true (by kernel_rfl)) (hi:X.N[i]? = some x:=by exact rfl) (B:Loc X.env.scope x:=by first | exact Or.inl rfl | exact Or.inr rfl) (U:X.fn x=true\/X.env.scope.names.lookup x=some .local:=by first | exact .inl rfl | exact .inr rfl | assumption):PG X (.Name x pos) (dW i):=by
 intro pins s σ H v u Q I r h;exact wpAny_assign_Name (sN I F hi B r (λs' z=>⟨_,H,z,h⟩) U)
def Bp:TGs:=λvs σ H Q=>vs=[]/\Q σ H
def tI (t:TG) (u:TGs):TGs:=λvs σ H Q=>∃v r,vs=v :: r/\t v σ H λσ' H'=>u r σ' H' Q
theorem cO:PGs X [] Bp:=by
 intro pins s σ H vs us Q I r h;obtain⟨e,h⟩:=h;subst e;cases r;exact assignInOrder_nil ⟨σ,H,I,h⟩
theorem aW {t:TG} {u:TGs} (h1:PG X e t) (h2:PGs X es u)
  (F:(assignEach (e :: es) X.env).map (·.2)=assign e X.env ::(assignEach es X.env).map (·.2):=by rfl):PGs X (e :: es) (tI t u):=by
 intro pins s σ H vs us Q I r h;obtain⟨v,vr,e1,h⟩:=h;subst e1;cases r with
 | cons r Z =>
  rw[F];refine assignInOrder_cons (thn (h1 pins s σ H _ _ _ I r h) λ_ s1 z=>?_)
  obtain⟨B,H1,U,Y⟩:=z;exact h2 pins s1 B H1 _ _ Q U Z Y
def Il (K:PySem.W.Frag) (n:Nat) (t:TGs):TG:=λv σ H Q=>∃a xs,v = .ref a/\SqT K H a xs/\xs.length=n/\t xs σ H Q
theorem ED {t:TGs} (Z:X.calm=true) (h:PGs X es t)
  (hn:(assignEach es X.env).length=n:=by rfl) (z:(assignEach es X.env).findIdx? (·.1)=none:=by rfl):PG X (.Tuple es k pos) (Il X.K n t):=by
 intro pins s σ H v u Q I r hw;obtain⟨a,xs,e1,hq,hl,hw⟩:=hw;subst e1;cases r;obtain⟨its,B,F,hz⟩:=I.tuple hq;refine assign_Tuple_tuple (I.ok.hd Z) F (by simp[hn,<- hl,B.length]) z λh' U=>?_
 have Y:Inv X pins σ H { s with heap:=h' }:=I.kept (t':=s.toks) λb o e=>U b o (ne_of_lt (Heap.lt_size e)) e
 exact h pins _ σ H xs _ Q Y (by simpa using B) hw
def vB (te:TE) (g:TG):TS:=λD σ H=>te σ H λx H1=>g x σ H1 D.nx
theorem rL {te:TE} {g:TG} (F:PE X e te) (Y:PG X tg g) (B:swapsWithSole [tg] e pos.line X.env=pure false:=by rfl) (hw:swappedStores [tg] e X.env=pure none:=by rfl)
  (h1:(assignEach [tg] X.env).map (·.2)=[assign tg X.env]:=by rfl):PS X (.Assign [tg] e pos) (vB te g):=by
 intro pins s σ H D I h;refine wpAny_Assign_stores (thn (F pins s σ H _ I h) λv s1 z=>?_) B hw
 obtain⟨x,H1,U,r1,Z⟩:=z;rw[h1];exact thn (Y pins s1 σ H1 x v _ U r1 Z) λ_ s2 q=>q
theorem az (i:Nat) {x:Str} {e:Expr} {te:TE} {pos':Pos} (F:PE X e te) (Y:X.N.Nodup:=by assumption) (hi:X.N[i]? = some x:=by exact rfl) (U:Loc X.env.scope x:=by first | exact Or.inl rfl | exact Or.inr rfl) (B:swapsWith e (some (.Name x pos')) pos.line X.env=pure false:=by rfl) (hf:X.fn x=true\/X.env.scope.names.lookup x=some .local:=by first | exact .inl rfl | exact .inr rfl | assumption) :
  PS X (.Assign [.Name x pos'] e pos) (vB te (dW i)):=by
 intro pins s σ H D I h;refine wpAny_Assign_Name (thn (F pins s σ H _ I h) λv s1 z=>?_) B
 obtain⟨y,H1,Z,r1,q1⟩:=z;exact sN Z Y hi U r1 (λs2 I2=>⟨_,H1,I2,q1⟩) hf
end
section
variable {X:Cx}
def wx (c:TT) (tb:TS):TS:=λD σ H=>∃W:Nat->St->Hp->Prop,(∃m,W m σ H)/\∀m σ H,W m σ H ->
 c σ H λb H1=>if b=true then ∃N:St->Hp->Prop,(∀ σ' H',N σ' H'->∃z,z < m/\W z σ' H')/\tb { D with nx:=N,ct:=N,bk:=D.nx } σ H1 else D.nx σ H1
theorem im {c:Expr} {tc:TT} {tb:TS} (hp:PassesOwn (model X.prog X.w) X.A X.env X.xe) (hc:PT X c tc) (hb:PSs X body tb):PS X (.While c body [] pos) (wx tc tb):=by
 intro pins s σ H D I h;obtain⟨W,⟨m0,w0⟩,U⟩:=h;refine wpAny_While (codeAny_whileLoop (λn s'=>∃ σ' H',Inv X pins σ' H' s'/\W n σ' H') ?_ m0 ⟨σ,H,I,w0⟩)
 rintro n s1 ⟨F,H1,I1,w1⟩
 refine wpAny_passesOwn hp (thn (hc pins s1 F H1 _ I1 (U n F H1 w1)) λb s2 B=>?_)
 obtain⟨H2,I2,Z⟩:=B;cases b with
 | true =>
  obtain⟨N,hN,Z⟩:=Z;rw[if_pos rfl];refine wpAny_passesOwn hp (thn (hb pins s2 F H2 _ I2 Z) λf s3 q3=>?_)
  cases f with
  | next =>
   obtain⟨z,Y,I3,n3⟩:=q3;obtain⟨m',hm,w3⟩:=hN z Y n3;exact⟨m',hm,z,Y,I3,w3⟩
  | cont =>
   obtain⟨z,Y,I3,n3⟩:=q3;obtain⟨m',hm,w3⟩:=hN z Y n3;exact⟨m',hm,z,Y,I3,w3⟩
  | brk=>exact q3
  | ret v=>exact q3
 | false =>
  rw[if_neg Bool.false_ne_true];exact wpAny_execs_nil ⟨F,H2,I2,Z⟩
end
structure It where
 go:Nat->Hp->Prop
 yld:Nat->Hp->V->Hp->Prop
 stop:Nat->Hp->Prop
def pQ (X:Cx) (pins:List (Addr × Obj)) (H:Hp) (b:Addr):Prop :=
 H b=none/\b≠X.env.locals/\b∉X.fs/\(b∈X.ex\/X.s₀.heap.objs.size<=b)/\(∀x c,X.env.cells.lookup x=some c->c≠b)/\∀p∈X.pn++pins,p.1≠b
theorem Inv.fpOk {X:Cx} {σ:St} {H H':Hp} (I:Inv X pins σ H s) (B:s.heap.objs.size<=b) (hn:H' b=none):pQ X pins H' b:=by
 refine⟨hn,ne_of_gt (lt_of_lt_of_le I.lt B),I.nofs B,.inr (le_trans I.sz B),λx c e z=>?_,λp F z=>?_⟩
 .obtain⟨v,q⟩:=I.cell x c e
  exact absurd (lt_of_lt_of_le q.lt (by rw[z];exact B)) (lt_irrefl _)
 .exact absurd (lt_of_lt_of_le (Heap.lt_size (I.pin p F).1) (by rw[z];exact B)) (lt_irrefl _)
structure uW (P:Program) (w:World) (K:PySem.W.Frag) (tg:Expr) (J:It) (fp:List Addr) (it:Addr) (tn:Nat->Heap->Prop):Prop where
 mem:it∈fp
 obj : ∀i h,tn i h->∀b∈fp,∃o,h.get? b=some o/\∀v,o.data≠.cell v
 keep : ∀i h h',tn i h->(∀b∈fp,∀o,h.get? b=some o->h'.get? b=some o)->tn i h'
 item : ∀(X:Cx),X.prog=P->X.w=w->X.K=K->X.calm=true->∀(i:Nat) (pins:List (Addr × Obj)) (s:Shared) (σ:St) (H:Hp) (E:Value->Shared->Prop),Inv X pins σ H s->(∀b∈fp,pQ X pins H b)->tn i s.heap->J.go i H ->
  wpAny (model P w) X.A (pyNext (.ref it)) (λr s1=>∃u,r=some u /\
   wpAny (model P w) X.A (letOwnedTupleGo tg (.ref it) u) (λ_ s2=>∃x H',Inv X pins σ H' s2/\aY x u/\J.yld i H x H'/\tn (i+1) s2.heap/\∀b∈fp,H' b=none) E s1) E s
 done : ∀(X:Cx),X.prog=P->X.w=w->X.K=K->X.calm=true->∀(i:Nat) (pins:List (Addr × Obj)) (s:Shared) (σ:St) (H:Hp) (E:Value->Shared->Prop),Inv X pins σ H s->(∀b∈fp,pQ X pins H b)->tn i s.heap->J.stop i H ->
  wpAny (model P w) X.A (pyNext (.ref it)) (λr s1=>r=none/\Inv X pins σ H s1) E s
 self : ∀(A:Around) (i:Nat) (s:Shared) (Q:Value->Shared->Prop) (E:Value->Shared->Prop),tn i s.heap->Q (.ref it) s->wpAny (model P w) A (pyIter (.ref it)) Q E s
abbrev TI:=St->Hp->(It->Hp->Prop)->Prop
def PIE (X:Cx) (pins:List (Addr × Obj)) (σ:St) (tg:Expr) (R:It->Hp->Prop) (z:Value) (B:Shared):Prop :=
 ∃(it:Addr) (fp:List Addr) (tn:Nat->Heap->Prop) (J:It) (H':Hp),z = .ref it/\Inv X pins σ H' B/\uW X.prog X.w X.K tg J fp it tn/\tn 0 B.heap/\(∀b∈fp,pQ X pins H' b)/\R J H'
def PI (X:Cx) (tg iter:Expr) (wi:TI):Prop :=
 ∀ (pins:List (Addr × Obj)) (s:Shared) (σ:St) (H:Hp) (R:It->Hp->Prop),Inv X pins σ H s->wi σ H R ->
  wpAny (model X.prog X.w) X.A (eval iter X.env) (λv z=>wpAny (model X.prog X.w) X.A (pyIter v) (PIE X pins σ tg R) X.xe z) X.xe s
theorem qB {o:Obj} {n:String} {vs:Array Value} {Q:Unit->Shared->Prop} (F:s.heap.get? it=some o) (B:o.cls = .type n) (U:o.data = .fields vs)
    (hn:["enumerate","zip","dict_itemiterator","dict_reverseitemiterator","odict_iterator","itertools.zip_longest","itertools.pairwise"].contains n=false) (z:Q () s):wpAny M A (letOwnedTupleGo tg (.ref it) u) Q E s:=by
  unfold letOwnedTupleGo;cases tg <;> first
    | exact wpAny_pure z
    | (cases u <;> first
        | exact wpAny_pure z
        | (refine wpAny_bind (wpAny_load F ?_)
           rw[B,U]
           show wpAny M A (if (["enumerate","zip","dict_itemiterator","dict_reverseitemiterator","odict_iterator","itertools.zip_longest","itertools.pairwise"].contains n && vs[0]? == some (rawInt _))=true then _ else _) Q E s
           rw[if_neg (by intro h;rw[hn,Bool.false_and] at h;cases h)]
           exact wpAny_pure z))
def Itl (K:PySem.W.Frag) (a:Addr):It :=
 ⟨λi H=>∃xs x,SqL K H a xs/\xs[i]? = some x,λi H x H'=>H'=H/\∀xs,SqL K H a xs->xs[i]? = some x,λi H=>∃xs,SqL K H a xs/\xs.length<=i⟩
def Itt (K:PySem.W.Frag) (a:Addr):It :=
 ⟨λi H=>∃xs x,SqT K H a xs/\xs[i]? = some x,λi H x H'=>H'=H/\∀xs,SqT K H a xs->xs[i]? = some x,λi H=>∃xs,SqT K H a xs/\xs.length<=i⟩
def Itr (lo:Int) (n:Nat):It:=⟨λi _=>i < n,λi H x H'=>H'=H/\x = .int (lo+i),λi _=>n<=i⟩
theorem qb (a it:Addr):uW P w K tg (Itl K a) [it] it (λi h=>h.IsListIter it a i) where
 mem:=by simp
 obj:=λi h st b B=>by
  have e:b=it:=by simpa using B
  subst e;obtain⟨o,e,c,d⟩:=st;exact⟨o,e,λv z=>by rw[d] at z;cases z⟩
 keep:=λi h h' st k=>st.at λo e=>k it (by simp) o e
 item:=by
  intro X hP hw hK hc i pins s σ H E I U st hg;subst hP hw hK;obtain⟨xs,x,Y,Z⟩:=hg;obtain⟨its,rv,p,hz⟩:=I.list Y;obtain⟨u,hu,ru⟩:=rv.get Z;obtain⟨f0,f1,f2,f3,f4,f5⟩:=U it (by simp)
  refine wpAny_pyNext_list_item st p.isList (x:=u) (by simpa using hu) λh' F sb=>?_
  have I1:Inv X pins σ H { s with heap:=h' }:=I.turned (t':=s.toks) (λb o B e=>(sb.2 b B).trans e) f0 f1 f3 f4 f5
  obtain⟨o,e,c,d⟩:=id F;exact⟨u,rfl,qB (s:={ s with heap:=h' }) e c d (by decide) ⟨x,H,I1,ru,⟨rfl,λys hy=>by rw[I.list_inj hy Y];exact Z⟩,F,λb B=>(U b B).1⟩⟩
 done:=by
  intro X hP hw hK hc i pins s σ H E I U st hg;subst hP hw hK;obtain⟨xs,Y,Z⟩:=hg;obtain⟨its,rv,p,hz⟩:=I.list Y;obtain⟨f0,f1,f2,f3,f4,f5⟩:=U it (by simp)
  have hl:=rv.length;exact wpAny_pyNext_list_end (I.ok.hd hc) st p.isList (by simp;omega) λh' eb=>⟨rfl,I.turned (t':=s.toks) (λb o B e=>eb b o B e) f0 f1 f3 f4 f5⟩
 self:=λ_ _ _ _ _ st h=>wpAny_pyIter_listiter st h
theorem nA (a it:Addr):uW P w K tg (Itt K a) [it] it (λi h=>h.IsTupleIter it a i) where
 mem:=by simp
 obj:=λi h st b B=>by
  have e:b=it:=by simpa using B
  subst e;obtain⟨o,e,c,d⟩:=st;exact⟨o,e,λv z=>by rw[d] at z;cases z⟩
 keep:=λi h h' st k=>st.at λo e=>k it (by simp) o e
 item:=by
  intro X hP hw hK hc i pins s σ H E I U st hg;subst hP hw hK;obtain⟨xs,x,Y,Z⟩:=hg;obtain⟨its,rv,p,hz⟩:=I.tuple Y;obtain⟨u,hu,ru⟩:=rv.get Z;obtain⟨f0,f1,f2,f3,f4,f5⟩:=U it (by simp)
  refine wpAny_pyNext_tuple_item st (show s.heap.IsTuple a its.toArray from p) (x:=u) (by simpa using hu) λh' F sb=>?_
  have I1:Inv X pins σ H { s with heap:=h' }:=I.turned (t':=s.toks) (λb o B e=>(sb.2 b B).trans e) f0 f1 f3 f4 f5
  obtain⟨o,e,c,d⟩:=id F;exact⟨u,rfl,qB (s:={ s with heap:=h' }) e c d (by decide) ⟨x,H,I1,ru,⟨rfl,λys hy=>by rw[I.tuple_inj hy Y];exact Z⟩,F,λb B=>(U b B).1⟩⟩
 done:=by
  intro X hP hw hK hc i pins s σ H E I U st hg;subst hP hw hK;obtain⟨xs,Y,Z⟩:=hg;obtain⟨its,rv,p,hz⟩:=I.tuple Y;obtain⟨f0,f1,f2,f3,f4,f5⟩:=U it (by simp)
  have hl:=rv.length;exact wpAny_pyNext_tuple_end (I.ok.hd hc) st (show s.heap.IsTuple a its.toArray from p) (by simp;omega) λh' eb=>⟨rfl,I.turned (t':=s.toks) (λb o B e=>eb b o B e) f0 f1 f3 f4 f5⟩
 self:=λ_ _ _ _ _ st h=>wpAny_pyIter_tupleiter st h
theorem ww (it:Addr) (lo:Int) (n:Nat):uW P w K tg (Itr lo n) [it] it (λi h=>IsRangeIter h it (lo+(i:Nat) * 1) ((n:Int) - (i:Nat)) 1) where
 mem:=by simp
 obj := λi h st b B=>by
  have e:b=it:=by simpa using B
  subst e;exact⟨_,st,λv z=>by
   have z':Data.fields _=Data.cell v:=z
   cases z'⟩
 keep:=λi h h' st k=>k it (by simp) _ st
 item:=by
  intro X hP hw hK Z i pins s σ H E I U st Y;subst hP hw hK;obtain⟨f0,f1,f2,f3,f4,f5⟩:=U it (by simp)
  have W:=Walks.range (prog:=X.prog) (w:=X.w) (I.ok.hd Z) it lo 1 n;refine W.item i s _ _ Y st λv h' tk hv F kk=>?_
  obtain⟨t,rfl⟩:=hv;have I1:Inv X pins σ H { s with heap:=h',toks:=tk }:=I.turned (λb o B e=>kk b o (by simpa using B) e) f0 f1 f3 f4 f5
  refine⟨_,rfl,qB (s:={ s with heap:=h',toks:=tk }) (n := "range_iterator") F rfl rfl (by decide) ⟨.int (lo+i),H,I1,⟨t,?_⟩,⟨rfl,rfl⟩,F,λb B=>(U b B).1⟩⟩
  rw[Int.mul_one]
 done:=by
  intro X hP hw hK Z i pins s σ H E I U st Y;subst hP hw hK;obtain⟨f0,f1,f2,f3,f4,f5⟩:=U it (by simp)
  exact wpAny_pyNext_range_end (I.ok.hd Z) st (by have:n<=i:=Y;omega) λh' eb=>⟨rfl,I.turned (t':=s.toks) (λb o B e=>eb b o B e) f0 f1 f3 f4 f5⟩
 self:=λ_ _ _ _ _ st h=>wpAny_pyIter_rangeiter st h
section
variable {X:Cx}
theorem yQ {σ:St} {H:Hp} {R:It->Hp->Prop} {lo hi:Int} {t u v:Tok} (I:Inv X pins σ H s) (h1 : -(2 ^ 62)<=lo) (h2:lo < 2 ^ 62) (F : -(2 ^ 62)<=hi) (B:hi < 2 ^ 62)
  (q:R (Itr lo (hi - lo).toNat) H):wpAny (model X.prog X.w) X.A (pyIter (.ref s.heap.objs.size)) (PIE X pins σ tg R) E { s with heap:=s.heap.push { cls:=.type "range",data:=.fields #[.int lo t,.int hi u,.int 1 v] },toks:=tk }:=by
 refine wpAny_pyIter_range (IsRange.new ..) (small_one h1 h2 F B) ?_
 have z:Inv X pins σ H { s with heap:=s.heap.push { cls:=.type "range",data:=.fields #[.int lo t,.int hi u,.int 1 v] },toks:=tk }:=I.kept λb o e=>Heap.get?_push_of_some _ e
 refine⟨(s.heap.push { cls:=.type "range",data:=.fields #[.int lo t,.int hi u,.int 1 v] }).objs.size,[(s.heap.push { cls:=.type "range",data:=.fields #[.int lo t,.int hi u,.int 1 v] }).objs.size],_,_,H,rfl,
  z.kept (t':=tk) λb o e=>Heap.get?_push_of_some _ e,ww _ lo (hi - lo).toNat,?_,λb U=>?_,q⟩
 .have e1:lo+((0:Nat):Int) * 1=lo:=by simp
  have e2:(((hi - lo).toNat:Nat):Int) - ((0:Nat):Int)=Builtin.Range.rangeSize lo hi 1:=by rw[rangeSize_one];split <;> omega
  show IsRangeIter _ _ (lo+((0:Nat):Int) * 1) ((((hi - lo).toNat:Nat):Int) - ((0:Nat):Int)) 1
  rw[e1,e2];exact Heap.get?_push_size _ rfl
 .have e:b=(s.heap.push { cls:=.type "range",data:=.fields #[.int lo t,.int hi u,.int 1 v] }).objs.size:=by simpa using U
  subst e;exact z.fpOk (le_refl _) (z.hok.fresh (le_refl _))
def zh (ta:TA):TI:=λσ H R=>ta σ H λvs H1=>∃j:Int,vs=[.int j]/\-(2 ^ 62)<=j/\j < 2 ^ 62/\R (Itr 0 j.toNat) H1
theorem cb {a:Expr} {ta:TA} {p:Pos} (hg:Gl X "range") (U:X.mg "range" = none) (Y:PA X [a] ta) (Z:starEach [a] X.env=[(false,eval a X.env)]:=by rfl):PI X tg (.Call (.Name "range" p) [a] [] pos) (zh ta):=by
 intro pins s σ H R I h;refine Call_ (dU I hg U boot_range (PyProof.Rows.callWith_type1 (thn (Y pos pins s σ H _ I h) λus s1 z=>?_) Z rfl))
 obtain⟨vs,H1,I1,r1,B⟩:=z;obtain⟨j,e,B,F,q⟩:=B;subst e;cases r1 with
 | cons r rr =>
  cases rr;obtain⟨t,rfl⟩:=r;exact call_range_1 (yQ I1 (by omega) (by omega) B F (by simpa using q))
def GP (wi:TI) (g:TG) (tb:TS):TS:=λD σ H=>wi σ H λJ H1=>∃W:Nat->Nat->St->Hp->Prop,(∃m,W 0 m σ H1)/\∀i m σ H,W i m σ H ->
 (J.stop i H/\D.nx σ H)\/(J.go i H/\∃N:St->Hp->Prop,(∀ σ' H',N σ' H'->∃B,B < m/\W (i+1) B σ' H')/\∀x H',J.yld i H x H'->g x σ H' λz H2=>tb { D with nx:=N,ct:=N,bk:=D.nx } z H2)
def mX (fp:List Addr) (h:Heap):List (Addr × Obj):=fp.filterMap λb=>(h.get? b).map λo=>(b,o)
theorem ju {o:Obj} (z:b∈fp) (e:h.get? b=some o):(b,o)∈mX fp h:=List.mem_filterMap.mpr ⟨b,z,by rw[e];rfl⟩
theorem xV {p:Addr × Obj} (B:p∈mX fp h):p.1∈fp/\h.get? p.1=some p.2:=by
 obtain⟨b,z,e⟩:=List.mem_filterMap.mp B;cases q:h.get? b with
 | none=>rw[q] at e;cases e
 | some o =>
  rw[q] at e;have F:(b,o)=p:=Option.some.inj e
  subst F;exact⟨z,q⟩
theorem Inv.pinned {σ:St} {H:Hp} (I:Inv X pins σ H s) (Z : ∀b∈fp,pQ X pins H b) (U : ∀b∈fp,∃o,s.heap.get? b=some o/\∀v,o.data≠.cell v):Inv X (pins++mX fp s.heap) σ H s :=
 I.pins_of λp Y=>(mem_append.mp Y).elim (λz=>I.pin p (mem_append_right _ z)) λz=>by
  obtain⟨F,e⟩:=xV z;obtain⟨f0,f1,f2,_⟩:=Z p.1 F;obtain⟨o,B,d⟩:=U p.1 F;rw[e] at B;cases B;exact⟨e,f0,f1,f2,d⟩
theorem Inv.unpinned {pl:List (Addr × Obj)} {σ:St} {H:Hp} (I:Inv X (pins++pl) σ H s):Inv X pins σ H s:=I.pins_of λp z=>I.pin p (mem_append_right _ (mem_append_left _ z))
theorem bC {wi:TI} {g:TG} {tb:TS} (hi:PI X tg iter wi) (hg:PG X tg g) (B:PSs X body tb) (hp:PassesOwn (model X.prog X.w) X.A X.env X.xe:=by exact PassesOwn.never) (hc:X.calm=true:=by exact rfl)
  (hs : ∀x,foldedSetIterable iter X.env x=pure x:=by intro _;rfl):PS X (.For tg iter body [] pos) (GP wi g tb):=by
 intro pins s σ H D I h;refine wpAny_For (thn (hi pins s σ H _ I h) λv s1 h1=>thn h1 λar s2 h2=>?_) hs
 obtain⟨it,fp,tn,J,H2,e,I2,T,an,f2,W,⟨m0,w0⟩,ah⟩:=h2;subst e;have aa : ∀{H':Hp},(∀b∈fp,H' b=none)->∀b∈fp,pQ X pins H' b:=λhn b B=>⟨hn b B,(f2 b B).2⟩
 refine codeAny_forLoop_any (λn s'=>∃i σ' H',Inv X pins σ' H' s'/\tn i s'.heap/\(∀b∈fp,H' b=none)/\W i n σ' H') ?_ m0 ⟨0,σ,H2,I2,an,λb B=>(f2 b B).1,w0⟩
 rintro n s3 ⟨i,Z,H3,I3,aj,ak,w3⟩
 rcases ah i n Z H3 w3 with⟨ai,qn⟩ | ⟨go,N,hN,step⟩
 .refine wpAny_passesOwn hp (thn (T.done X rfl rfl rfl hc i pins s3 Z H3 X.xe I3 (aa ak) aj ai) λr s4 ad=>?_)
  obtain⟨hr,I4⟩:=ad;subst hr;exact wpAny_execs_nil ⟨Z,H3,I4,qn⟩
 .refine wpAny_passesOwn hp (thn (T.item X rfl rfl rfl hc i pins s3 Z H3 X.xe I3 (aa ak) aj go) λr s4 ac=>?_)
  obtain⟨u,hr,h4⟩:=ac;subst hr;refine wpAny_passesOwn hp (thn h4 λ_ s5 af=>?_)
  obtain⟨x,H5,I5,r5,y5,ag,aq⟩:=af;have ap:=I5.pinned (aa aq) (T.obj _ _ ag);refine wpAny_passesOwn hp (thn (hg _ s5 Z H5 x u _ ap r5 (step x H5 y5)) λ_ s6 ae=>?_)
  obtain⟨ao,H6,I6,q6⟩:=ae;refine wpAny_passesOwn hp (thn (B _ s6 ao H6 _ I6 q6) λf s7 q7=>?_)
  have U : ∀{z:St} {Y:Hp},Inv X (pins++mX fp s5.heap) z Y s7->N z Y->∃m,m < n/\∃i σ' H',Inv X pins σ' H' s7/\tn i s7.heap/\(∀b∈fp,H' b=none)/\W i m σ' H':=λ{z Y} F n7=>by
   obtain⟨m',hm,w7⟩:=hN z Y n7;refine⟨m',hm,i+1,z,Y,F.unpinned,T.keep _ _ _ ag λb B o e=>(F.pin (b,o) (mem_append_right _ (mem_append_right _ (ju B e)))).1,λb B=>?_,w7⟩
   obtain⟨o,e,d⟩:=T.obj _ _ ag b B;exact(F.pin (b,o) (mem_append_right _ (mem_append_right _ (ju B e)))).2.1
  cases f with
  | next=>obtain⟨z,Y,F,n7⟩:=q7;exact U F n7
  | cont=>obtain⟨z,Y,F,n7⟩:=q7;exact U F n7
  | brk=>obtain⟨z,Y,F,q7⟩:=q7;exact⟨z,Y,F.unpinned,q7⟩
  | ret v=>obtain⟨x7,z,Y,F,r7,q7⟩:=q7;exact⟨x7,z,Y,F.unpinned,r7,q7⟩
end
abbrev R2:=V->V->Hp->VK->Prop
def OpR (X:Cx) (f:Value->Value->Sem Value) (r:R2):Prop :=
 ∀ (pins:List (Addr × Obj)) (s:Shared) (σ:St) (H:Hp) (x y:V) (v u:Value) (Q:VK),Inv X pins σ H s->aY x v->aY y u->r x y H Q ->
  wpAny (model X.prog X.w) X.A (f v u) (EP X pins σ Q) X.xe s
def UnR (X:Cx) (f:Value->Sem Value) (r:V->Hp->VK->Prop):Prop :=
 ∀ (pins:List (Addr × Obj)) (s:Shared) (σ:St) (H:Hp) (x:V) (v:Value) (Q:VK),Inv X pins σ H s->aY x v->r x H Q ->
  wpAny (model X.prog X.w) X.A (f v) (EP X pins σ Q) X.xe s
def bE (X:Cx) (f:Value) (r:List V->Hp->VK->Prop):Prop :=
 ∀ (pins:List (Addr × Obj)) (s:Shared) (σ:St) (H:Hp) (xs:List V) (us:List Value) (Q:VK),Inv X pins σ H s->aR xs us->r xs H Q ->
  wpAny (model X.prog X.w) X.A (call f us) (EP X pins σ Q) X.xe s
def tOp (r:R2) (ta tb:TE):TE:=λσ H Q=>ta σ H λx H1=>tb σ H1 λy H2=>r x y H2 Q
def tUn (r:V->Hp->VK->Prop) (ta:TE):TE:=λσ H Q=>ta σ H λx H1=>r x H1 Q
def rI (C:Int->Int->Prop) (g:Int->Int->V):R2:=λx y H Q=>∃i j,x = .int i/\y = .int j/\C i j/\Q (g i j) H
def rI0 (g:Int->Int->V):R2:=λx y H Q=>∃i j,x = .int i/\y = .int j/\Q (g i j) H
def rU (g:Int->V):V->Hp->VK->Prop:=λx H Q=>∃i,x = .int i/\Q (g i) H
section
variable {X:Cx} {a b c:Expr} {ta tb tc:TE}
theorem EY (Z:PE X a ta) (hb:PE X b tb) {pins:List (Addr × Obj)} {s:Shared} {σ:St} {H:Hp} {R:V->V->Hp->Prop} (I:Inv X pins σ H s)
  (h:ta σ H λx H1=>tb σ H1 λy H2=>R x y H2) {Q:Value->Shared->Prop} {f:Value->Value->Sem Value}
  (hf : ∀v u U x y H2,Inv X pins σ H2 U->aY x v->aY y u->R x y H2->wpAny (model X.prog X.w) X.A (f v u) Q X.xe U) :
  wpAny (model X.prog X.w) X.A (eval a X.env) (λv s₁=>wpAny (model X.prog X.w) X.A (eval b X.env) (λu F=>wpAny (model X.prog X.w) X.A (f v u) Q X.xe F) X.xe s₁) X.xe s:=by
 refine thn (Z pins s σ H _ I h) λv s1 z=>?_
 obtain⟨x,H1,I1,r1,q1⟩:=z;refine thn (hb pins s1 σ H1 _ I1 q1) λu U B=>?_
 obtain⟨y,H2,I2,r2,Y⟩:=B;exact hf v u U x y H2 I2 r1 r2 Y
theorem aN {op:Operator} {r:R2} (z:OpR X (binaryOp op) r) (B:PE X a ta) (Y:PE X b tb):PE X (.BinOp a op b pos) (tOp r ta tb):=by
 intro pins s σ H Q I h;exact wpAny_BinOp (EY B Y I h λv u U x y H2 I2 F Z q=>z pins U σ H2 x y v u Q I2 F Z q)
theorem iW {op:UnaryOp} {r:V->Hp->VK->Prop} (B:UnR X (unaryOp op) r) (F:PE X a ta):PE X (.UnaryOp op a pos) (tUn r ta):=by
 intro pins s σ H Q I h;exact UnaryOp_ (thn (F pins s σ H _ I h) λv Z z=>by obtain⟨x,H1,U,r1,Y⟩:=z;exact(B pins Z σ H1 x v Q U r1 Y))
theorem opI {f:Value->Value->Sem Value} {C:Int->Int->Prop} {g:Int->Int->Int}
  (z : ∀(i j:Int) (t u:Tok) (s:Shared) (Q:Value->Shared->Prop) (E:Value->Shared->Prop),C i j->Q (.int (g i j) s.toks) { s with toks:=s.toks+1 }->wpAny (model X.prog X.w) X.A (f (.int i t) (.int j u)) Q E s) :
  OpR X f (rI C λi j=>.int (g i j)):=by
 intro pins s σ H x y v u Q I B U h;obtain⟨i,j,rfl,rfl,F,q⟩:=h;obtain⟨t,rfl⟩:=B;obtain⟨t',rfl⟩:=U;exact z i j t t' s _ _ F ⟨.int (g i j),H,I.tok _,⟨_,rfl⟩,q⟩
theorem Gm {f:Value->Value->Sem Value} {g:Int->Int->Int}
  (z : ∀(i j:Int) (t u:Tok) (s:Shared) (Q:Value->Shared->Prop) (E:Value->Shared->Prop),Q (.int (g i j) s.toks) { s with toks:=s.toks+1 }->wpAny (model X.prog X.w) X.A (f (.int i t) (.int j u)) Q E s) :
  OpR X f (rI0 λi j=>.int (g i j)):=by
 intro pins s σ H x y v u Q I B F h;obtain⟨i,j,rfl,rfl,q⟩:=h;obtain⟨t,rfl⟩:=B;obtain⟨t',rfl⟩:=F;exact z i j t t' s _ _ ⟨.int (g i j),H,I.tok _,⟨_,rfl⟩,q⟩
theorem Ep {f:Value->Value->Sem Value} {g:Int->Int->Bool}
  (z : ∀(i j:Int) (t u:Tok) (s:Shared) (Q:Value->Shared->Prop) (E:Value->Shared->Prop),Q (.bool (g i j)) s->wpAny (model X.prog X.w) X.A (f (.int i t) (.int j u)) Q E s) :
  OpR X f (rI0 λi j=>.bl (g i j)):=by
 intro pins s σ H x y v u Q I B F h;obtain⟨i,j,rfl,rfl,q⟩:=h;obtain⟨t,rfl⟩:=B;obtain⟨t',rfl⟩:=F;exact z i j t t' s _ _ ⟨.bl (g i j),H,I,rfl,q⟩
def zV (i j:Int):Prop:=(-(2 ^ 64) < i/\i < 2 ^ 64)\/(-(2 ^ 64) < j/\j < 2 ^ 64)
theorem zV.ok {j:Int} (h:zV i j):IntMulOk i j:=by
 rcases h with⟨h1,h2⟩ | ⟨h1,h2⟩
 .exact .of_left (intBits_le_64 h1 h2)
 .exact .of_right (intBits_le_64 h1 h2)
theorem bz:OpR X (binaryOp .Add) (rI0 λi j=>.int (i+j)):=Gm λ_ _ _ _ _ _ _ q=>add_int q
theorem gN:OpR X (binaryOp .Sub) (rI0 λi j=>.int (i - j)):=Gm λ_ _ _ _ _ _ _ q=>sub_int q
theorem ik:OpR X (binaryOp .Mult) (rI zV λi j=>.int (i * j)):=opI λ_ _ _ _ _ _ _ z q=>mul_int q z.ok
theorem fH:OpR X (binaryOp .Mod) (rI (λ_ j=>0 < j) λi j=>.int (i % j)):=opI λi j _ _ _ _ _ z q=>by
 have h1:(0:Int) < j:=z
 exact mod_int' (by omega) (by rw[Int.fmod_eq_emod_of_nonneg i (by omega)];exact q)
theorem unI {f:Value->Sem Value}
  (z : ∀(i:Int) (t:Tok) (s:Shared) (Q:Value->Shared->Prop) (E:Value->Shared->Prop),Q (.int (g i) s.toks) { s with toks:=s.toks+1 }->wpAny (model X.prog X.w) X.A (f (.int i t)) Q E s) :
  UnR X f (rU λi=>.int (g i)):=by
 intro pins s σ H x v Q I B h;obtain⟨i,rfl,q⟩:=h;obtain⟨t,rfl⟩:=B;exact z i t s _ _ ⟨.int (g i),H,I.tok _,⟨_,rfl⟩,q⟩
theorem fo:UnR X (unaryOp .USub) (rU λi=>.int (-i)):=unI λ_ _ _ _ _ q=>neg_int q
end
def rG:V->V->Bool
 | .non,.non=>true | .non,.int _=>true | .int _,.non=>true | .non,.bl _=>true | .bl _,.non=>true | .non,.str _=>true | .str _,.non=>true
 | .int _,.int _=>true | .bl _,.bl _=>true | .str _,.str _=>true | .byt _,.byt _=>true
 | .int _,.str _=>true | .str _,.int _=>true | .bl _,.str _=>true | .str _,.bl _=>true
 | _,_=>false
def rEq:R2:=λx y H Q=>rG x y=true/\Q (.bl (decide (x=y))) H
def rNe:R2:=λx y H Q=>rG x y=true/\Q (.bl (!decide (x=y))) H
theorem wK {j:Int}:decide (V.int i=V.int j)=(i == j):=by
 rw[Bool.eq_iff_iff];simp
theorem AW {i j:Bool}:decide (V.bl i=V.bl j)=(i == j):=by
 rw[Bool.eq_iff_iff];simp
theorem xk {i j:Str}:decide (V.str i=V.str j)=(i == j):=by
 rw[Bool.eq_iff_iff];simp
theorem wS {i j:Array UInt8}:decide (V.byt i=V.byt j)=(i.toList == j.toList):=by
 rw[Bool.eq_iff_iff];cases i;cases j;simp
section
variable {X:Cx} {a b c:Expr} {ta tb tc:TE}
theorem bf {σ:St} {H:Hp} {Q:VK} {k z:Bool} (I:Inv X pins σ H s) (q:Q (.bl k) H) (e:k=z):EP X pins σ Q (.bool z) s:=by
 subst e;exact⟨.bl k,H,I,rfl,q⟩
theorem aT:OpR X (compareOp .Eq) rEq:=by
 intro pins s σ H x y v u Q I F z h;obtain⟨B,q⟩:=h;cases x with
 | non =>
  cases F;cases y with
  | non=>cases z;exact PySem.EqNone.eq_none_none (bf I q (by simp))
  | bl j=>cases z;exact PySem.EqNone.eq_none_bool (bf I q (by simp))
  | int j=>obtain⟨t',rfl⟩:=z;exact PySem.EqNone.eq_none_int (bf I q (by simp))
  | str j=>obtain⟨t',rfl⟩:=z;exact PySem.EqNone.eq_none_str (bf I q (by simp))
  | _=>exact absurd (show false=true from B) Bool.false_ne_true
 | bl i =>
  cases F;cases y with
  | non=>cases z;exact PySem.EqNone.eq_bool_none (bf I q (by simp))
  | bl j=>cases z;exact eq_bool (bf I q AW)
  | str j=>obtain⟨t',rfl⟩:=z;exact PySem.EqMixed.eq_bool_str (bf I q (by simp))
  | _=>exact absurd (show false=true from B) Bool.false_ne_true
 | int i =>
  obtain⟨t,rfl⟩:=F;cases y with
  | non=>cases z;exact PySem.EqNone.eq_int_none (bf I q (by simp))
  | int j=>obtain⟨t',rfl⟩:=z;exact eq_int (bf I q wK)
  | str j=>obtain⟨t',rfl⟩:=z;exact PySem.EqMixed.eq_int_str (bf I q (by simp))
  | _=>exact absurd (show false=true from B) Bool.false_ne_true
 | str i =>
  obtain⟨t,rfl⟩:=F;cases y with
  | non=>cases z;exact PySem.EqNone.eq_str_none (bf I q (by simp))
  | bl j=>cases z;exact PySem.EqMixed.eq_str_bool (bf I q (by simp))
  | int j=>obtain⟨t',rfl⟩:=z;exact PySem.EqMixed.eq_str_int (bf I q (by simp))
  | str j=>obtain⟨t',rfl⟩:=z;exact eq_str (bf I q xk)
  | _=>exact absurd (show false=true from B) Bool.false_ne_true
 | byt i =>
  obtain⟨t,rfl⟩:=F;cases y with
  | byt j=>obtain⟨t',rfl⟩:=z;exact PySem.W.eq_bytes (bf I q wS)
  | _=>exact absurd (show false=true from B) Bool.false_ne_true
 | _=>cases y <;> exact absurd (show false=true from B) Bool.false_ne_true
theorem Aj:OpR X (compareOp .NotEq) rNe:=by
 intro pins s σ H x y v u Q I F z h;obtain⟨B,q⟩:=h;cases x with
 | non =>
  cases F;cases y with
  | non=>cases z;exact PySem.EqNone.ne_none_none (bf I q (by simp))
  | bl j=>cases z;exact PySem.EqNone.ne_none_bool (bf I q (by simp))
  | int j=>obtain⟨t',rfl⟩:=z;exact PySem.EqNone.ne_none_int (bf I q (by simp))
  | str j=>obtain⟨t',rfl⟩:=z;exact PySem.EqNone.ne_none_str (bf I q (by simp))
  | _=>exact absurd (show false=true from B) Bool.false_ne_true
 | bl i =>
  cases F;cases y with
  | non=>cases z;exact PySem.EqNone.ne_bool_none (bf I q (by simp))
  | bl j=>cases z;exact ne_bool (bf I q (congrArg not AW))
  | str j=>obtain⟨t',rfl⟩:=z;exact PySem.EqMixed.ne_bool_str (bf I q (by simp))
  | _=>exact absurd (show false=true from B) Bool.false_ne_true
 | int i =>
  obtain⟨t,rfl⟩:=F;cases y with
  | non=>cases z;exact PySem.EqNone.ne_int_none (bf I q (by simp))
  | int j=>obtain⟨t',rfl⟩:=z;exact ne_int (bf I q (congrArg not wK))
  | str j=>obtain⟨t',rfl⟩:=z;exact PySem.EqMixed.ne_int_str (bf I q (by simp))
  | _=>exact absurd (show false=true from B) Bool.false_ne_true
 | str i =>
  obtain⟨t,rfl⟩:=F;cases y with
  | non=>cases z;exact PySem.EqNone.ne_str_none (bf I q (by simp))
  | bl j=>cases z;exact PySem.EqMixed.ne_str_bool (bf I q (by simp))
  | int j=>obtain⟨t',rfl⟩:=z;exact PySem.EqMixed.ne_str_int (bf I q (by simp))
  | str j=>obtain⟨t',rfl⟩:=z;exact ne_str (bf I q (congrArg not xk))
  | _=>exact absurd (show false=true from B) Bool.false_ne_true
 | byt i =>
  obtain⟨t,rfl⟩:=F;cases y with
  | byt j=>obtain⟨t',rfl⟩:=z;exact PySem.W.ne_bytes (bf I q (congrArg not wS))
  | _=>exact absurd (show false=true from B) Bool.false_ne_true
 | _=>cases y <;> exact absurd (show false=true from B) Bool.false_ne_true
theorem CO:OpR X (compareOp .Lt) (rI0 λi j=>.bl (decide (i < j))):=Ep λ_ _ _ _ _ _ _ q=>lt_int q
theorem C6:OpR X (compareOp .LtE) (rI0 λi j=>.bl (decide (i<=j))):=Ep λ_ _ _ _ _ _ _ q=>le_int q
theorem uc:OpR X (compareOp .Gt) (rI0 λi j=>.bl (decide (j < i))):=Ep λ_ _ _ _ _ _ _ q=>gt_int q
theorem nomark (b:Expr) {op:CmpOp} (h:op≠.In:=by decide) (h2:op≠.NotIn:=by decide):behindInMarks op b=false:=by
 have e1:(op == CmpOp.In)=false:=by cases op <;> first | rfl | exact absurd rfl h
 have e2:(op == CmpOp.NotIn)=false:=by cases op <;> first | rfl | exact absurd rfl h2
 cases b <;> simp[behindInMarks,e1,e2]
theorem gj {op:CmpOp} {r:R2} (B:OpR X (compareOp op) r) (F:PE X a ta) (Z:PE X b tb) (z:behindInMarks op b=false:=by first | exact nomark _ | with_unfolding_all rfl):PE X (.Compare a [op] [b] pos) (tOp r ta tb):=by
 intro pins s σ H Q I h;exact wpAny_Compare1 (EY F Z I h λv u Y x y H2 I2 U ry q=>B pins Y σ H2 x y v u Q I2 U ry q) z
def qA (t:TE):TT:=λσ H Q=>t σ H λx H'=>∃k,x = .bl k/\Q k H'
theorem ay {op:CmpOp} {r:R2} (F:OpR X (compareOp op) r) (U:PE X a ta) (Z:PE X b tb) (B:behindInMarks op b=false:=by first | exact nomark _ | with_unfolding_all rfl):PT X (.Compare a [op] [b] pos) (qA (tOp r ta tb)):=by
 intro pins s σ H Q I h;refine wpAny_isTrue_Compare1 (thn (U pins s σ H _ I h) λv s1 ⟨x,H1,I1,r1,q1⟩=>thn (Z pins s1 σ H1 _ I1 q1) λu Y ⟨y,H2,I2,r2,q2⟩ =>
  thn (F pins Y σ H2 x y v u _ I2 r1 r2 q2) λc s3 ⟨z,H3,I3,r3,k,e,q3⟩=>?_) B
 subst e;cases r3;exact wpAny_truthy_bool ⟨H3,I3,q3⟩
def rn (r r':R2) (ta tb tc:TE):TE:=λσ H Q=>ta σ H λx H1=>tb σ H1 λy H2=>r x y H2 λz B=>∃k,z = .bl k /\
 (if k=true then tc σ B λF U=>r' y F U Q else Q (.bl false) B)
theorem zD {op:CmpOp} {r r':R2} (Z:OpR X (compareOp op) r) (B:OpR X (compareOp op') r') (ha:PE X a ta) (hb:PE X b tb) (hc:PE X c tc)
  (U:lastMarks [op,op'] [b,c]=false:=by with_unfolding_all rfl):PE X (.Compare a [op,op'] [b,c] pos) (rn r r' ta tb tc):=by
 intro pins s σ H Q I h;refine Compare_chain (thn (ha pins s σ H _ I h) λv s1 ⟨x,H1,I1,r1,q1⟩=>chain_link (thn (hb pins s1 σ H1 _ I1 q1) λu s2 ⟨y,H2,I2,r2,q2⟩ =>
  thn (Z pins s2 σ H2 x y v u _ I2 r1 r2 q2) λd s3 ⟨z,H3,I3,r3,k,e,q3⟩=>?_)) U
 subst e;cases r3;refine wpAny_truthy_bool ?_
 cases k with
 | false=>exact ite_ff ⟨.bl false,H3,I3,rfl,q3⟩
 | true=>exact ite_tt (chain_last (thn (hc pins s3 σ H3 _ I3 q3) λw' s4 F=>by obtain⟨z',H4,Y,r4,q4⟩:=F;exact(B pins s4 σ H4 y z' u w' Q Y r2 r4 q4)))
theorem zG {op:CmpOp} {r r':R2} (Z:OpR X (compareOp op) r) (F:OpR X (compareOp op') r') (ha:PE X a ta) (hb:PE X b tb) (hc:PE X c tc)
  (U:lastMarks [op,op'] [b,c]=false:=by with_unfolding_all rfl):PT X (.Compare a [op,op'] [b,c] pos) (qA (rn r r' ta tb tc)):=by
 intro pins s σ H Q I h;refine isTrue_chain (thn (ha pins s σ H _ I h) λv s1 ⟨x,H1,I1,r1,q1⟩=>test_link (thn (hb pins s1 σ H1 _ I1 q1) λu s2 ⟨y,H2,I2,r2,q2⟩ =>
  thn (Z pins s2 σ H2 x y v u _ I2 r1 r2 q2) λd s3 ⟨z,H3,I3,r3,k,e,q3⟩=>?_)) U
 subst e;cases r3;refine wpAny_truthy_bool ?_
 cases k with
 | false =>
  obtain⟨k',e',Y⟩:=q3;cases e';exact ite_ff ⟨H3,I3,Y⟩
 | true =>
  refine ite_tt (test_last (thn (hc pins s3 σ H3 _ I3 q3) λw' s4 ⟨z',H4,I4,r4,q4⟩=>thn (F pins s4 σ H4 y z' u w' _ I4 r2 r4 q4) λd' s5 B=>?_))
  obtain⟨z2,H5,I5,r5,k2,e2,q5⟩:=B;subst e2;cases r5;exact wpAny_truthy_bool ⟨H5,I5,q5⟩
theorem jv:(sizeLine:Nat) < 2 ^ 63:=by rw[sizeLine_eq];decide
theorem ve:OpR X (binaryOp .Add) (λx y H Q=>∃i j,x = .str i/\y = .str j/\i.length+j.length<=sizeLine/\Q (.str (i++j)) H):=by
 intro pins s σ H x y v u Q I z B h;obtain⟨i,j,rfl,rfl,F,q⟩:=h;obtain⟨t,rfl⟩:=z;obtain⟨t',rfl⟩:=B;exact add_str (λt' tk=>⟨.str (i++j),H,I.tok _,⟨_,rfl⟩,q⟩) F
theorem cI {x:V} (r:aR [x] us) : ∃u,us=[u]/\aY x u:=by
 cases r with
 | cons B z=>cases z;exact⟨_,rfl,B⟩
theorem tF {x y:V} (r:aR [x,y] us) : ∃u z,us=[u,z]/\aY x u/\aY y z:=by
 cases r with
 | cons F B =>
  cases B with
  | cons U Y=>cases Y;exact⟨_,_,rfl,F,U⟩
theorem xZ (B:X.calm=true):bE X (.builtin "max") (λxs H Q=>∃i j,xs=[.int i,.int j]/\Q (.int (if j > i then j else i)) H):=by
 intro pins s σ H xs us Q I r h;obtain⟨i,j,rfl,q⟩:=h;obtain⟨u,F,rfl,⟨t,rfl⟩,⟨t',rfl⟩⟩:=tF r;refine max_two_ints (I.ok.hd B) λh' tk k=>⟨_,H,I.kept k,?_,q⟩
 by_cases z:j > i
 .rw[if_pos z,if_pos z];exact⟨_,rfl⟩
 .rw[if_neg z,if_neg z];exact⟨_,rfl⟩
theorem yt (B:X.calm=true):bE X (.builtin "min") (λxs H Q=>∃i j,xs=[.int i,.int j]/\Q (.int (if j < i then j else i)) H):=by
 intro pins s σ H xs us Q I r h;obtain⟨i,j,rfl,q⟩:=h;obtain⟨u,F,rfl,⟨t,rfl⟩,⟨t',rfl⟩⟩:=tF r;refine min_two_ints (I.ok.hd B) λh' tk k=>⟨_,H,I.kept k,?_,q⟩
 by_cases z:j < i
 .rw[if_pos z,if_pos z];exact⟨_,rfl⟩
 .rw[if_neg z,if_neg z];exact⟨_,rfl⟩
theorem xU:bE X (.type "int") (λxs H Q=>(∃i,xs=[.int i]/\Q (.int i) H)\/∃k,xs=[.bl k]/\Q (.int (if k then 1 else 0)) H):=by
 intro pins s σ H xs us Q I r h;rcases h with⟨i,rfl,q⟩ | ⟨k,rfl,q⟩
 .obtain⟨u,rfl,t,rfl⟩:=cI r
  exact call_int_int ⟨.int i,H,I,⟨_,rfl⟩,q⟩
 .obtain⟨u,rfl,r1⟩:=cI r
  cases r1;exact call_int_bool ⟨.int (if k then 1 else 0),H,I.tok _,⟨_,rfl⟩,q⟩
end
structure DS (h:Heap) (x dx C:Addr) (mA:Str->Option Value):Prop where
 obj:h.get? x=some (instObj C dx)
 ns:h.Ns1 dx mA
 ne:dx≠x
theorem yq (n:h.Ns1 dx mA) : ∃od,h.get? dx=some od/\∀name,lookIn name od=some (mA name):=by
 obtain⟨o,es,ep,Y,Z,F,_,U⟩:=n;refine⟨o,Y,λname=>?_⟩
 have e:=U name;unfold nsFind findBy at e;rw[<- Array.find?_toList] at e;unfold lookIn;rw[Z];dsimp only
 split
 .rename_i y q
  rw[q] at e;exact congrArg some e
 .rename_i q
  rw[q] at e;have a:es.toList.any (·.refKey)=false:=by
   rw[List.any_eq_false];intro y hy;obtain⟨z,t,B⟩:=F y (Array.mem_toList_iff.mp hy);simp[DictEntry.refKey,B]
  have a' : ¬ es.toList.any (·.refKey)=true:=by rw[a];exact Bool.false_ne_true
  rw[if_neg a'];exact congrArg some e
theorem DS.look {x C:Addr} (I:DS h x dx C mA) : ∃od,PySem.W.InstAt h x (instObj C dx) C (some od)/\∀name,lookIn name od=some (mA name) :=
 let ⟨od,ho,hl⟩:=yq I.ns
 ⟨od,⟨I.obj,rfl,rfl,ho⟩,hl⟩
theorem iN.some_of {v:V} {o:Option Value} (r:iN (some v) o) : ∃u,o=some u/\aY v u:=by
 cases o with
 | none=>exact(show False from r).elim
 | some u=>exact⟨u,rfl,r⟩
section
variable {H H':Hp} {C:Addr} {fs fs':List (Str × V)}
theorem BK (B:HOk P w H h) (e:H a=some (.ins C dx fs)) : ∃mA,DS h a dx C mA/\(∀f,iN (fs.lookup f) (mA f))/\PySem.Within mA (fs.map (·.1))/\fs.length<=1000/\H dx=some (.own a):=by
 obtain⟨d,z,ne,ob,mA,n,r,q⟩:=(show be P w H h a (.ins C dx fs) from B a _ e)
 exact⟨mA,⟨ob,n,ne⟩,r,q,z,d⟩
end
structure Cls (K:PySem.W.Frag) (C:Addr):Prop where
 pg:plainGet K C Str.empty=true
 hd:PySem.W.hasDictIn K C=true
 po:PySem.W.plainOver K C=true
 sa:findIn K (.ref C) "__setattr__" = some (some (.builtin "object.__setattr__"))
theorem Cls.get {C:Addr} (c:Cls K C) (f:Str):plainGet K C f=true:=c.pg
section
variable {X:Cx} {σ:St} {H:Hp} {c:Value} {b:Bool}
inductive kO (K:PySem.W.Frag) (H:Hp):V->Value->Prop where
 | non:kO K H .non (.type "NoneType")
 | bl (x:Bool):kO K H (.bl x) (.type "bool")
 | int (i:Int):kO K H (.int i) (.type "int")
 | str (x:Str):kO K H (.str x) (.type "str")
 | flt (x:UInt64):kO K H (.flt x) (.type "float")
 | lst {a:Addr} {xs:List V} (e:H a=some (.lst xs)):kO K H (.ref a) (.type "list")
 | frz {a:Addr} {o:Obj} {xs:List V} (e:H a=some (.frz o (.lst xs))):kO K H (.ref a) (.type "list")
 | tup {a:Addr} {xs:List V} (e:H a=some (.tup xs)):kO K H (.ref a) (.type "tuple")
 | dK {a:Addr} {kvs:List (Key × V)} (e:H a=some (.dK kvs)):kO K H (.ref a) (.type "dict")
 | dT {a:Addr} {kvs:List (List Key × V)} (e:H a=some (.dT kvs)):kO K H (.ref a) (.type "dict")
 | ins {a C dx:Addr} {fs:List (Str × V)} (e:H a=some (.ins C dx fs)) (cl:Cls K C) (ha:findIn K (.ref C) "__class__" = some (some (.builtin "object.__class__")))
   (hn:PySem.W.specialIn K (.builtin "object.__class__") "__get__" = some (some (.builtin "getset_descriptor.__get__"))) (htk:PySem.W.takesIn K (.builtin "object.__class__")=some true)
   (hm:PySem.W.mroIn K C (.type "object")=some true):kO K H (.ref a) (.ref C)
theorem yA {x:V} {t:Value} (I:Inv X pins σ H s) (B:aY x u) (ty:kO X.K H x t) (e:kitOne X.K t c=some b) (h : ∀tk,Q (.bool b) { s with toks:=tk }) :
  wpAny (model X.prog X.w) A (call (.builtin "isinstance") [u,c]) Q E s:=by
 cases ty with
 | non=>cases (show u=Value.none from B);exact kia_one PySem.W.kitx_none I.kIn True.intro e (λz=>nomatch z) h
 | bl y=>cases (show u=Value.bool y from B);exact kia_one PySem.W.kitx_bool I.kIn True.intro e (λz=>nomatch z) h
 | int i=>obtain⟨t,q⟩:=(show ∃t,u=Value.int i t from B);cases q;exact kia_one PySem.W.kitx_int I.kIn True.intro e (λz=>nomatch z) h
 | str y=>obtain⟨t,q⟩:=(show ∃t,u=Value.str y t from B);cases q;exact kia_one PySem.W.kitx_str I.kIn True.intro e (λz=>nomatch z) h
 | flt y=>obtain⟨t,q⟩:=(show ∃t,u=Value.float y t from B);cases q;exact kia_one PySem.W.kitx_float I.kIn True.intro e (λz=>nomatch z) h
 | @lst a xs ea =>
  cases (show u=Value.ref a from B)
  obtain⟨_,_,n,_,h1⟩:=(show be X.prog X.w H s.heap a (.lst xs) from I.hok a _ ea)
  exact kia_one kitx_list I.kIn ⟨_,h1,rfl⟩ e (λz=>nomatch z) h
 | @frz a ob xs ea =>
  cases (show u=Value.ref a from B)
  obtain⟨_,_,_,n,_,h1⟩:=(show be X.prog X.w H s.heap a (.frz ob (.lst xs)) from I.hok a _ ea)
  exact kia_one kitx_list I.kIn ⟨_,h1,rfl⟩ e (λz=>nomatch z) h
 | @tup a xs ea =>
  cases (show u=Value.ref a from B)
  obtain⟨_,_,_,p⟩:=(show be X.prog X.w H s.heap a (.tup xs) from I.hok a _ ea)
  obtain⟨o,h1,h2,_⟩:=p;exact kia_one PySem.W.kitx_tuple I.kIn ⟨o,h1,h2⟩ e (λz=>nomatch z) h
 | @dK a kvs ea =>
  cases (show u=Value.ref a from B)
  obtain⟨_,_,vs,_,p⟩:=(show be X.prog X.w H s.heap a (.dK kvs) from I.hok a _ ea)
  obtain⟨o,es,ep,h1,h2,_⟩:=p;exact kia_one kitx_dict I.kIn ⟨o,h1,h2.1⟩ e (λz=>nomatch z) h
 | @dT a kvs ea =>
  cases (show u=Value.ref a from B)
  obtain⟨_,_,xs,_,o,es,ep,h1,h2,_⟩:=(show be X.prog X.w H s.heap a (.dT kvs) from I.hok a _ ea)
  exact kia_one kitx_dict I.kIn ⟨o,h1,h2.1⟩ e (λz=>nomatch z) h
 | @ins a C dx fs ea cl ha hn htk hm =>
  cases (show u=Value.ref a from B)
  obtain⟨mA,O,_⟩:=BK I.hok ea;obtain⟨od,J,_⟩:=O.look;exact kia_one (PySem.W.kitx_own (cl.get _) cl.hd ha hn htk hm) I.kIn J e (λz=>nomatch z) h
end
structure ci (k:Nat) (A:Around):Prop where
 hd:A.handled=none
 dp:A.depth+3 * k+5 < recursionLimit
 un:A.units+16 * k+200 < cLine
theorem ci.mono (r:ci k A) (h:j<=k):ci j A:=⟨r.hd,by have:=r.dp;omega,by have:=r.un;omega⟩
theorem ci.deeper {k:Nat} {A:Around} (r:ci (k+1) A) (env:Env):ci k (A.deeper env) :=
 ⟨r.hd,by have:=r.dp;show A.depth+1+3 * k+5 < _;omega,by have:=r.un;show A.units+3+16 * k+200 < _;omega⟩
theorem ci.depth {k:Nat} {A:Around} (r:ci k A):A.depth < recursionLimit:=by have:=r.dp;omega
theorem ci.units {k:Nat} {A:Around} (r:ci k A):A.units+64 < cLine:=by have:=r.un;omega
def uI:TA:=λ_ H Q=>Q [] H
def iQ (ta:TE) (z:TA):TA:=λσ H Q=>ta σ H λx H1=>z σ H1 λxs H2=>Q (x :: xs) H2
section
variable {X:Cx} {te:TE} {t:TA}
theorem ac:PA X [] uI:=λ_ _ _ _ H Q I h=>Calls.spliced_nil ⟨[],H,I,.nil,h⟩
theorem aa (U:PE X e te) (hr:PA X es t) (Y:starEach (e :: es) X.env=(false,eval e X.env) :: starEach es X.env:=by rfl):PA X (e :: es) (iQ te t):=by
 intro pos pins s σ H Q I h;rw[Y]
 show wpAny _ _ (spliced ((false,eval e X.env) :: backTo pos (starEach es X.env))) _ _ s
 refine Calls.spliced_cons (thn (U pins s σ H _ I h) λu s1 z=>?_)
 obtain⟨x,H1,Z,r1,q1⟩:=z;exact thn (hr pos pins s1 σ H1 _ Z q1) λus s2 B=>by obtain⟨xs,H2,I2,r2,F⟩:=B;exact(⟨x :: xs,H2,I2,.cons r1 r2,F⟩)
def BX (t:TA):TE:=λσ H Q=>t σ H λxs H1=>xs.length<=sizeLine/\∀p,H1 p=none->Q (.ref p) (upd H1 p (.tup xs))
def CC (t:TA):TE:=λσ H Q=>t σ H λxs H1=>xs.length<=sizeLine/\∀p,H1 p=none->Q (.ref p) (upd H1 p (.lst xs))
theorem aI {x1} (h:PA X es t):PE X (.Tuple es x1 pos) (BX t):=by
 intro pins s σ H Q I F;refine wpAny_Tuple_spliced (thn (h pos pins s σ H _ I F) λus B ⟨xs,H1,I1,r,z,q⟩=>⟨by rw[<- r.length];exact z,?_⟩)
 have U:H1 B.heap.objs.size=none:=I1.hok.fresh (le_refl _)
 refine⟨.ref B.heap.objs.size,upd H1 B.heap.objs.size (.tup xs),I1.laid (t':=B.toks) (λb u e=>Heap.get?_push_of_some _ e) (le_refl _) ?_,rfl,q _ U⟩
 exact⟨z,us,r,⟨_,Heap.get?_push_size _ rfl,rfl,_,rfl⟩⟩
theorem bx (h:PA X es t):PE X (.List es pos) (CC t):=by
 intro pins s σ H Q I F;refine wpAny_List_spliced (thn (h pos pins s σ H _ I F) λus B ⟨xs,H1,I1,r,z,q⟩=>⟨by rw[<- r.length];exact z,?_⟩)
 have U:H1 B.heap.objs.size=none:=I1.hok.fresh (le_refl _)
 refine⟨.ref B.heap.objs.size,upd H1 B.heap.objs.size (.lst xs),I1.laid (t':=B.toks) (λb u e=>Heap.get?_push_of_some _ e) (le_refl _) ?_,rfl,q _ U⟩
 exact⟨z,us,0,r,Heap.get?_push_size _ rfl⟩
end
abbrev Sp:=List V->Hp->VK->XK->Prop
abbrev CXT:=List Env->Hp->Shared->XK->Value->Shared->Prop
structure Bk (P:Program) (w:World) (K:PySem.W.Frag) (mg:Str->Option Value) (base:Heap) (A:Around) (outer:List Env) (s:Shared) (H:Hp):Prop where
 frames:A.frames=some outer
 mod:Mod K mg base
 bs : ∀b o,base.get? b=some o->s.heap.get? b=some o/\H b=none
 bsz:base.objs.size<=s.heap.objs.size
 funs:s.heap.FunFrames base outer
 frf : ∀b∈frs outer,H b=none
 hok:HOk P w H s.heap
 bare:AllBare s.gens
def CE (outer:List Env) (P:Program) (w:World) (H:Hp) (s:Shared) (Q:VK) (u:Value) (s':Shared):Prop :=
 ∃v H',s'.os=s.os/\AllBare s'.gens/\Un (frs outer) [] H H' s.heap s'.heap/\HOk P w H' s'.heap/\aY v u/\Q v H'
def CR (CX:CXT) (outer:List Env) (P:Program) (w:World) (H:Hp) (s:Shared) (Q:VK) (E:XK) (r:Result) (s':Shared):Prop :=
 match r with
 | .ok (.ret u)=>CE outer P w H s Q u s'
 | .ok _=>False
 | .error e=>CX outer H s E e s'
structure ig (P:Program) (w:World) (K:PySem.W.Frag) (mg:Str->Option Value) (base:Heap) (CX:CXT) (k:Nat) (f:Addr) (fd:FuncData) (ps:List Str) (sp:Sp):Prop where
 len : ∀vs H Q E,sp vs H Q E->vs.length=ps.length
 run : ∀(A:Around) (outer:List Env) (s:Shared) (H:Hp) (args:Args) (us:List Value) (vs:List V) (Q:VK) (E:XK),ci k A->Bk P w K mg base A outer s H->BindsTo s fd args (ps.zip us)->aR vs us->sp vs H Q E ->
  codeAny (model P w) A (.call (.ref f) args) (CR CX outer P w H s Q E) s
theorem ig.mono {P:Program} {w:World} {K:PySem.W.Frag} {mg:Str->Option Value} {base:Heap} {CX:CXT} {j k:Nat} {f:Addr} {fd:FuncData} {ps:List Str} {sp:Sp} (F:ig P w K mg base CX j f fd ps sp) (h:j<=k) :
  ig P w K mg base CX k f fd ps sp:=⟨F.len,λA outer s H args us vs Q E z=>F.run A outer s H args us vs Q E (z.mono h)⟩
theorem ig.imp {CX:CXT} {sp sp':Sp} (F:ig P w K mg base CX k f fd ps sp)
  (h : ∀vs H Q E,sp' vs H Q E->sp vs H Q E):ig P w K mg base CX k f fd ps sp' :=
 ⟨λvs H Q E q=>F.len vs H Q E (h _ _ _ _ q),λA outer s H args us vs Q E Z U Y z B=>F.run A outer s H args us vs Q E Z U Y z (h _ _ _ _ B)⟩
section
variable {X:Cx} {σ:St} {H:Hp}
theorem Inv.env0 (I:Inv X pins σ H s):Bk X.prog X.w X.K X.mg X.base X.A X.stack s H :=
 ⟨I.ok.frames,I.ok.mod,I.bs,le_trans I.ok.bsz I.sz,I.stack,I.stkFree,I.hok,I.bare⟩
theorem Inv.after {Q:VK} (I:Inv X pins σ H s) (h:CE X.stack X.prog X.w H s Q u s'):EP X pins σ Q u s':=by
 obtain⟨v,H',os,B,un,U,r,q⟩:=h;obtain⟨Y,g,d,t,F⟩:=s';obtain rfl:F=s.os:=os
 exact⟨v,H',I.call (h':=Y) (g':=g) (d':=d) (t':=t) (ch:=[]) un U B (λb z=>absurd z (by simp)),r,q⟩
end
def sW (sp:Sp) (dvs:List V) (E:XK) (t:TA):TE:=λσ H Q=>t σ H λvs H1=>sp (vs++dvs) H1 Q E
def jB (K:PySem.W.Frag) (fd:FuncData) (ps:List Str) (ds:List Value):Prop :=
 ∀(s:Shared) (us:List Value),K.In s.heap->(us++ds).length=ps.length->BindsTo s fd ⟨us,[]⟩ (ps.zip (us++ds))
theorem jB.all (h : ∀us:List Value,us.length=ps.length->bindArgs fd ⟨us,[]⟩=pure (ps.zip us)):jB K fd ps []:=λs us _ hl=>by
 rw[append_nil] at hl ⊢;exact .of_eq (h us hl)
def wf (CX:CXT) (X:Cx) (E:XK):Prop:=∀(pins:List (Addr × Obj)) (σ:St) (H:Hp) (s:Shared) (e:Value) (s':Shared),Inv X pins σ H s->CX X.stack H s E e s'->X.xe e s'
section
variable {X:Cx} {CX:CXT} {C:Addr} {sp:Sp} {dvs:List V} {ds:List Value} {E:XK} {m:Str} {p:Pos} {o:Expr} {ta:TE} {t:TA}
theorem kG {σ:St} {H:Hp} {Q:VK} {vs:List V} (F:ig X.prog X.w X.K X.mg X.base CX k f fd ps sp) (hr:ci k X.A) (hb:jB X.K fd ps ds) (Z:aR dvs ds) (U:wf CX X E)
  (I:Inv X pins σ H s) (r:aR vs us) (h:sp (vs++dvs) H Q E):wpAny (model X.prog X.w) X.A (call (.ref f) us) (EP X pins σ Q) X.xe s:=by
 have B:aR (vs++dvs) (us++ds):=r.append Z
 have hl:(us++ds).length=ps.length:=by rw[<- B.length];exact F.len _ _ _ _ h
 refine wpAny_call (codeAny_mono (F.run X.A X.stack s H ⟨us,[]⟩ (us++ds) (vs++dvs) Q E hr I.env0 (hb s us I.kIn hl) B h) λr s' z=>?_)
 cases r with
 | error e=>exact U pins σ H s e s' I z
 | ok Y =>
  cases Y with
  | ret u=>exact I.after z
  | next=>exact False.elim z
  | brk=>exact False.elim z
  | cont=>exact False.elim z
theorem Cw (F:ig X.prog X.w X.K X.mg X.base CX k f fd ps sp) (hr:ci k X.A) (hg:Gl X x) (Y:X.mg x=some (.ref f)) (U:keepIn X.K (.ref f)=true) (hb:jB X.K fd ps ds) (hd:aR dvs ds) (hx:wf CX X E)
  (Z:PA X (e :: es) t) (z:(x ==("__debug__" : Str))=false:=by decide) (he:starEach (e :: es) X.env=(false,eval e X.env) :: starEach es X.env:=by rfl) (B:(backTo pos (starEach es X.env)).any (·.1)=false:=by rfl) :
  PE X (.Call (.Name x p) (e :: es) [] pos) (sW sp dvs E t):=by
 intro pins s σ H Q I h;refine wpAny_Call_Name_kw (md I hg Y ?_ z)
 refine callWith_K (h₀:=X.base) I.ok.mod.kin U (thn (Z pos pins s σ H _ I h) λus s1 ⟨vs,H1,I1,r,q⟩=>⟨I1.kIn,?_⟩) he B
 exact kG F hr hb hd hx I1 r q
end
structure aG (N P:List Str) (sc:Scope):Prop where
 kind:sc.kind = .function
 co:sc.isCoroutine=false
 gen:sc.isGenerator=false
 nd:N.Nodup
 pre:N.take P.length=P
 par : ∀x∈P,sc.names.lookup x=some .local\/sc.names.lookup x=some .cell
 nofree : ∀y∈sc.names,y.2≠.free
theorem qu {z:Str->Option NameKind} {x:Str} : ∀{binds:List (Str × Value)} {m:Str->Option Value},(∀v,(x,v)∉binds)->bindL z binds m x=m x
 | [],_,_=>rfl
 | (n,v) :: r,m,h=>by
  unfold bindL;rw[qu λw hw=>h w (mem_cons_of_mem _ hw)]
  split
  .have:x≠n:=by rintro rfl;exact h v mem_cons_self
   simp[this]
  .rfl
theorem pZ {z:Str->Option NameKind} {x:Str} : ∀{binds:List (Str × Value)} {m:Str->Option Value},(∀v,(x,v)∉binds)->bindC z binds m x=m x
 | [],_,_=>rfl
 | (n,v) :: r,m,h=>by
  unfold bindC;rw[pZ λw hw=>h w (mem_cons_of_mem _ hw)]
  split
  .rfl
  .have:x≠n:=by rintro rfl;exact h v mem_cons_self
   simp[this]
theorem qm {z:Str->Option NameKind} {x:Str} {v:Value} : ∀{P:List Str} {vs:List Value} {i:Nat} {m:Str->Option Value},P.Nodup->P[i]? = some x->vs[i]? = some v->z x=some .local ->
  bindL z (P.zip vs) m x=some v
 | [],_,_,_,_,h,_,_=>by simp at h
 | _ :: _,[],_,_,_,_,h,_=>by simp at h
 | p :: P,w :: vs,0,m,nd,h1,h2,hk=>by
  simp at h1 h2;subst h1;subst h2
  show bindL z ((p,w) :: P.zip vs) m p=_
  unfold bindL;rw[qu λv B=>(nodup_cons.mp nd).1 (of_mem_zip B).1,if_pos hk]
  simp
 | p :: P,w :: vs,i+1,m,nd,h1,h2,hk=>by
  show bindL z ((p,w) :: P.zip vs) m x=_
  unfold bindL;exact qm (i:=i) (nodup_cons.mp nd).2 (by simpa using h1) (by simpa using h2) hk
theorem qq {z:Str->Option NameKind} {x:Str} {v:Value} : ∀{P:List Str} {vs:List Value} {i:Nat} {m:Str->Option Value},P.Nodup->P[i]? = some x->vs[i]? = some v->z x≠some .local ->
  bindC z (P.zip vs) m x=some v
 | [],_,_,_,_,h,_,_=>by simp at h
 | _ :: _,[],_,_,_,_,h,_=>by simp at h
 | p :: P,w :: vs,0,m,nd,h1,h2,hk=>by
  simp at h1 h2;subst h1;subst h2
  show bindC z ((p,w) :: P.zip vs) m p=_
  unfold bindC;rw[pZ λv B=>(nodup_cons.mp nd).1 (of_mem_zip B).1,if_neg hk]
  simp
 | p :: P,w :: vs,i+1,m,nd,h1,h2,hk=>by
  show bindC z ((p,w) :: P.zip vs) m x=_
  unfold bindC;exact qq (i:=i) (nodup_cons.mp nd).2 (by simpa using h1) (by simpa using h2) hk
def gh (N:List Str) (vs:List V):St:=vs.map some++replicate (N.length - vs.length) none
def sB (CX:CXT) (P:Program) (w:World) (K:PySem.W.Frag) (mg:Str->Option Value) (base:Heap) (N:List Str) (qual:Str) (scope:Scope) (f:Addr) (cd:Value) (A:Around) (outer:List Env) (s:Shared) (H:Hp) (E:XK):Cx where
 prog:=P
 w:=w
 K:=K
 mg:=mg
 base:=base
 A:=A.deeper (envOfC qual scope s.heap.objs.size f cd)
 N:=N
 s₀:=s
 H₀:=H
 env:=envOfC qual scope s.heap.objs.size f cd
 outer:=outer
 stack:=envOfC qual scope s.heap.objs.size f cd :: outer
 ex:=[]
 calm:=true
 fn:=λ_=>true
 pn:=[]
 xe:=λe s'=>wpAny (model P w) (A.deeper (envOfC qual scope s.heap.objs.size f cd)) (leaving (envOfC qual scope s.heap.objs.size f cd) e) (λ_ z=>CX outer H s E e z) (λB z=>CX outer H s E B z) s'
theorem sX (h:sc.names.lookup x=some .cell) : ∃c,(cellsFrom n sc.names []).lookup x=some c:=by
 have q:=PySem.W.cellsFrom_some sc.names n [] (.inl h);exact isSome_iff_exists.mp q
theorem yi {CX:CXT} {s1:Shared} {H:Hp} {E:XK} {vs:List V}
  (S:aG N ps scope) (hd:A.handled=none) (B:Bk P w K mg base A outer s H) (hl:vs.length=ps.length) (r:aR vs us)
  (x:InCallC s s.heap.objs.size (bindL (envOfC qual scope s.heap.objs.size f cd).kindOf (ps.zip us) λ_=>none) (cellsFrom (s.heap.objs.size+1) scope.names []) (bindC (envOfC qual scope s.heap.objs.size f cd).kindOf (ps.zip us) λ_=>none) s1) :
  Inv (sB CX P w K mg base N qual scope f cd A outer s H E) [] (gh N vs) H s1:=by
 have aa:ps.length<=N.length:=by have:=congrArg List.length S.pre;rw[length_take] at this;omega
 obtain⟨h1,tk,rfl,hk⟩:=x.done;have F : ∀b:Addr,b∉(sB CX P w K mg base N qual scope f cd A outer s H E).ex:=λb z=>absurd (show b∈([]:List Addr) from z) (by simp)
 refine⟨⟨B.mod,S.kind,rfl,rfl,le_refl _,λy z c h1 h2=>?_,λy U=>?_,λy c _ h=>?_,λ_=>hd,Around.frames_deeper B.frames,.inr ⟨rfl,rfl⟩,λb z=>absurd z (F b),B.bs,B.bsz,λb _ _=>F b,λb z=>absurd z (F b),B.funs,B.frf⟩,
  rfl,B.bare,Un.kept hk,⟨_,x.toInCall.ns,λi y v h1 h2 h3=>?_⟩,λy c h=>⟨_,x.cell y c h⟩,B.hok.fresh (le_refl _),λy c h=>?_,λp Y=>absurd (show p∈([]:List (Addr × Obj)) from Y) (by simp),B.hok.kept hk,?_⟩
 .exact name_of_addr x.apart (PySem.mem_of_lookup h1) (PySem.mem_of_lookup h2)
 .have U:scope.names.lookup y=some .cell\/scope.names.lookup y=some .free:=U
  rcases U with U | U
  .exact sX U
  .exact absurd rfl (S.nofree _ (PySem.mem_of_lookup U))
 .exact le_of_lt (x.above y c (PySem.mem_of_lookup h))
 .have hi:i < vs.length:=by
   unfold gh at h2
   by_cases hi:i < vs.length
   .exact hi
   .rw[List.getElem?_append_right (by simpa using hi)] at h2
    rw[List.getElem?_replicate] at h2
    split at h2 <;> cases h2
  have ha:vs[i]? = some v:=by
   unfold gh at h2;rw[List.getElem?_append_left (by simpa using hi),List.getElem?_map] at h2
   cases e:vs[i]? with
   | none=>rw[e] at h2;cases h2
   | some a=>rw[e] at h2;cases h2;rfl
  obtain⟨u,hu,rv⟩:=r.get ha;have Y:ps[i]? = some y:=by
   rw[<- S.pre,List.getElem?_take_of_lt (by omega)];exact h1
  have Z:ps.Nodup:=by rw[<- S.pre];exact S.nd.sublist (take_sublist _ _)
  refine⟨u,rv,?_⟩
  rcases S.par y (mem_of_getElem? Y) with k | k
  .exact .inl ⟨k,qm Z Y hu k⟩
  .obtain⟨c,e⟩:=sX (n:=s.heap.objs.size+1) k
   refine .inr ⟨.inl k,c,e,?_⟩
   have q:=x.cell y c e;rw[qq Z Y hu (by show scope.names.lookup y≠_;rw[k];decide)] at q
   exact q
 .exact B.hok.fresh (le_of_lt (x.above y c (PySem.mem_of_lookup h)))
 .unfold gh
  show _=N.length
  rw[length_append,length_map,List.length_replicate];omega
theorem CU {CX:CXT} {dV kV:Value} {an:Option Addr}
   {sp:Sp} (lk:K.lookup f=some ⟨oc,od,.func (fnOf name qual params body scope dV kV doc pm an cdv ct),osl⟩) (ac:codeIn K cdv qual=true) (S:aG N ps scope)
  (len : ∀vs H Q E,sp vs H Q E->vs.length=ps.length)
  (z : ∀(A:Around) (outer:List Env) (s:Shared) (H:Hp) (vs:List V) (Q:VK) (E:XK),ci k (A.deeper (envOfC qual scope s.heap.objs.size f cdv))->sp vs H Q E ->
   ∃t,PSs (sB CX P w K mg base N qual scope f cdv A outer s H E) body t/\t { nx:=λ_ H'=>Q .non H',rt:=Q } (gh N vs) H) :
  ig P w K mg base CX (k+1) f (fnOf name qual params body scope dV kV doc pm an cdv ct) ps sp:=by
 refine⟨len,λA outer s H args us vs Q E hr Z hb r Y=>?_⟩
 have hl:=len _ _ _ _ Y;have KX:K.In s.heap:=Z.mod.kin.keeps λb o e=>(Z.bs b o e).1
 have aa:s.heap.NoLimit:=Z.mod.nolimit.keeps λb o e=>(Z.bs b o e).1
 have B : ∀y∈ps.zip us,scope.names.lookup y.1=some .local\/(scope.names.lookup y.1=some .cell/\((cellsFrom (s.heap.objs.size+1) scope.names []).lookup y.1).isSome=true):=λ⟨n,v⟩ hy=>by
  rcases S.par n (of_mem_zip hy).1 with q | q
  .exact .inl q
  .exact .inr ⟨q,PySem.W.cellsFrom_some _ _ _ (.inl q)⟩
 refine codeAny_call_function hr.depth (KX _ _ lk) rfl S.co S.gen rfl (PySem.W.codeRec_of KX ac) (hb _ _ _ _ ?_)
 refine wpAny_newFunctionEnv_cells S.kind B λenv he s1 x=>?_
 subst he;refine⟨aa.keeps x.toInCall.keep,codeAny_func ?_⟩
 obtain⟨t,ht,hq⟩:=z A outer s H vs Q E (hr.deeper _) Y;have I:Inv (sB CX P w K mg base N qual scope f cdv A outer s H E) [] (gh N vs) H s1:=yi S hr.hd Z hl r x
 refine wpAny_mono (ht [] s1 (gh N vs) H _ I hq) (λfl s' F=>?_) λe s' F=>F
 have U : ∀{σ':St} {H':Hp} {v:V} {u:Value},Inv (sB CX P w K mg base N qual scope f cdv A outer s H E) [] σ' H' s'->aY v u->Q v H'->CE outer P w H s Q u s' :=
  λ{σ' H' v u} J rv q=>⟨v,H',J.os,J.bare,J.base,J.hok,rv,q⟩
 cases fl with
 | ret u =>
  obtain⟨v,σ',H',J,rv,q⟩:=F;exact U J rv q
 | next =>
  obtain⟨σ',H',J,q⟩:=F;exact U (v:=V.non) (u:=Value.none) J rfl q
 | brk =>
  obtain⟨_,_,_,q⟩:=F;exact False.elim q
 | cont =>
  obtain⟨_,_,_,q⟩:=F;exact False.elim q
section
variable {X:Cx} {p:Pos} {t:TA} {id:String} {r:List V->Hp->VK->Prop}
def tCB (r:List V->Hp->VK->Prop) (t:TA):TE:=λσ H Q=>t σ H λvs H1=>r vs H1 Q
theorem aE (hc:bE X (.builtin id) r) (U:X.mg x=none) (Z:PA X (e :: es) t) (hg:Gl X x:=by exact rfl) (Y:bootBuiltins x=some (.builtin id):=by decide+kernel) (hn:x ≠ "__name__" := by decide) (z:(x ==("__debug__" : Str))=false:=by decide)
  (he:starEach (e :: es) X.env=(false,eval e X.env) :: starEach es X.env:=by rfl) (F:(backTo pos (starEach es X.env)).any (·.1)=false:=by rfl):PE X (.Call (.Name x p) (e :: es) [] pos) (tCB r t):=by
 intro pins s σ H Q I h;refine wpAny_Call_Name_kw (dU I hg U Y ?_ hn z)
 exact PyProof.Rows.callWith_builtin1 (thn (Z pos pins s σ H _ I h) λus s1 B=>by obtain⟨vs,H1,I1,r1,q1⟩:=B;exact(hc pins s1 σ H1 vs us Q I1 r1 q1)) he F
theorem aF (hc:bE X (.type T) r) (U:X.mg x=none) (Z:PA X (e :: es) t) (hg:Gl X x:=by exact rfl) (Y:bootBuiltins x=some (.type T):=by decide+kernel) (hn:x ≠ "__name__" := by decide) (B:(x ==("__debug__" : Str))=false:=by decide)
  (he:starEach (e :: es) X.env=(false,eval e X.env) :: starEach es X.env:=by rfl) (F:(backTo pos (starEach es X.env)).any (·.1)=false:=by rfl):PE X (.Call (.Name x p) (e :: es) [] pos) (tCB r t):=by
 intro pins s σ H Q I h;refine wpAny_Call_Name_kw (dU I hg U Y ?_ hn B)
 exact PyProof.Rows.callWith_type1 (thn (Z pos pins s σ H _ I h) λus s1 z=>by obtain⟨vs,H1,I1,r1,q1⟩:=z;exact(hc pins s1 σ H1 vs us Q I1 r1 q1)) he F
end
end L2
variable {C:L2.Hp->Prop} {CX:L2.CXT} {D:L2.lN} {H H' H1 H2:L2.Hp} {J:L2.It} {X:L2.Cx} {dvs vs xs:List L2.V} {fs l0:List L2.Key} {fs':List (PySem.Str × L2.V)} {kvs:List (L2.Key × L2.V)} {m:List (L2.Key × L2.Key)} {o o' u0:L2.HO} {r r':L2.V->Option Int->Option Int->L2.Hp->L2.VK->Prop} {rb:L2.Key->List Int} {sp sp':L2.Sp} {ta tb td te tl to tv ty:L2.TE} {tc:L2.TT} {trs:List (L2.TE × L2.TE)} {vb:List (L2.Key × PySem.Value)} {wi:L2.TI} {y:L2.V} {σ σ0:L2.St} {σ':List (Option L2.V)}
namespace HT
open PySem PyProof.Rows
theorem cat_tup {vs ws:List Value} (ht:IsTup s.heap t vs.toArray) (hb:IsTup s.heap b ws.toArray) (hv:vs≠[])
  (h1:ws=[]->Q (.ref t) s) (h2:ws≠[]->Q (.ref s.heap.objs.size) { s with heap:=s.heap.push { cls:=.type "tuple",data:=.seq (vs++ws).toArray } })
  (hsz:vs.length+ws.length<=sizeLine):wpAny (model prog w) A (binaryOp .Add (.ref t) (.ref b)) Q E s:=by
 obtain⟨⟨cls,dd,data,sl⟩,ho,hc,n,hd⟩:=id ht;obtain⟨⟨ac,Y,aa,B⟩,z,Z,n2,U⟩:=id hb;simp only at hc hd Z U;subst hc hd Z U;have e:vs.toArray++ws.toArray=(vs++ws).toArray:=by simp
 by_cases hw:ws=[]
 .exact concat_meets ⟨_,ho,rfl⟩ ⟨_,z,rfl⟩ noFill_tuple_add seq_tuple_add PySem.F.slot_tuple_add PySem.F.entry_tuple_add (PySem.F.args_tuple_add_2 _ _)
   (tuple_addW1 t b vs.toArray ws.toArray n n2 dd Y sl B (by simpa using hv) (by simp[hw])) ⟨ho,z,h1 hw⟩
 .refine concat_meets ⟨_,ho,rfl⟩ ⟨_,z,rfl⟩ noFill_tuple_add seq_tuple_add PySem.F.slot_tuple_add PySem.F.entry_tuple_add (PySem.F.args_tuple_add_2 _ _)
   (tuple_addW2 t b vs.toArray ws.toArray n n2 dd Y sl B (by simpa using hv) (by simpa using hw) (by rw[size_toArray,size_toArray];exact hsz)) ⟨ho,z,?_⟩
  rw[e];exact h2 hw
def sIx (n d:Nat):Option Int->Nat
 | none=>d
 | some v=>if v < 0 then(v+(n:Int)).toNat else min v.toNat n
theorem sIx_none (n d:Nat):sIx n d none=d:=rfl
theorem sIx_nat (n d k:Nat):sIx n d (some (k:Int))=min k n:=by
 show(if (k:Int) < 0 then((k:Int)+(n:Int)).toNat else min (k:Int).toNat n)=min k n
 rw[if_neg (by omega),Int.toNat_natCast]
theorem sIx_le (n d:Nat) (B:d<=n) (o:Option Int):sIx n d o<=n:=by
 cases o with
 | none=>exact B
 | some v =>
  show(if v < 0 then(v+(n:Int)).toNat else min v.toNat n)<=n
  by_cases z:v < 0
  .rw[if_pos z];omega
  .rw[if_neg z];exact Nat.min_le_right _ _
theorem xP (v:Int) (n d:Nat):(if v < 0 then max (v+(n:Int)) 0 else min v (n:Int))=((sIx n d (some v):Nat):Int):=by
 show(if v < 0 then max (v+(n:Int)) 0 else min v (n:Int))=(((if v < 0 then(v+(n:Int)).toNat else min v.toNat n):Nat):Int)
 by_cases z:v < 0
 .simp only[if_pos z];omega
 .simp only[if_neg z];omega
theorem wB (lo hi:Option Int) (n:Nat):Builtin.Slice.sliceAdjust lo hi 1 (n:Int)=(((sIx n 0 lo:Nat):Int),((sIx n n hi:Nat):Int)):=by
 have h1 : ¬ ((1:Int) < 0):=by omega
 unfold Builtin.Slice.sliceAdjust;simp only[h1,if_false];refine Prod.ext ?_ ?_
 .cases lo with
  | none=>rfl
  | some v=>exact xP v n 0
 .cases hi with
  | none=>rfl
  | some v=>exact xP v n n
theorem wu (i j:Nat):Builtin.Slice.slicePlaces (i:Int) (j:Int) 1=j - i:=by
 unfold Builtin.Slice.slicePlaces;have h1:(1:Int) > 0:=by omega
 simp only[h1,if_true,Int.ediv_one]
 split <;> omega
theorem nU {o:Option Int} {Q:Option Int->Shared->Prop} (p:IsPart v o) (h:Q o s):wpAny (model prog w) A (Builtin.Slice.slicePartIndex v) Q E s:=by
 cases p with
 | none=>exact slicePart_none h
 | int i t=>exact slicePart_int h
theorem fO {sl:Addr} {Q:Int × Int × Nat->Shared->Prop} (U:s.heap.IsSliceOf sl vl vu .none) (pl:IsPart vl lo) (F:IsPart vu hi)
  (h:Q (((sIx n 0 lo:Nat):Int),1,sIx n n hi - sIx n 0 lo) s):wpAny (model prog w) A (Builtin.Slice.sliceApplied (.ref sl) (pure (n:Int))) Q E s:=by
 obtain⟨Z,z,Y,B⟩:=id U;unfold Builtin.Slice.sliceApplied Builtin.Slice.sliceFields;refine wpAny_bind (wpAny_bind (wpAny_field z B (x:=vl) rfl (wpAny_bind (wpAny_field z B (x:=vu) rfl (wpAny_bind (wpAny_field z B (x:=.none) rfl (wpAny_pure ?_)))))))
 refine wpAny_bind (slicePart_none ?_)
 show wpAny _ _ (if ((1:Int) == 0)=true then _ else _) _ _ s
 rw[if_neg (by decide)]
 refine wpAny_bind (nU pl (wpAny_bind (nU F (wpAny_bind (wpAny_pure ?_)))))
 show wpAny _ _ (match Builtin.Slice.sliceAdjust lo hi 1 (n:Int) with | (lo,hi)=>pure (lo,(1:Int),Builtin.Slice.slicePlaces lo hi 1)) _ _ s
 rw[wB lo hi n]
 show wpAny _ _ (pure (((sIx n 0 lo:Nat):Int),(1:Int),Builtin.Slice.slicePlaces ((sIx n 0 lo:Nat):Int) ((sIx n n hi:Nat):Int) 1)) _ _ s
 rw[wu];exact wpAny_pure h
theorem AB (xs:Array Value) (i k:Nat):((range k).filterMap λ(m:Nat)=>xs[((i:Int)+(m:Int) * 1).toNat]?).toArray=((xs.toList.drop i).take k).toArray:=by
 have e:(λ(m:Nat)=>xs[((i:Int)+(m:Int) * 1).toNat]?)=λm=>xs[i+m]? := by
  funext m
  have:((i:Int)+(m:Int) * 1).toNat=i+m:=by omega
  rw[this]
 rw[e];have:=pick_run xs i k
 rw[List.filterMap_map] at this;have e2:((λx=>xs[x]?) ∘ λx=>i+x)=λm=>xs[i+m]? := rfl
 rw[e2] at this;rw[this]
theorem getItem_tuple_cut {sl:Addr} (B:IsTup s.heap t items) (hs:s.heap.IsSliceOf sl vl vu .none) (pl:IsPart vl lo) (pu:IsPart vu hi)
  (hw : ¬ (sIx items.size 0 lo=0/\sIx items.size items.size hi=items.size))
  (h:Q (.ref s.heap.objs.size) { s with heap:=s.heap.push { cls:=.type "tuple",data:=.seq ((items.toList.drop (sIx items.size 0 lo)).take (sIx items.size items.size hi - sIx items.size 0 lo)).toArray } })
  (hsz:items.size<=sizeLine):wpAny (model prog w) A (getItem (.ref t) (.ref sl)) Q E s:=by
 have z:sizeOk (.seq ((items.toList.drop (sIx items.size 0 lo)).take (sIx items.size items.size hi - sIx items.size 0 lo)).toArray):=by
  show((items.toList.drop (sIx items.size 0 lo)).take (sIx items.size items.size hi - sIx items.size 0 lo)).toArray.size<=sizeLine
  rw[size_toArray,length_take,length_drop,length_toList];omega
 have hj:sIx items.size items.size hi<=items.size:=sIx_le _ _ (le_refl _) hi
 obtain⟨os,F,Y,aa⟩:=id hs;have Z:s.TypeIs (.ref sl) "slice" :=⟨os,F,Y⟩
 unfold getItem
 try with_reducible refine wpAny_holding ?_
 first | refine wpAny_bind (wpAny_pure ?_) | skip
 refine wpAny_bind (wpAny_sequenceKey B.typeIs (by decide) ?_)
 refine wpAny_bind (wpAny_callSpecial?_slot (name:=Str.ofString "__getitem__") B.typeIs PyProof.Rows.slot_tuple_getitem
  (wpAny_call_entry PyProof.Rows.slot_tuple_getitem B.typeIs entry_tuple_getitem ?_ (args_tuple_getitem _ _)))
 show wpAny _ _ (Builtin.Tuple.tupleItemsOf (.ref t) >>= _) _ _ s
 refine wpAny_bind (tupleItemsOf_ B ?_)
 refine wpAny_bind (wpAny_typeOf Z ?_)
 rw[if_pos (by decide)]
 refine wpAny_bind (fO hs pl pu ?_)
 have U : ¬ ((((sIx items.size 0 lo:Nat):Int) == 0 && (1:Int) == 1 && (sIx items.size items.size hi - sIx items.size 0 lo) == items.size)=true):=by
  intro q;rw[Bool.and_eq_true,Bool.and_eq_true] at q;have q1:((sIx items.size 0 lo:Nat):Int)=0:=eq_of_beq q.1.1
  have q2:sIx items.size items.size hi - sIx items.size 0 lo=items.size:=eq_of_beq q.2
  exact hw ⟨by omega,by omega⟩
 show wpAny _ _ (if (((sIx items.size 0 lo:Nat):Int) == 0 && (1:Int) == 1 && (sIx items.size items.size hi - sIx items.size 0 lo) == items.size)=true then _ else _) _ _ s
 rw[if_neg U,AB]
 first
  | exact wpAny_bind (m:=Builtin.Tuple.tupleExact _) (wpAny_newObj_type (wpAny_pure ⟨_,rfl,wpAny_pure h⟩) z)
  | exact wpAny_bind (m:=Builtin.Tuple.tupleExact _) (wpAny_newObj_type (wpAny_bind (wpAny_pure (wpAny_pure ⟨_,rfl,wpAny_pure h⟩))) z)
  | exact wpAny_bind (wpAny_bind (m:=Builtin.Tuple.tupleExact _) (wpAny_newObj_type (wpAny_pure (wpAny_pure ⟨_,rfl,wpAny_pure h⟩)) z))
  | exact wpAny_bind (wpAny_bind (m:=Builtin.Tuple.tupleExact _) (wpAny_newObj_type (wpAny_pure ⟨_,rfl,wpAny_pure h⟩) z))
end HT
namespace L2
open PySem PySem.Spec PyProof.Rows
abbrev TO:=St->Hp->(Option Int->Hp->Prop)->Prop
def PO (X:Cx) (e:Option Expr) (t:TO):Prop :=
 ∀ (pins:List (Addr × Obj)) (s:Shared) (σ:St) (H:Hp) (Q:Option Int->Hp->Prop),Inv X pins σ H s->t σ H Q ->
  wpAny (model X.prog X.w) X.A (evalPart e X.env) (λu s'=>∃o H',Inv X pins σ H' s'/\IsPart u o/\Q o H') X.xe s
def me:TO:=λ_ H Q=>Q none H
def xc (t:TE):TO:=λσ H Q=>t σ H λx H1=>∃i,x = .int i/\Q (some i) H1
theorem cQ : ∀{us:List Value},aR (ns.map V.int) us->IntsAre us ns:=by
 induction ns with
 | nil=>intro us r;rw[map_nil] at r;cases r;exact .nil
 | cons n ns F =>
  intro us r;rw[map_cons] at r;cases r with
  | cons B z =>
   obtain⟨t,e⟩:=B;subst e;exact .cons n t (F z)
section
variable {lo hi:Option Expr} {tl th:TO}
theorem cB:PO X none me:=by
 intro pins s σ H Q I h;rw[evalPart_none];exact wpAny_pure ⟨none,H,I,.none,h⟩
theorem bN (h:PE X e te):PO X (some e) (xc te):=by
 intro pins s σ H Q I hw;rw[evalPart_some];refine thn (h pins s σ H _ I hw) λu Y z=>?_
 obtain⟨x,H1,B,U,F⟩:=z;obtain⟨i,rfl,q⟩:=F;obtain⟨t,rfl⟩:=U;exact⟨some i,H1,B,.int i t,q⟩
def SlR (X:Cx) (r:V->Option Int->Option Int->Hp->VK->Prop):Prop :=
 ∀ (pins:List (Addr × Obj)) (s:Shared) (σ:St) (H:Hp) (x:V) (v vl vu:Value) (lo hi:Option Int) (sl:Addr) (Q:VK),Inv X pins σ H s->aY x v->s.heap.IsSliceOf sl vl vu .none->IsPart vl lo->IsPart vu hi->r x lo hi H Q ->
  ∃T id,typeLookup (.type T) "__getitem__" = pure (some (.builtin id))/\s.TypeIs v T/\wpAny (model X.prog X.w) X.A (getItem v (.ref sl)) (EP X pins σ Q) X.xe s
def tSl (r:V->Option Int->Option Int->Hp->VK->Prop) (te:TE) (tl th:TO):TE:=λσ H Q=>te σ H λx H1=>tl σ H1 λl H2=>th σ H2 λu z=>r x l u z Q
theorem bG (hr:SlR X r) (he:PE X e te) (hl:PO X lo tl) (Z:PO X hi th):PE X (.Subscript e (.Slice lo hi none p2) pos) (tSl r te tl th):=by
 intro pins s σ H Q I h;refine Subscript_ (thn (he pins s σ H _ I h) λv s1 F=>?_)
 obtain⟨x,H1,I1,r1,q1⟩:=F;refine wpAny_Slice (thn (hl pins s1 σ H1 _ I1 q1) λvl s2 ⟨l,H2,I2,pl,q2⟩=>thn (Z pins s2 σ H2 _ I2 q2) λvu z B=>?_)
 obtain⟨u,U,I3,pu,q3⟩:=B;rw[evalPart_none];refine wpAny_pure ?_
 have Y:Inv X pins σ U { z with heap:=z.heap.push { cls:=.type "slice",data:=.fields #[vl,vu,.none] } }:=I3.kept (t':=z.toks) λb ob q=>Heap.get?_push_of_some _ q
 obtain⟨T,id,hT,ht,hg⟩:=hr pins { z with heap:=z.heap.push { cls:=.type "slice",data:=.fields #[vl,vu,.none] } } σ U x v vl vu l u z.heap.objs.size Q Y r1 (Heap.IsSliceOf.new ..) pl pu q3
 show wpAny (model X.prog X.w) X.A (subscriptTail e (.Slice lo hi none p2) v (.ref z.heap.objs.size)) (EP X pins σ Q) X.xe { z with heap:=z.heap.push { cls:=.type "slice",data:=.fields #[vl,vu,.none] } }
 exact tail_any (ops:=[.ref z.heap.objs.size,v]) ht hT hg (by with_unfolding_all rfl)
def dQ (xs:List V) (lo hi:Option Int):List V:=(xs.drop (HT.sIx xs.length 0 lo)).take (HT.sIx xs.length xs.length hi - HT.sIx xs.length 0 lo)
theorem kW (xs:List V) (lo hi:Option Int):(dQ xs lo hi).length<=xs.length:=by
 unfold dQ;rw[length_take,length_drop];omega
def Id (K:PySem.W.Frag):V->Option Int->Option Int->Hp->VK->Prop:=λx lo hi H Q=>∃a xs,x = .ref a/\SqT K H a xs /\
 ¬ (HT.sIx xs.length 0 lo=0/\HT.sIx xs.length xs.length hi=xs.length)/\∀p,H p=none->Q (.ref p) (upd H p (.tup (dQ xs lo hi)))
theorem EV:SlR X (Id X.K):=by
 intro pins s σ H x v vl vu lo hi sl Q I Y U pl pu h;obtain⟨a,xs,rfl,Z,hw,q⟩:=h;cases Y;obtain⟨its,r,B,F⟩:=I.tuple Z;have z:its.toArray.size=xs.length:=by rw[size_toArray];exact r.length.symm
 refine⟨"tuple",_,PyProof.Rows.slot_tuple_getitem.lookup,B.typeIs,?_⟩
 refine HT.getItem_tuple_cut B U pl pu (by rw[z];exact hw) ?_ (by rw[z];exact F)
 rw[z];refine⟨.ref s.heap.objs.size,_,I.laid (t':=s.toks) (o:=.tup (dQ xs lo hi)) (λb ob q=>Heap.get?_push_of_some _ q) (le_refl _) ?_,rfl,q _ (I.hok.fresh (le_refl _))⟩
 exact⟨le_trans (kW xs lo hi) F,_,(r.drop (HT.sIx xs.length 0 lo)).take (HT.sIx xs.length xs.length hi - HT.sIx xs.length 0 lo),IsTup.new _ _⟩
def Gb (K:PySem.W.Frag):R2:=λx y H Q=>∃a b xs ys,x = .ref a/\y = .ref b/\SqT K H a xs/\SqT K H b ys/\xs≠[]/\xs.length+ys.length<=sizeLine /\
 (ys=[]->Q (.ref a) H)/\(ys≠[]->∀p,H p=none->Q (.ref p) (upd H p (.tup (xs++ys))))
theorem aR.nil_iff (r:aR xs us):us=[]↔xs=[]:=by
 cases r with
 | nil=>simp
 | cons _ _=>simp
theorem BT:OpR X (binaryOp .Add) (Gb X.K):=by
 intro pins s σ H x y v u Q I rx ry h;obtain⟨a,b,xs,ys,rfl,rfl,ha,hb,hx,Y,q1,Z⟩:=h;cases rx;cases ry;obtain⟨its,F,p1,_⟩:=I.tuple ha;obtain⟨U,B,p2,_⟩:=I.tuple hb;refine HT.cat_tup p1 p2 (λz=>hx (F.nil_iff.mp z)) (λz=>⟨.ref a,H,I,rfl,q1 (B.nil_iff.mp z)⟩) (λz=>?_) (by rw[<- F.length,<- B.length];exact Y)
 refine⟨.ref s.heap.objs.size,_,I.laid (t':=s.toks) (o:=.tup (xs++ys)) (λb ob q=>Heap.get?_push_of_some _ q) (le_refl _) ?_,rfl,Z (λw=>z (B.nil_iff.mpr w)) _ (I.hok.fresh (le_refl _))⟩
 exact⟨by rw[length_append];exact Y,_,F.append B,IsTup.new _ _⟩
end
def ixN (n:Nat) (i:Int):Option Nat:=if 0<=i then(if i < n then some i.toNat else none) else if -(n:Int)<=i then some (i+n).toNat else none
def atI {α:Type} (xs:List α) (i:Int):Option α:=(ixN xs.length i).bind λj=>xs[j]?
theorem Bt (h:ixN n i=some j):seqIndex? i n=some j/\j < n/\-(n:Int)<=i/\i < n:=by
 unfold ixN at h
 by_cases z:0<=i
 .rw[if_pos z] at h
  by_cases h1:i < n
  .rw[if_pos h1] at h
   have e:i.toNat=j:=Option.some.inj h
   exact⟨by rw[seqIndex_of z h1,e],by omega,by omega,h1⟩
  .rw[if_neg h1] at h;cases h
 .rw[if_neg z] at h
  by_cases h1 : -(n:Int)<=i
  .rw[if_pos h1] at h
   have e:(i+n).toNat=j:=Option.some.inj h
   exact⟨by rw[seqIndex_neg (by omega) h1,e],by omega,h1,by omega⟩
  .rw[if_neg h1] at h;cases h
theorem lX {xs:List α} {v:α} (h:atI xs i=some v) : ∃j,seqIndex? i xs.length=some j/\xs[j]? = some v/\j < xs.length/\-(xs.length:Int)<=i/\i < xs.length:=by
 unfold atI at h;cases e:ixN xs.length i with
 | none=>rw[e] at h;cases h
 | some j =>
  rw[e] at h;obtain⟨h1,h2,z,B⟩:=Bt e;exact⟨j,h1,h,h2,z,B⟩
theorem aM {xs:List α} {v:α} (h:xs[j]? = some v):atI xs (j:Int)=some v:=by
 have z:j < xs.length:=(List.getElem?_eq_some_iff.mp h).1
 have e:ixN xs.length (j:Int)=some j:=by
  unfold ixN;rw[if_pos (by omega),if_pos (by omega)];simp
 unfold atI;rw[e];exact h
theorem mE (xs:List α) (v:α):atI (xs++[v]) (-1)=some v:=by
 have hl:(xs++[v]).length=xs.length+1:=by simp
 have e:ixN (xs++[v]).length (-1)=some xs.length:=by
  unfold ixN;rw[hl,if_neg (by decide),if_pos (by omega)]
  congr 1
  omega
 unfold atI;rw[e]
 show(xs++[v])[xs.length]? = some v
 simp
def lR (b:Expr):Prop:=∀o i,subscripted b false o i=operate [o,i] (getItem o i)
def IxR (X:Cx) (r:R2):Prop :=
 ∀ (value slice:Expr) (pins:List (Addr × Obj)) (s:Shared) (σ:St) (H:Hp) (x y:V) (v u:Value) (Q:VK),Inv X pins σ H s->aY x v->aY y u->r x y H Q ->
  subscripted slice false v u=operate [v,u] (getItem v u)->wpAny (model X.prog X.w) X.A (subscriptTail value slice v u) (EP X pins σ Q) X.xe s
def MtR (X:Cx) (id:String) (r:V->List V->Hp->VK->Prop):Prop :=
 ∀ (pins:List (Addr × Obj)) (s:Shared) (σ:St) (H:Hp) (x:V) (xs:List V) (v:Value) (us:List Value) (Q:VK),Inv X pins σ H s->aY x v->aR xs us->r x xs H Q ->
  wpAny (model X.prog X.w) X.A (call (.builtin id) (v :: us)) (EP X pins σ Q) X.xe s
section
variable {a b:Expr}
theorem ao {r:R2} (Z:IxR X r) (z:PE X a ta) (Y:PE X b tb) (B:lR b:=by exact λ_ _=>rfl):PE X (.Subscript a b pos) (tOp r ta tb):=by
 intro pins s σ H Q I h;exact Subscript_ (EY z Y I h λv u U x y H2 I2 F ry q=>Z a b pins U σ H2 x y v u Q I2 F ry q (B _ _))
def HD (K:PySem.W.Frag):R2:=λx y H Q=>∃p xs i v,x = .ref p/\y = .int i/\SqL K H p xs/\atI xs i=some v/\Q v H
def Ia (K:PySem.W.Frag):R2:=λx y H Q=>∃p xs i v,x = .ref p/\y = .int i/\SqT K H p xs/\atI xs i=some v/\Q v H
def HE:R2:=λx y H Q=>∃z i c,x = .str z/\y = .int i/\z.length<=sizeLine/\atI z.cps.toList i=some c/\Q (.str ⟨#[c]⟩) H
theorem BJ:IxR X (HD X.K):=by
 intro value slice pins s σ H x y v u Q I rx ry h Y;obtain⟨p,xs,i,z,rfl,rfl,hq,he,q⟩:=h;cases rx;obtain⟨t,rfl⟩:=ry;obtain⟨its,r,pl,hz⟩:=I.list hq;obtain⟨j,h1,h2,h3,h4,h5⟩:=lX he;obtain⟨w,Z,F⟩:=r.get h2;have hl:=r.length;have hn:=jv;have B:EP X pins σ Q w s:=⟨z,H,I,F,q⟩
 by_cases U:0<=i
 .have hj:i.toNat=j:=by
   rw[seqIndex_of U h5] at h1;exact Option.some.inj h1
  exact item_listR pl.isList U (by omega) (by rw[hj];simpa using Z) B Y
 .have hj:(i+(its.toArray.size:Int)).toNat=j:=by
   rw[seqIndex_neg (by omega) h4] at h1
   rw[size_toArray,<- hl];exact Option.some.inj h1
  exact subscriptTail_builtinR (x:=w) pl.isList.typeIs slot_list_getitem.lookup
   (wpAny_getItem_list_neg (Q:=λr s'=>r=w/\EP X pins σ Q r s') pl.isList (by omega) (by rw[size_toArray] <;> omega) (by omega) (by rw[hj];simpa using Z) ⟨rfl,B⟩) Y
theorem DJ:IxR X (Ia X.K):=by
 intro value slice pins s σ H x y v u Q I Y ry h U;obtain⟨p,xs,i,z,rfl,rfl,hq,Z,q⟩:=h;cases Y;obtain⟨t,rfl⟩:=ry;obtain⟨its,r,pl,hz⟩:=I.tuple hq;obtain⟨j,h1,h2,h3,h4,h5⟩:=lX Z;obtain⟨w,ew,F⟩:=r.get h2;have hl:=r.length;have hn:=jv;have B:EP X pins σ Q w s:=⟨z,H,I,F,q⟩
 exact subscriptTail_builtinR (x:=w) pl.typeIs slot_tuple_getitem.lookup
  (getItem_tuple (j:=j) (Q:=λr s'=>r=w/\EP X pins σ Q r s') pl (by omega) (by omega) (by rw[size_toArray,<- hl];exact h1) (by simpa using ew) ⟨rfl,B⟩) U
theorem DV:IxR X HE:=by
 intro value slice pins s σ H x y v u Q I F ry h B;obtain⟨z,i,c,rfl,rfl,hz,U,q⟩:=h;obtain⟨t,rfl⟩:=F;obtain⟨t',rfl⟩:=ry;obtain⟨j,h1,h2,h3,Y,Z⟩:=lX U;have hl:z.cps.toList.length=z.length:=by simp[Str.length]
 rw[hl] at h1 Y Z;have hn:=jv;exact tail_any (typeIs_str s z t) slot_str_getitem.lookup (getItem_str (c:=c) (by
  have e1:decide (i < -(2 ^ 63:Int))=false:=decide_eq_false (by omega)
  have e2:decide (i >= 2 ^ 63)=false:=decide_eq_false (by omega)
  rw[e1,e2,Bool.or_false]) (by rw[h1];simpa using h2) ⟨.str ⟨#[c]⟩,H,I.tok _,⟨_,rfl⟩,q⟩) B
theorem qE (lo hi:Option Int) (n:Nat):(sliceBounds lo hi none n).1=((HT.sIx n 0 lo:Nat):Int)/\(sliceBounds lo hi none n).2.1=((HT.sIx n n hi:Nat):Int)/\(sliceBounds lo hi none n).2.2=1:=by
 refine⟨?_,?_,rfl⟩
 .cases lo with
  | none=>simp[sliceBounds,HT.sIx]
  | some i =>
   simp only[sliceBounds,HT.sIx,getD_none,show(1:Int) > 0 by decide,if_true]
   by_cases h:i < 0
   .simp only[h,if_true] <;> omega
   .simp only[h,if_false] <;> omega
 .cases hi with
  | none=>simp[sliceBounds,HT.sIx]
  | some i =>
   simp only[sliceBounds,HT.sIx,getD_none,show(1:Int) > 0 by decide,if_true]
   by_cases h:i < 0
   .simp only[h,if_true] <;> omega
   .simp only[h,if_false] <;> omega
theorem px (its:List Value) (lo hi:Option Int):slicePick its.toArray lo hi none=((its.drop (HT.sIx its.length 0 lo)).take (HT.sIx its.length its.length hi - HT.sIx its.length 0 lo)).toArray:=by
 obtain⟨h1,h2,z⟩:=qE lo hi its.toArray.size;unfold slicePick;rw[h1,h2,z];simp only[sliceRange_one,pick_run,size_toArray] <;> rfl
def Iv (K:PySem.W.Frag):V->Option Int->Option Int->Hp->VK->Prop:=λx lo hi H Q=>∃a xs,x = .ref a/\SqL K H a xs/\∀p,H p=none->Q (.ref p) (upd H p (.lst (dQ xs lo hi)))
theorem wC:SlR X (Iv X.K):=by
 intro pins s σ H x v vl vu lo hi sl Q I U F pl Z h;obtain⟨a,xs,rfl,Y,q⟩:=h;cases U;obtain⟨its,r,B,hz⟩:=I.list Y;have z:=r.length;refine⟨"list",_,slot_list_getitem.lookup,B.isList.typeIs,?_⟩
 refine wpAny_getItem_list_slice B.isList F pl Z .none (by simp) ?_ (by rw[size_toArray] <;> omega)
 rw[px,<- z];refine⟨.ref s.heap.objs.size,_,I.laid (t':=s.toks) (o:=.lst (dQ xs lo hi)) (λb ob q=>Heap.get?_push_of_some _ q) (le_refl _) ?_,rfl,q _ (I.hok.fresh (le_refl _))⟩
 exact⟨le_trans (kW xs lo hi) hz,_,0,(r.drop (HT.sIx xs.length 0 lo)).take (HT.sIx xs.length xs.length hi - HT.sIx xs.length 0 lo),Heap.get?_push_size _ rfl⟩
def eN:V->Bool
 | .non=>true
 | .bl _=>true
 | .int _=>true
 | .str _=>true
 | _=>false
def eqV:V->V->Bool
 | .non,.non=>true
 | .bl a,.bl b=>a == b
 | .bl a,.int b=>(if a then 1 else 0) == b
 | .int a,.bl b=>a ==(if b then 1 else 0)
 | .int a,.int b=>a == b
 | .str a,.str b=>a == b
 | _,_=>false
theorem Dk {x:V} (F:aY y u) (z:aY x v) (U:eN y=true) (B:eN x=true):SeqAt.EqAt A s u v (eqV y x):=by
 cases y with
 | non =>
  cases F;cases x with
  | non=>cases z;exact SeqAt.EqAt.same _
  | bl b=>cases z;exact SeqAt.EqAt.none_bool b
  | int b=>obtain⟨t,rfl⟩:=z;exact SeqAt.EqAt.none_int b t
  | str b=>obtain⟨t,rfl⟩:=z;exact SeqAt.EqAt.none_str b t
  | _=>exact absurd (show false=true from B) Bool.false_ne_true
 | bl a =>
  cases F;cases x with
  | non=>cases z;exact SeqAt.EqAt.bool_none a
  | bl b=>cases z;exact SeqAt.EqAt.bool_bool a b
  | int b=>obtain⟨t,rfl⟩:=z;exact SeqAt.EqAt.bool_int a b t
  | str b=>obtain⟨t,rfl⟩:=z;exact SeqAt.EqAt.bool_str a b t
  | _=>exact absurd (show false=true from B) Bool.false_ne_true
 | int a =>
  obtain⟨t',rfl⟩:=F;cases x with
  | non=>cases z;exact SeqAt.EqAt.int_none a t'
  | bl b=>cases z;exact SeqAt.EqAt.int_bool a t' b
  | int b=>obtain⟨t,rfl⟩:=z;exact SeqAt.EqAt.int_int a t' b t
  | str b=>obtain⟨t,rfl⟩:=z;exact SeqAt.EqAt.int_str a t' b t
  | _=>exact absurd (show false=true from B) Bool.false_ne_true
 | str a =>
  obtain⟨t',rfl⟩:=F;cases x with
  | non=>cases z;exact SeqAt.EqAt.str_none a t'
  | bl b=>cases z;exact SeqAt.EqAt.str_bool a t' b
  | int b=>obtain⟨t,rfl⟩:=z;exact SeqAt.EqAt.str_int a t' b t
  | str b=>obtain⟨t,rfl⟩:=z;exact SeqAt.EqAt.str_str a t' b t
  | _=>exact absurd (show false=true from B) Bool.false_ne_true
 | _=>exact absurd (show false=true from U) Bool.false_ne_true
def eqU (x:V) (u:Value):Bool:=match u with
 | .none=>eqV .non x
 | .bool b=>eqV (.bl b) x
 | .int i _=>eqV (.int i) x
 | .str z _=>eqV (.str z) x
 | _=>false
theorem zl {x:V} (r:aY y u) (f:eN y=true):eqU x u=eqV y x:=by
 cases y with
 | non=>cases r;rfl
 | bl b=>cases r;rfl
 | int i=>obtain⟨t,rfl⟩:=r;rfl
 | str z=>obtain⟨t,rfl⟩:=r;rfl
 | _=>exact absurd (show false=true from f) Bool.false_ne_true
theorem ka {x:V} : ∀{xs:List V} {us:List Value},aR xs us->xs.all eN=true->us.any (eqU x)=xs.any λy=>eqV y x
 | _,_,.nil,_=>rfl
 | y :: xs,u :: us,.cons r t,f=>by
  rw[all_cons,Bool.and_eq_true] at f;rw[any_cons,any_cons,zl r f.1,ka t f.2]
theorem gY {A:Around} {s:Shared} {x:V} {v:Value} (B:aY x v) (F:eN x=true) : ∀{xs:List V} {us:List Value},aR xs us->xs.all eN=true->∀u∈us,SeqAt.EqAt A s u v (eqU x u)
 | _,_,.nil,_=>λu z=>by cases z
 | y :: xs,u :: us,.cons r t,f=>λU z=>by
  rw[all_cons,Bool.and_eq_true] at f;rcases mem_cons.mp z with rfl | z
  .rw[zl r f.1];exact Dk r B f.1 F
  .exact gY B F t f.2 U z
def inV (x:V) (xs:List V):Bool:=xs.any λy=>eqV y x
def rIn (K:PySem.W.Frag) (z:Bool):R2:=λx y H Q=>∃p xs,y = .ref p/\(SqL K H p xs\/SqT K H p xs)/\eN x=true/\xs.all eN=true/\Q (.bl (if z then !inV x xs else inV x xs)) H
theorem pU:OpR X (compareOp .In) (rIn X.K false):=by
 intro pins s σ H x y v u Q I B U h;obtain⟨p,xs,rfl,z,F,fs,q⟩:=h;cases U;rcases z with z | z
 .obtain⟨its,r,pl,hz⟩:=I.list z
  refine SeqAt.in_listAt (eqU x) pl.isList (λw hw=>gY B F r fs w (by simpa using hw)) ⟨.bl _,H,I,rfl,?_⟩
  rw[show its.toArray.any (eqU x)=its.any (eqU x) by simp,ka r fs]
  exact q
 .obtain⟨its,r,pl,hz⟩:=I.tuple z
  refine SeqAt.in_tupleAt (eqU x) pl (λw hw=>gY B F r fs w (by simpa using hw)) ⟨.bl _,H,I,rfl,?_⟩
  rw[show its.toArray.any (eqU x)=its.any (eqU x) by simp,ka r fs]
  exact q
theorem qU:OpR X (compareOp .NotIn) (rIn X.K true):=by
 intro pins s σ H x y v u Q I B U h;obtain⟨p,xs,rfl,z,F,fs,q⟩:=h;cases U;rcases z with z | z
 .obtain⟨its,r,pl,hz⟩:=I.list z
  refine SeqAt.notIn_listAt (eqU x) pl.isList (λw hw=>gY B F r fs w (by simpa using hw)) ⟨.bl _,H,I,rfl,?_⟩
  rw[show its.toArray.any (eqU x)=its.any (eqU x) by simp,ka r fs]
  exact q
 .obtain⟨its,r,pl,hz⟩:=I.tuple z
  refine SeqAt.notIn_tupleAt (eqU x) pl (λw hw=>gY B F r fs w (by simpa using hw)) ⟨.bl _,H,I,rfl,?_⟩
  rw[show its.toArray.any (eqU x)=its.any (eqU x) by simp,ka r fs]
  exact q
theorem ke:bE X (.builtin "len") (λxs H Q=>∃p ys,xs=[.ref p]/\(SqL X.K H p ys\/SqT X.K H p ys)/\Q (.int ys.length) H):=by
 intro pins s σ H xs us Q I r h;obtain⟨p,ys,rfl,B,q⟩:=h;obtain⟨u,rfl,F⟩:=cI r;cases F;have hn:=jv;rcases B with B | B
 .obtain⟨its,r',pl,hz⟩:=I.list B
  have z:=r'.length;exact Calls.call_len_list pl.isList (by simp only[size_toArray] <;> omega) ⟨.int ys.length,H,I.tok _,⟨s.toks+1,by rw[size_toArray,z]⟩,q⟩
 .obtain⟨its,r',pl,hz⟩:=I.tuple B
  have z:=r'.length;exact len_tuple pl (by simp only[size_toArray] <;> omega) ⟨.int ys.length,H,I.tok _,⟨s.toks+1,by rw[size_toArray,z]⟩,q⟩
theorem rH:bE X (.builtin "len") (λxs H Q=>∃z,xs=[.str z]/\z.length<=sizeLine/\Q (.int z.length) H):=by
 intro pins s σ H xs us Q I r h;obtain⟨z,rfl,B,q⟩:=h;obtain⟨u,rfl,t,rfl⟩:=cI r;have hn:=jv;exact len_str (by omega) ⟨.int z.length,H,I.tok _,⟨_,rfl⟩,q⟩
theorem jN:bE X (.type "list") (λxs H Q=>∃p ys,xs=[.ref p]/\(SqL X.K H p ys\/SqT X.K H p ys)/\∀l,H l=none->Q (.ref l) (upd H l (.lst ys))):=by
 intro pins s σ H xs us Q I r h;obtain⟨p,ys,rfl,U,q⟩:=h;obtain⟨u,rfl,rx⟩:=cI r;cases rx;have B : ∀(its:List Value),aR ys its->ys.length<=sizeLine->∀(h':Heap) (c':Nat),(∀b o',s.heap.get? b=some o'->h'.get? b=some o') ->
   h'.get? s.heap.objs.size=some { cls:=.type "list",dict:=none,data:=.seq its.toArray c',slots := #[] }->EP X pins σ Q (.ref s.heap.objs.size) { s with heap:=h' }:=λits r' Y h' c' z e =>
  ⟨.ref s.heap.objs.size,_,I.laid (t':=s.toks) z (le_refl _) (show be X.prog X.w _ h' _ (.lst ys) from⟨Y,its,c',r',e⟩),rfl,q _ (I.hok.fresh (le_refl _))⟩
 rcases U with U | U
 .obtain⟨its,r',pl,Y⟩:=I.list U
  have F:=r'.length;obtain⟨o,Z,hc,n,hd⟩:=pl.isList;exact call_list_seq p (.inl rfl) Z hc hd (λh' c' z e=>B its r' Y h' c' z e) (by simp only[size_toArray] <;> omega)
 .obtain⟨its,r',pl,Y⟩:=I.tuple U
  have F:=r'.length;obtain⟨o,Z,hc,n,hd⟩:=pl;exact call_list_seq p (.inr rfl) Z hc hd (λh' c' z e=>B its r' Y h' c' z e) (by simp only[size_toArray] <;> omega)
theorem oT:bE X (.type "tuple") (λxs H Q=>∃p ys,xs=[.ref p]/\((SqL X.K H p ys/\∀l,H l=none->Q (.ref l) (upd H l (.tup ys)))\/(SqT X.K H p ys/\Q (.ref p) H))):=by
 intro pins s σ H xs us Q I r h;obtain⟨p,ys,rfl,h⟩:=h;obtain⟨u,rfl,Y⟩:=cI r;cases Y;rcases h with⟨z,q⟩ | ⟨z,q⟩
 .obtain⟨its,r',pl,hz⟩:=I.list z
  have F:=r'.length;refine call_tuple_list pl.isList (λh' U=>?_) (by simp only[size_toArray] <;> omega)
  have B:Inv X pins σ H { s with heap:=h' }:=I.kept (t':=s.toks) U
  have Z:Inv X pins σ (upd H h'.objs.size (.tup ys)) { s with heap:=h'.push { cls:=.type "tuple",data:=.seq its.toArray } } :=
   B.laid (t':=s.toks) (λb o e=>Heap.get?_push_of_some _ e) (le_refl _) (show be X.prog X.w _ _ _ (.tup ys) from⟨hz,its,r',IsTup.new _ _⟩)
  exact⟨.ref h'.objs.size,_,Z,rfl,q _ (B.hok.fresh (le_refl _))⟩
 .obtain⟨its,r',pl,hz⟩:=I.tuple z
  exact call_tuple_same pl ⟨.ref p,H,I,rfl,q⟩
def tyV (K:PySem.W.Frag) (T:String) (x:V) (H:Hp):Prop:=match x with
 | .str _=>T = "str"
 | .int _=>T = "int"
 | .ref p=>(T = "list"/\∃xs,SqL K H p xs)\/(T = "tuple"/\∃o,K.lookup p=some o/\o.cls = .type "tuple" /\ o.dict=none) \/
   (T = "dict" /\((∃kvs,H p=some (.dK kvs))\/∃kvs,H p=some (.dT kvs)))\/(T = "set"/\∃S n,H p=some (.set S n))
 | _=>False
theorem vY {x:V} (I:Inv X pins σ H s) (r:aY x v) (ty:tyV X.K T x H) :
  s.TypeIs v T/\∀a,v = .ref a->∃ob,s.heap.get? a=some ob/\ob.dict=none:=by
 cases x with
 | str z =>
  obtain⟨t,rfl⟩:=r;cases (show T = "str" from ty)
  exact⟨typeIs_str s z t,λ_ e=>nomatch e⟩
 | int i =>
  obtain⟨t,rfl⟩:=r;cases (show T = "int" from ty)
  exact⟨typeIs_int s i t,λ_ e=>nomatch e⟩
 | ref p =>
  cases r;rcases ty with⟨rfl,xs,U⟩ | ⟨rfl,o,B,hc,F⟩ | ⟨rfl,B⟩ | ⟨rfl,S,n,B⟩
  .obtain⟨its,_,pl,_⟩:=I.list U
   refine⟨pl.isList.typeIs,λa e=>?_⟩
   cases e;obtain⟨o,n,e,c,F,_⟩:=pl;exact⟨o,e,F⟩
  .refine⟨⟨o,I.kIn p o B,hc⟩,λa e=>?_⟩
   cases e;exact⟨o,I.kIn _ o B,F⟩
  .have z : ∃o,s.heap.get? p=some o/\o.ExactDict:=by
    rcases B with⟨kvs,B⟩ | ⟨kvs,B⟩
    .obtain⟨_,_,_,_,o,_,_,e,ex,_⟩:=I.hok p _ B
     exact⟨o,e,ex⟩
    .obtain⟨_,_,_,_,o,_,_,e,ex,_⟩:=I.hok p _ B
     exact⟨o,e,ex⟩
   obtain⟨o,e,ex⟩:=z;refine⟨⟨o,e,ex.1⟩,λa e2=>?_⟩
   cases e2;exact⟨o,e,ex.2.1⟩
  .obtain⟨o,_,_,_,e,ex,_⟩:=I.hok p _ B
   refine⟨⟨o,e,ex.1⟩,λa e2=>?_⟩
   cases e2;exact⟨o,e,ex.2.1⟩
 | _=>exact False.elim ty
variable {o:Expr} {t:TA} {id:String} {r:V->List V->Hp->VK->Prop}
end
def MtM (X:Cx) (id:String) (r:V->List V->Hp->VK->Prop):Prop :=
 ∀ (pins:List (Addr × Obj)) (s:Shared) (σ:St) (H:Hp) (x:V) (xs:List V) (v:Value) (us:List Value) (Q:VK),Inv X pins σ H s->aY x v->aR xs us->r x xs H Q ->
  wpAny (model X.prog X.w) X.A (call (.builtin id) (v :: us)) (EP X pins σ Q) X.xe s
theorem aR.one : ∀{x:V} {us:List Value},aR [x] us->∃u,us=[u]/\aY x u
 | _,_,.cons r .nil=>⟨_,rfl,r⟩
theorem aR.zero : ∀{us:List Value},aR [] us->us=[]
 | _,.nil=>rfl
theorem aR.dropLast {xs:List V} {us:List Value} (h:aR xs us):aR xs.dropLast us.dropLast:=by
 induction h with
 | nil=>exact .nil
 | cons r t z =>
  cases t with
  | nil=>exact .nil
  | cons q t'=>exact .cons r z
theorem aR.eraseIdx : ∀{xs:List V} {us:List Value} (i:Nat),aR xs us->aR (xs.eraseIdx i) (us.eraseIdx i)
 | _,_,_,.nil=>.nil
 | _,_,0,.cons _ t=>t
 | _,_,i+1,.cons r t=>.cons r (aR.eraseIdx i t)
theorem aR.reverse {xs:List V} {us:List Value} (h:aR xs us):aR xs.reverse us.reverse:=by
 induction h with
 | nil=>exact .nil
 | cons r t z=>rw[List.reverse_cons,List.reverse_cons];exact aR.append z (.cons r .nil)
theorem vT (l:List α):l.eraseIdx (l.length - 1)=l.dropLast:=by
 induction l with
 | nil=>rfl
 | cons a r z =>
  cases r with
  | nil=>rfl
  | cons b r =>
   have e:(a :: b :: r).length - 1=((b :: r).length - 1)+1:=by
    have h1:(a :: b :: r).length=r.length+2:=rfl
    have h2:(b :: r).length=r.length+1:=rfl
    omega
   rw[e,List.eraseIdx_cons_succ,z]
   all_goals rfl
theorem qg {α:Type} : ∀(l:List α) (i:Nat),(l.eraseIdx i).length<=l.length
 | [],_=>le_refl _
 | _ :: _,0=>le_succ _
 | _ :: r,i+1=>Nat.succ_le_succ (qg r i)
section
variable {ys zs:List V}
theorem Inv.lset {its':List Value} {f:Array Value->Array Value} (I:Inv X pins σ H s) (U:H l=some (.lst xs))
  (e:s.heap.get? l=some { cls:=.type "list",data:=.seq its.toArray n }) (B:f its.toArray=its'.toArray) (z:aR ys its') (F:ys.length<=sizeLine) :
  Inv X pins σ (upd H l (.lst ys)) { s with heap:=s.heap.update l (Obj.mapSeq f),toks:=t' }:=by
 have q:=PySem.IsL.update e f;rw[B] at q;refine I.write (x:=l) (e:=l) (by rw[U];exact trivial) (.inl rfl) (λb' u Z Y=>(Heap.get?_update_other s.heap (Obj.mapSeq f) (Ne.symm Z)).trans Y) ⟨_,q⟩ ?_
 exact⟨F,its',_,z,q⟩
theorem Inv.lnew (I:Inv X pins σ H s) (z:aR ys its) (B:ys.length<=sizeLine) :
  Inv X pins σ (upd H s.heap.objs.size (.lst ys)) { s with heap:=s.heap.push { cls:=.type "list",data:=.seq its.toArray },toks:=t' } :=
 I.laid (λ_ _ q=>Heap.get?_push_of_some _ q) (le_refl _) ⟨B,its,0,z,Heap.get?_push_size _ rfl⟩
theorem Inv.fresh (I:Inv X pins σ H s):H s.heap.objs.size=none:=I.hok.fresh (le_refl _)
theorem Inv.lstM (I:Inv X pins σ H s) (B:H l=some (.lst xs)):xs.length<=sizeLine/\∃(its:List Value) (n:Nat),aR xs its/\xs.length=its.length/\s.heap.get? l=some { cls:=.type "list",data:=.seq its.toArray n }:=by
 obtain⟨z,its,n,r,e⟩:=I.hok l _ B;exact⟨z,its,n,r,r.length,e⟩
end
def Ct:V->List V->Hp->VK->Prop:=λx vs H Q=>∃l xs y,x = .ref l/\vs=[y]/\H l=some (.lst xs)/\xs.length < sizeLine/\Q .non (upd H l (.lst (xs++[y])))
theorem qx:MtM X "list.append" Ct:=by
 intro pins s σ H x vs v us Q I U Z h;obtain⟨l,xs,y,rfl,rfl,B,hz,q⟩:=h;cases U;obtain⟨u,rfl,Y⟩:=Z.one;obtain⟨z,its,n,r,hl,e⟩:=I.lstM B;refine call_meets F.slot_list_append ⟨_,e,rfl⟩ F.entry_list_append (F.args_list_append_2 _ _) (PySem.list_append l its.toArray n u (by rw[size_toArray];omega)) ⟨e,?_⟩
 refine⟨.non,_,I.lset (its':=its++[u]) B e (by simp) (r.append (.cons Y .nil)) ?_,rfl,q⟩
 rw[length_append,List.length_singleton];omega
def HK:V->List V->Hp->VK->Prop:=λx vs H Q=>∃l xs y,x = .ref l/\vs=[]/\H l=some (.lst xs)/\xs[xs.length - 1]? = some y/\Q y (upd H l (.lst xs.dropLast))
theorem EU:MtM X "list.pop" HK:=by
 intro pins s σ H x vs v us Q I rx rv h;obtain⟨l,xs,y,rfl,rfl,Y,hy,q⟩:=h;cases rx;have U:=rv.zero;subst U;obtain⟨z,its,n,r,hl,e⟩:=I.lstM Y;obtain⟨u,Z,ru⟩:=r.get hy;have B:its.toArray[its.toArray.size - 1]? = some u:=by
  show its.toArray[its.length - 1]? = some u
  rw[<- Array.getElem?_toList,<- hl];exact Z
 refine call_meets F.slot_list_pop ⟨_,e,rfl⟩ F.entry_list_pop (F.args_list_pop_1 _) (MeetsSeq.list_pop_last l its.toArray n u B (by rw[size_toArray];omega)) ⟨e,?_⟩
 refine⟨y,_,I.lset (its':=its.dropLast) Y e ?_ r.dropLast ?_,ru,q⟩
 .show its.toArray.eraseIdxIfInBounds (its.toArray.size - 1)=its.dropLast.toArray
  rw[size_toArray,List.eraseIdxIfInBounds_toArray,vT]
 .rw[List.length_dropLast]
  omega
def EO:V->List V->Hp->VK->Prop:=λx vs H Q=>∃l xs i k y,x = .ref l/\vs=[.int i]/\H l=some (.lst xs)/\-(2 ^ 63)<=i/\i < 2 ^ 63/\seqIndex? i xs.length=some k/\xs[k]? = some y/\Q y (upd H l (.lst (xs.eraseIdx k)))
theorem A6:MtM X "list.pop" EO:=by
 intro pins s σ H x vs v us Q I Z rv h;obtain⟨l,xs,i,k,y,rfl,rfl,U,h1,h2,Y,hy,q⟩:=h;cases Z;obtain⟨u,rfl,ru⟩:=rv.one;obtain⟨t,rfl⟩:=ru;obtain⟨z,its,n,r,hl,e⟩:=I.lstM U;obtain⟨w,hw,B⟩:=r.get hy;refine call_meets F.slot_list_pop ⟨_,e,rfl⟩ F.entry_list_pop (F.args_list_pop_2 _ _)
  (MeetsSeq.list_pop_at l its.toArray n i t k w (fitsIndex_both h1 h2) (by rw[size_toArray,<- hl];exact Y) (by rw[<- Array.getElem?_toList];exact hw) (by rw[size_toArray];omega)) ⟨e,?_⟩
 refine⟨y,_,I.lset (its':=its.eraseIdx k) U e ?_ (r.eraseIdx k) ?_,B,q⟩
 .show its.toArray.eraseIdxIfInBounds k=(its.eraseIdx k).toArray
  rw[List.eraseIdxIfInBounds_toArray]
 .have:=qg xs k
  omega
def Ic:R2:=λx y H Q=>∃l b xs zs,x = .ref l/\y = .ref b/\H l=some (.lst xs)/\H b=some (.lst zs)/\xs.length+zs.length<=sizeLine/\∀p,H p=none->Q (.ref p) (upd H p (.lst (xs++zs)))
theorem EL:OpR X (binaryOp .Add) Ic:=by
 intro pins s σ H x y v u Q I F ry h;obtain⟨l,b,xs,zs,rfl,rfl,Z,hB,hz,q⟩:=h;cases F;cases ry;obtain⟨z,its,n,r,hl,e⟩:=I.lstM Z;obtain⟨z2,B,n2,Y,hl2,e2⟩:=I.lstM hB;refine PySem.P.add_list e e2 ?_ (by rw[size_toArray,size_toArray];omega)
 have U:its.toArray++B.toArray=(its++B).toArray:=by simp
 rw[U];exact⟨.ref _,_,I.lnew (t':=s.toks) (r.append Y) (by rw[length_append];omega),rfl,q _ I.fresh⟩
section
variable [DecidableEq κ]
def bu (kvs:List (κ × V)) (k:κ):Option V:=(kvs.find? λkv=>decide (kv.1=k)).map (·.2)
def bp (kvs:List (κ × V)) (k:κ) (v:V):List (κ × V) :=
 if (kvs.any λkv=>decide (kv.1=k))=true then kvs.map (λkv=>if kv.1=k then(kv.1,v) else kv) else kvs++[(k,v)]
theorem kh {k:κ}:bu ([]:List (κ × V)) k=none:=rfl
theorem bc {p:κ × V} {r:List (κ × V)} {k:κ} (e:p.1=k):bu (p :: r) k=some p.2:=by simp[bu,find?_cons,e]
theorem aQ {p:κ × V} {r:List (κ × V)} {k:κ} (e : ¬ p.1=k):bu (p :: r) k=bu r k:=by simp[bu,find?_cons,e]
theorem dL (k:κ) : ∀kvs:List (κ × V),(kvs.any λkv=>decide (kv.1=k))=(bu kvs k).isSome
 | []=>rfl
 | p :: r=>by
  rw[any_cons]
  by_cases e:p.1=k
  .simp only[bc e,decide_eq_true e,Bool.true_or,isSome_some]
  .rw[aQ e,decide_eq_false e,Bool.false_or];exact dL k r
theorem uV (k j:κ) (y:V) : ∀kvs:List (κ × V),bu (kvs.map λkv=>if kv.1=k then(kv.1,y) else kv) j=(bu kvs j).map λx=>if j=k then y else x
 | []=>rfl
 | p :: r=>by
  have B:=uV k j y r;rw[map_cons]
  by_cases h:p.1=k
  .rw[if_pos h]
   by_cases e:p.1=j
   .rw[bc (p:=(p.1,y)) e,bc e,Option.map_some,if_pos (e.symm.trans h)]
   .rw[aQ (p:=(p.1,y)) e,aQ e,B]
  .rw[if_neg h]
   by_cases e:p.1=j
   .rw[bc (p:=p) e,bc e,Option.map_some,if_neg (λz=>h (e.trans z))]
   .rw[aQ (p:=p) e,aQ e,B]
theorem qa (k j:κ) (y:V) : ∀kvs:List (κ × V),bu kvs k=none->bu (kvs++[(k,y)]) j=if j=k then some y else bu kvs j
 | [],_=>by
  by_cases e:k=j
  .rw[if_pos e.symm];exact bc (p:=(k,y)) e
  .rw[if_neg (λz=>e z.symm)];exact aQ (p:=(k,y)) e
 | p :: r,hn=>by
  rw[cons_append];have B : ¬ p.1=k:=λz=>by rw[bc z] at hn;cases hn
  rw[aQ B] at hn;have F:=qa k j y r hn
  by_cases e:p.1=j
  .rw[bc e,bc e,if_neg (λz=>B (e.trans z))]
  .rw[aQ e,aQ e,F]
theorem nF (kvs:List (κ × V)) (k j:κ) (y:V):bu (bp kvs k y) j=if j=k then some y else bu kvs j:=by
 unfold bp
 by_cases a:(kvs.any λkv=>decide (kv.1=k))=true
 .rw[if_pos a,uV]
  rw[dL] at a
  by_cases e:j=k
  .obtain⟨x,hx⟩:=isSome_iff_exists.mp a
   rw[if_pos e,e,hx,Option.map_some,if_pos rfl]
  .rw[if_neg e]
   cases bu kvs j with
   | none=>rfl
   | some x=>rw[Option.map_some,if_neg e]
 .rw[if_neg a]
  refine qa k j y kvs ?_
  rw[dL] at a;cases q:bu kvs k with
  | none=>rfl
  | some x=>rw[q] at a;exact(a rfl).elim
theorem cV (kvs:List (κ × V)) (k:κ) (v:V):(bp kvs k v).length<=kvs.length+1:=by
 unfold bp
 split
 .rw[length_map];omega
 .rw[length_append,length_cons,length_nil];omega
theorem cF {kvs:List (κ × V)} {k:κ} (v:V) (h:bu kvs k=none):bp kvs k v=kvs++[(k,v)]:=by
 unfold bp;rw[dL,h];exact if_neg (by decide)
theorem iN.isSome_eq {o:Option V} {u:Option Value} (r:iN o u):o.isSome=u.isSome:=by
 cases o with
 | none=>cases u with
  | none=>rfl
  | some _=>exact(show False from r).elim
 | some _=>cases u with
  | none=>exact(show False from r).elim
  | some _=>rfl
theorem iN.getD {o:Option V} {u:Option Value} {d:V} {d':Value} (r:iN o u) (z:aY d d'):aY (o.getD d) (u.getD d'):=by
 cases o with
 | none=>cases u with
  | none=>exact z
  | some _=>exact(show False from r).elim
 | some _=>cases u with
  | none=>exact(show False from r).elim
  | some _=>exact r
theorem KV.val {kvs:List (κ × V)} {vs:List (κ × Value)} (r:KV kvs vs) (k:κ):iN (bu kvs k) (valueAt vs k):=by
 unfold KV at r
 induction r with
 | nil=>exact True.intro
 | @cons p q ps qs h t ih =>
  obtain⟨h1,h2⟩:=h
  by_cases e:p.1=k
  .have e':q.1=k:=h1.symm.trans e
   have b:valueAt (q :: qs) k=some q.2:=by simp[valueAt,find?_cons,e']
   rw[bc e,b];exact h2
  .have e' : ¬ q.1=k:=λz=>e (h1.trans z)
   have b:valueAt (q :: qs) k=valueAt qs k:=by simp[valueAt,find?_cons,e']
   rw[aQ e,b];exact ih
theorem KV.any {kvs:List (κ × V)} {vs:List (κ × Value)} (r:KV kvs vs) (k:κ):(kvs.any λkv=>decide (kv.1=k))=vs.any λkv=>decide (kv.1=k):=by
 unfold KV at r
 induction r with
 | nil=>rfl
 | cons h t z=>rw[any_cons,any_cons,z,h.1]
theorem KV.repl {kvs:List (κ × V)} {vs:List (κ × Value)} (r:KV kvs vs) (k:κ) {y:V} {u:Value} (B:aY y u) :
  KV (kvs.map λkv=>if kv.1=k then(kv.1,y) else kv) (vs.map λkv=>if kv.1=k then(kv.1,u) else kv):=by
 unfold KV at r ⊢
 induction r with
 | nil=>exact .nil
 | @cons p q ps qs h t ih =>
  rw[map_cons,map_cons];refine .cons ?_ ih
  obtain⟨h1,h2⟩:=h
  by_cases e:p.1=k
  .rw[if_pos e,if_pos (h1.symm.trans e)];exact⟨h1,B⟩
  .rw[if_neg e,if_neg (λz=>e (h1.trans z))];exact⟨h1,h2⟩
theorem KV.put {kvs:List (κ × V)} {vs:List (κ × Value)} (r:KV kvs vs) (k:κ) {y:V} {u:Value} (z:aY y u):KV (bp kvs k y) (stored vs k u):=by
 unfold bp stored;rw[r.any k]
 by_cases e:(vs.any λkv=>decide (kv.1=k))=true
 .rw[if_pos e,if_pos e];exact r.repl k z
 .rw[if_neg e,if_neg e];exact Paired.snoc r ⟨rfl,z⟩
theorem KV.keys {kvs:List (κ × V)} {vs:List (κ × Value)} (r:KV kvs vs):kvs.map (·.1)=vs.map (·.1):=by
 unfold KV at r
 induction r with
 | nil=>rfl
 | cons h t z=>rw[map_cons,map_cons,z,h.1]
theorem KV.length {kvs:List (κ × V)} {vs:List (κ × Value)} (r:KV kvs vs):kvs.length=vs.length:=Paired.length r
end
theorem lc {k:Key} (r:aY (kV k) u):(aU P w).is k u=true:=by
 cases k with
 | inl i=>obtain⟨t,e⟩:=(show ∃t,u=Value.int i t from r);subst e;exact uq P w i t
 | inr x=>obtain⟨t,e⟩:=(show ∃t,u=Value.str x t from r);subst e;exact uf P w x t
theorem qc {P:Program} {w:World} : ∀{ks:List Key} {us:List Value},aR (ks.map kV) us->ItemsAre (aU P w) ks us
 | [],_,r=>by rw[map_nil] at r;cases r;exact .nil
 | k :: ks,_,r=>by
  rw[map_cons] at r;cases r with
  | cons h t=>exact .cons (lc h) (qc t)
abbrev KT (H:Hp):List (List Key × V)->List (List Key × Addr × Value)->Prop:=Paired λp q=>p.1=q.1/\H q.2.1=some (.tup (p.1.map kV))/\aY p.2 q.2.2
theorem KT.val {kvs:List (List Key × V)} {xs:List (List Key × Addr × Value)} (r:KT H kvs xs) (k:List Key):iN (bu kvs k) ((atKey xs k).map (·.2)):=by
 induction r with
 | nil=>exact True.intro
 | @cons p q ps qs h t ih =>
  obtain⟨h1,_,h2⟩:=h
  by_cases e:p.1=k
  .have e':q.1=k:=h1.symm.trans e
   have b:atKey (q :: qs) k=some q.2:=by simp[atKey,find?_cons,e']
   rw[bc e,b];exact h2
  .have e' : ¬ q.1=k:=λz=>e (h1.trans z)
   have b:atKey (q :: qs) k=atKey qs k:=by simp[atKey,find?_cons,e']
   rw[aQ e,b];exact ih
theorem KT.repl {kvs:List (List Key × V)} {xs:List (List Key × Addr × Value)} (r:KT H kvs xs) (k:List Key) {y:V} {u:Value} (F:aY y u) :
  KT H (kvs.map λkv=>if kv.1=k then(kv.1,y) else kv) (xs.map (putAt k u)):=by
 induction r with
 | nil=>exact .nil
 | @cons p q ps qs h t ih =>
  rw[map_cons,map_cons];refine .cons ?_ ih
  obtain⟨h1,h2,B⟩:=h;unfold putAt
  by_cases e:p.1=k
  .rw[if_pos e,if_pos (h1.symm.trans e)];exact⟨h1,h2,F⟩
  .rw[if_neg e,if_neg (λz=>e (h1.trans z))];exact⟨h1,h2,B⟩
theorem KT.put {kvs:List (List Key × V)} {xs:List (List Key × Addr × Value)} (r:KT H kvs xs) (k:List Key) {b:Addr} {y:V} {u:Value} (B:H b=some (.tup (k.map kV))) (z:aY y u) :
  KT H (bp kvs k y) (storedH xs k b u):=by
 have e:(kvs.any λkv=>decide (kv.1=k))=(atKey xs k).isSome:=by
  rw[dL,(r.val k).isSome_eq,isSome_map]
 unfold bp storedH;rw[e]
 by_cases q:(atKey xs k).isSome=true
 .rw[if_pos q,if_pos q];exact r.repl k z
 .rw[if_neg q,if_neg q];exact Paired.snoc r ⟨rfl,B,z⟩
theorem KT.keeps {kvs:List (List Key × V)} {xs:List (List Key × Addr × Value)} (r:KT H kvs xs) (B : ∀b ys,H b=some (.tup ys)->H' b=some (.tup ys)):KT H' kvs xs :=
 Paired.mapP r λ_ _ z=>⟨z.1,B _ _ z.2.1,z.2.2⟩
theorem CM {u:HO} (ok:HOk P w H h) (e:Rd H a u):be P w H h a u:=e.ok ok
theorem nh (ok:HOk P w H h) (e:Rd H a (.dK kvs)):kvs.length<=sizeLine/\(a == sysModules)=false/\∃vs,KV kvs vs/\h.DictOf (aU P w) a vs :=
 show be P w H h a (.dK kvs) from CM ok e
theorem fT (ok:HOk P w H h) (e:H a=some (.dK kvs)):kvs.length<=sizeLine/\(a == sysModules)=false/\∃vs,KV kvs vs/\h.DictOf (aU P w) a vs:=nh ok (.inl e)
theorem kz {ks:List Key} (ok:HOk P w H h) (e:H a=some (.tup (ks.map kV))):(tupleKind (aU P w)).is h ks a:=by
 obtain⟨_,its,r,o,h1,h2,n,z⟩:=(show be P w H h a (.tup (ks.map kV)) from ok a _ e)
 exact⟨o,its.toArray,n,h1,h2,z,by simpa using qc r⟩
theorem oA {kvs:List (List Key × V)} (ok:HOk P w H h) (e:Rd H a (.dT kvs)):kvs.length<=sizeLine/\(a == sysModules)=false /\
  ∃xs,KT H kvs xs/\h.DictOfH (tupleKind (aU P w)) a xs:=by
 obtain⟨z,y,xs,r,o,es,ep,h1,h2,U,F,Y⟩:=(show be P w H h a (.dT kvs) from CM ok e)
 refine⟨z,y,xs,r,o,es,ep,h1,h2,U,F,λx B=>?_,Y⟩
 have all : ∀{l:List (List Key × V)} {m:List (List Key × Addr × Value)},KT H l m->∀x∈m,(tupleKind (aU P w)).is h x.1 x.2.1:=by
  intro l m q
  induction q with
  | nil=>intro x B;exact nomatch B
  | @cons p q ps qs hq t ih =>
   intro x B;rcases mem_cons.mp B with e | B
   .subst e
    exact kz ok (by rw[<- hq.1];exact hq.2.1)
   .exact ih x B
 exact all r x B
theorem Gz {kvs:List (List Key × V)} (ok:HOk P w H h) (e:H a=some (.dT kvs)):kvs.length<=sizeLine/\(a == sysModules)=false /\
  ∃xs,KT H kvs xs/\h.DictOfH (tupleKind (aU P w)) a xs:=oA ok (.inl e)
def pR (H:Hp) (a:Addr) (y:V) (r:Option V):Prop :=
 (∃kvs k,Rd H a (.dK kvs)/\y=kV k/\r=bu kvs k)\/∃kvs k b,Rd H a (.dT kvs)/\y = .ref b/\H b=some (.tup (k.map kV))/\r=bu kvs k
def GL (H:Hp) (a:Addr) (y v:V) (H':Hp):Prop :=
 (∃kvs k,H a=some (.dK kvs)/\y=kV k/\kvs.length < sizeLine/\H'=upd H a (.dK (bp kvs k v))) \/
 ∃kvs k b,H a=some (.dT kvs)/\y = .ref b/\H b=some (.tup (k.map kV))/\kvs.length < sizeLine/\H'=upd H a (.dT (bp kvs k v))
section
variable {v:V} {r:Value} {o:Option V}
theorem Inv.big (I:Inv X pins σ H s):sysModules < s.heap.objs.size:=by
 have h:mainGlobals < s.heap.objs.size:=(I.mod.glob.keeps I.bk).lt
 exact lt_trans (by decide) h
theorem qw (hu:A.units+1 < cLine) (I:Inv X pins σ H s) (g:pR H a y (some v)) (ry:aY y u) (h : ∀U s',Inv X pins σ H s'->aY v U->Q U s') :
  wpAny (model X.prog X.w) A (getItem (.ref a) u) Q E s:=by
 rcases g with⟨kvs,k,e,Z,l⟩ | ⟨kvs,k,b,e,Z,eb,l⟩
 .subst Z
  obtain⟨z,hd,vs,F,Y⟩:=nh I.hok e;obtain⟨U,hw,B⟩:=iN.some_of (v:=v) (o:=valueAt vs k) (by rw[l];exact F.val k)
  exact wpAny_getItem_of (lc ry) Y.mapOf hw (h U _ (I.tok _) B)
 .subst Z
  cases (show u=Value.ref b from ry)
  obtain⟨z,hd,xs,F,Y⟩:=oA I.hok e;obtain⟨U,hw,B⟩:=iN.some_of (v:=v) (o:=(atKey xs k).map (·.2)) (by rw[l];exact F.val k)
  obtain⟨p,hp,aa⟩:=map_eq_some_iff.mp hw;refine wpAny_getItem_heap (tupleKind_room_in1 hu) (kz I.hok eb) Y hp ?_
  rw[aa];exact h U _ (I.tok _) B
theorem HF (hu:A.units+1 < cLine) (I:Inv X pins σ H s) (g:pR H a y o) (Z:aY y u) (h : ∀s',Inv X pins σ H s'->Q (.bool o.isSome) s') :
  wpAny (model X.prog X.w) A (compareOp .In u (.ref a)) Q E s:=by
 rcases g with⟨kvs,k,e,F,l⟩ | ⟨kvs,k,b,e,F,eb,l⟩
 .subst F
  obtain⟨z,Y,vs,B,U⟩:=nh I.hok e;refine wpAny_in_of (lc Z) Y U.mapOf ?_
  rw[<- (B.val k).isSome_eq,<- l];exact h _ (I.tok _)
 .subst F
  cases (show u=Value.ref b from Z)
  obtain⟨z,Y,xs,B,U⟩:=oA I.hok e;refine wpAny_in_heap (tupleKind_room_in1 hu) (kz I.hok eb) Y U ?_
  have q:=(B.val k).isSome_eq;rw[isSome_map] at q;rw[<- q,<- l];exact h _ (I.tok _)
theorem BP (hu:A.units+1 < cLine) (I:Inv X pins σ H s) (g:pR H a y o) (Z:aY y u) (h : ∀s',Inv X pins σ H s'->Q (.bool (!o.isSome)) s') :
  wpAny (model X.prog X.w) A (compareOp .NotIn u (.ref a)) Q E s:=by
 rcases g with⟨kvs,k,e,F,l⟩ | ⟨kvs,k,b,e,F,eb,l⟩
 .subst F
  obtain⟨z,Y,vs,B,U⟩:=nh I.hok e;refine wpAny_notIn_of (lc Z) Y U.mapOf ?_
  rw[<- (B.val k).isSome_eq,<- l];exact h _ (I.tok _)
 .subst F
  cases (show u=Value.ref b from Z)
  obtain⟨z,Y,xs,B,U⟩:=oA I.hok e;refine wpAny_notIn_heap (tupleKind_room_in1 hu) (kz I.hok eb) Y U ?_
  have q:=(B.val k).isSome_eq;rw[isSome_map] at q;rw[<- q,<- l];exact h _ (I.tok _)
theorem mj {ob:HO} (I:Inv X pins σ H s) (Y:Mut (H a)) (B:Heap.SameBut a s.heap h') (F : ∃q,h'.get? a=some q) (new:be X.prog X.w (upd H a ob) h' a ob) :
  Inv X pins σ (upd H a ob) { s with heap:=h',toks:=t' } :=
 I.write (x:=a) (e:=a) Y (.inl rfl) (λb q U z=>(B.2 b U).trans z) F new
theorem Af {vs:List (Key × Value)} (z:kvs.length<=sizeLine) (U:(a == sysModules)=false) (B:KV kvs vs) (F:h'.DictOf (aU P w) a vs) :
  be P w H' h' a (.dK kvs):=⟨z,U,vs,B,F⟩
theorem yx {Q:Unit->Shared->Prop} (hu:A.units+1 < cLine) (I:Inv X pins σ H s) (g:GL H a y v H') (ry:aY y u) (rv:aY v r) (h : ∀s',Inv X pins σ H' s'->Q () s') :
  wpAny (model X.prog X.w) A (setItem (.ref a) u r) Q E s:=by
 rcases g with⟨kvs,k,e,ey,l,eH⟩ | ⟨kvs,k,b,e,ey,eb,l,eH⟩
 .subst ey eH
  obtain⟨z,hd,vs,B,Y⟩:=fT I.hok e;have hz:vs.length<=sizeLine:=by rw[<- B.length];exact z
  have hl:(bp kvs k v).length<=sizeLine:=by have:=cV kvs k v;omega
  refine wpAny_setItem_pairs (hsz:=hz) (lc ry) Y λh' F Z=>h _ ?_
  have he : ∃q,h'.get? a=some q:=let ⟨q,_,_,U,_⟩:=F;⟨q,U⟩
  exact mj I (by rw[e];exact True.intro) Z he (Af hl hd (B.put k rv) F)
 .subst ey eH
  cases (show u=Value.ref b from ry)
  obtain⟨z,hd,xs,B,Y⟩:=Gz I.hok e;have hz:xs.length<=sizeLine:=by rw[<- Paired.length B];exact z
  have hl:(bp kvs k v).length<=sizeLine:=by have:=cV kvs k v;omega
  refine wpAny_setItem_heap (hsz:=hz) (tupleKind_room_in1 hu) (kz I.hok eb) Y λh' F Z=>h _ ?_
  obtain⟨q,es,ep,U,h2,h3,h4,_,h5⟩:=F;refine mj I (by rw[e];exact True.intro) Z ⟨q,U⟩ ⟨hl,hd,_,(B.put k eb rv).keeps λc ys ec=>?_,q,es,ep,U,h2,h3,h4,h5⟩
  rw[ag (aX ec e (λz=>nomatch z))]
  exact ec
end
def ES (i:Expr):Prop:=∀z B,subscripted i false z B=operate [z,B] (getItem z B)
theorem wN {id:String}
  (hl:typeLookup (.type T) "__getitem__" = pure (some (.builtin id))) (hs:ES slice)
  (h:wpAny (model prog w) A (eval value env) (λo s₁=>wpAny (model prog w) A (eval slice env) (λi z=>z.TypeIs o T/\wpAny (model prog w) A (getItem o i) Q E z) E s₁) E s) :
  wpAny (model prog w) A (eval (.Subscript value slice pos) env) Q E s:=by
 refine Subscript_ (wpAny_mono h (λo s₁ Z=>wpAny_mono Z (λi z B=>?_) λ_ _ x=>x) λ_ _ x=>x)
 obtain⟨hT,B⟩:=B;unfold subscriptTail;refine wpAny_bind ?_
 rw[getitemInPython_of_ne hT.not_modules];refine wpAny_bind (wpAny_specialOf hT hl ?_)
 have U:wpAny (model prog w) A (subscripted slice false o i) (λr F=>wpAny (model prog w) A (letTemporaryGo value o r >>= λ_=>pure r) Q E F) E z:=by
  rw[hs o i];exact wpAny_operating (wpAny_mono B (λr F Y=>wpAny_bind (wpAny_letTemporaryGo (wpAny_pure Y))) λ_ _ x=>x)
 first
  | exact wpAny_pure (wpAny_bind U)
  | exact wpAny_bind (wpAny_pure (wpAny_bind U))
  | exact wpAny_bind U
theorem lb {o:Option V} (I:Inv X pins σ H s) (g:pR H a y o):s.TypeIs (.ref a) "dict" := by
 rcases g with⟨kvs,k,e,_,_⟩ | ⟨kvs,k,b,e,_,_,_⟩
 .obtain⟨_,_,vs,_,dd⟩:=nh I.hok e
  exact dd.typeIs
 .obtain⟨_,_,xs,_,dd⟩:=oA I.hok e
  exact dd.typeIs
theorem uh (h:Heap) (z:sysModules < h.objs.size):be P w H (h.push { cls:=.type "dict",data:=.dict #[] }) h.objs.size (.dK []) :=
 ⟨zero_le _,beq_eq_false_iff_ne.mpr (Ne.symm (ne_of_lt z)),[],.nil,Heap.DictOf.new h⟩
def wj:TE:=λ_ H Q=>∀p,H p=none->Q (.ref p) (upd H p (.dK []))
theorem cm:PE X (.Dict [] [] pos) wj:=λpins s σ H Q I h =>
 wpAny_Dict_empty ⟨.ref s.heap.objs.size,_,I.laid (a:=s.heap.objs.size) (o:=.dK []) (t':=s.toks) (λ_ _ q=>Heap.get?_push_of_some _ q) (le_refl _) (uh s.heap I.big),rfl,h _ (I.hok.fresh (le_refl _))⟩
def mU:List (TE × TE)->St->Hp->(List (V × V)->Hp->Prop)->Prop
 | [],_,H,Q=>Q [] H
 | (tk,tv) :: r,σ,H,Q=>tk σ H λx H1=>tv σ H1 λy H2=>mU r σ H2 λps z=>Q ((x,y) :: ps) z
abbrev VV:List (V × V)->List (Value × Value)->Prop:=Paired λp q=>aY p.1 q.1/\aY p.2 q.2
def PPs (X:Cx) (pos:Pos) (keys:List (Option Expr)) (values:List Expr) (trs:List (TE × TE)):Prop :=
 ∀ (pins:List (Addr × Obj)) (s:Shared) (σ:St) (H:Hp) (Q:List (V × V)->Hp->Prop),Inv X pins σ H s->mU trs σ H Q ->
  wpAny (model X.prog X.w) X.A (evalPairs (pairTrees keys values X.env pos)) (λvs s'=>∃ps H',Inv X pins σ H' s'/\VV ps vs/\Q ps H') X.xe s
theorem Cv:PPs X pos [] [] []:=λpins s σ H Q I h=>pairTrees_nil_walk ⟨[],H,I,.nil,h⟩
theorem kx {k v:Expr} {ks:List (Option Expr)} {vs:List Expr} {tk:TE} (F:PE X k tk) (Y:PE X v tv) (hr:PPs X pos ks vs trs) :
  PPs X pos (some k :: ks) (v :: vs) ((tk,tv) :: trs):=λpins s σ H Q I h =>
 pairTrees_cons_walk (thn (F pins s σ H _ I h) λu s1 ⟨x,H1,I1,rx,q1⟩=>thn (Y pins s1 σ H1 _ I1 q1) λw2 s2 ⟨y,H2,I2,ry,q2⟩ =>
  thn (hr pins s2 σ H2 _ I2 q2) λws s3 z=>by obtain⟨ps,Z,I3,B,U⟩:=z;exact(⟨(x,y) :: ps,Z,I3,.cons ⟨rx,ry⟩ B,U⟩))
def fE (kvs z:List (Key × V)):List (Key × V):=z.foldl (λacc kv=>bp acc kv.1 kv.2) kvs
theorem KV.merge : ∀{z:List (Key × V)} {rs:List (Key × Value)} {kvs:List (Key × V)} {vs:List (Key × Value)},KV z rs->KV kvs vs->KV (fE kvs z) (merged vs rs):=by
 intro z rs kvs vs r;unfold KV at r
 induction r generalizing kvs vs with
 | nil=>intro q;exact q
 | @cons p q ps qs h t ih =>
  intro B;have e:KV (bp kvs p.1 p.2) (stored vs q.1 q.2):=by
   have:=B.put p.1 h.2
   rw[<- h.1];exact this
  exact ih e
theorem fc : ∀(z kvs:List (Key × V)),(fE kvs z).length<=kvs.length+z.length
 | [],kvs=>by show kvs.length<=kvs.length+0;omega
 | p :: r,kvs=>by
  have h1:=fc r (bp kvs p.1 p.2);have h2:=cV kvs p.1 p.2
  show(fE (bp kvs p.1 p.2) r).length<=_
  rw[length_cons];omega
theorem nG {P:Program} {w:World} : ∀{kvs:List (Key × V)} {ws:List (Value × Value)},VV (kvs.map λkv=>(kV kv.1,kv.2)) ws->∃rs,Carries (aU P w) ws rs/\KV kvs rs
 | [],_,r=>by rw[map_nil] at r;cases r;exact⟨[],True.intro,.nil⟩
 | p :: kvs,_,r=>by
  rw[map_cons] at r;cases r with
  | @cons a b as bs h t =>
   obtain⟨rs,c,q⟩:=nG (P:=P) (w:=w) t;obtain⟨B,z⟩:=b;exact⟨(p.1,z) :: rs,⟨lc h.1,rfl,c⟩,.cons ⟨rfl,h.2⟩ q⟩
def zS (trs:List (TE × TE)):TE:=λσ H Q=>∀p,H p=none->mU trs σ (upd H p (.dK [])) λps H2=>H2 p=some (.dK [])/\∃kvs:List (Key × V),ps=kvs.map (λkv=>(kV kv.1,kv.2))/\kvs.length<=15/\Q (.ref p) (upd H2 p (.dK (fE [] kvs)))
theorem BN {keys:List (Option Expr)} (h:PPs X pos keys values trs) (F:keys.all (·.isSome)=true) (hl:keys.length=values.length) (h0:keys≠[])
  (Z:keys.length<=15):PE X (.Dict keys values pos) (zS trs):=by
 intro pins s σ H Q I q;have hn:=I.hok.fresh (le_refl s.heap.objs.size);have I1:=I.laid (a:=s.heap.objs.size) (o:=.dK []) (h':=s.heap.push { cls:=.type "dict",data:=.dict #[] }) (t':=s.toks) (λ_ _ q=>Heap.get?_push_of_some _ q) (le_refl _) (uh s.heap I.big)
 refine wpAny_Dict_walk (knd:=aU X.prog X.w) F hl h0 Z (thn (h pins _ σ _ _ I1 (q _ hn)) λws s2 B=>?_)
 obtain⟨ps,H2,I2,Y,e,kvs,ep,lk,q2⟩:=B;subst ep;obtain⟨rs,c,rk⟩:=nG (P:=X.prog) (w:=X.w) Y;obtain⟨z,hd,aa,r0,dd⟩:=fT I2.hok e;cases r0;refine⟨rs,c,dd,λh' U hs=>⟨.ref s.heap.objs.size,_,?_,rfl,q2⟩⟩
 have hz:(fE [] kvs).length<=sizeLine:=by
  have h1:=fc kvs [];rw[length_nil] at h1;rw[sizeLine_eq];omega
 have he : ∃q,h'.get? s.heap.objs.size=some q:=let ⟨q,_,_,hq,_⟩:=U;⟨q,hq⟩
 exact mj I2 (by rw[e];exact True.intro) hs he (Af hz hd (rk.merge .nil) U)
structure M2 (X:Cx) (o:Expr) (m:Str) (apos:Pos) (e f:Expr) (cpos:Pos):Prop where
 base:attributeBase o m X.env (eval o X.env)=eval o X.env
 few:((backTo cpos (starEach [e,f] X.env)).all (λx=>!x.1) && (backToKw cpos (keywordEach [] X.env)).all (λx=>x.1.isSome)
  && decide (([e,f]:List Expr).length+([]:List Keyword).length+(if ([]:List Keyword).isEmpty then 0 else 1) < 30))=true
 line:(apos.endLine == cpos.line)=true
 trees:backTo cpos (starEach [e,f] X.env)=[(false,eval e X.env),(false,eval f X.env)]
def IsD (H:Hp) (a:Addr):Prop:=(∃kvs,Rd H a (.dK kvs))\/∃kvs,Rd H a (.dT kvs)
theorem wz (I:Inv X pins σ H s) (d:IsD H a) :
  s.TypeIs (.ref a) "dict" /\(∀b,Value.ref a = .ref b->∃ob,s.heap.get? b=some ob/\ob.dict=none)/\(a == sysModules)=false:=by
 rcases d with⟨kvs,e⟩ | ⟨kvs,e⟩
 .obtain⟨_,hd,vs,_,dd⟩:=nh I.hok e
  refine⟨dd.typeIs,λb q=>?_,hd⟩
  cases q;obtain⟨ob,_,_,h1,h2,_⟩:=dd;exact⟨ob,h1,h2.2.1⟩
 .obtain⟨_,hd,xs,_,dd⟩:=oA I.hok e
  refine⟨dd.typeIs,λb q=>?_,hd⟩
  cases q;obtain⟨ob,_,_,h1,h2,_⟩:=dd;exact⟨ob,h1,h2.2.1⟩
section
variable {d:V} {r:Value} {o:Option V}
theorem Dz (hu:A.units+1 < cLine) (I:Inv X pins σ H s) (g:pR H a y o) (ry:aY y u) (rd:aY d r) (h : ∀w' s',Inv X pins σ H s'->aY (o.getD d) w'->Q w' s') :
  wpAny (model X.prog X.w) A (call (.builtin "dict.get") [.ref a,u,r]) Q E s:=by
 rcases g with⟨kvs,k,e,Z,l⟩ | ⟨kvs,k,b,e,Z,eb,l⟩
 .subst Z
  obtain⟨z,Y,vs,B,U⟩:=nh I.hok e;refine call_meetsIn PySem.F.slot_dict_get U.typeIs PySem.F.entry_dict_get (PySem.F.args_dict_get_3 _ _ _) (meets_dict_get_default (aU X.prog X.w) a (lc ry) Y r) ⟨_,U.mapOf,h _ _ (I.tok _) ?_⟩
  rw[l];exact(B.val k).getD rd
 .subst Z
  cases (show u=Value.ref b from ry)
  obtain⟨z,Y,xs,B,U⟩:=oA I.hok e;refine call_meetsIn PySem.F.slot_dict_get U.typeIs PySem.F.entry_dict_get (PySem.F.args_dict_get_3 _ _ _) (meetsH_dict_get_default (tupleKind (aU X.prog X.w)) a b Y r) ⟨tupleKind_room_in1 hu,k,xs,kz I.hok eb,U,h _ _ (I.tok _) ?_⟩
  rw[l];exact(B.val k).getD rd
end
def ft (td ty tx:TE):TE:=λσ H Q=>td σ H λx H1=>∃a,x = .ref a/\IsD H1 a/\ty σ H1 λy H2=>tx σ H2 λz B=>∃o,pR B a y o/\Q (o.getD z) B
section
variable {o f:Expr} {tx:TE}
theorem df (hu:X.A.units+1 < cLine) (ho:PE X o td) (he:PE X e ty) (hf:PE X f tx) (m:M2 X o "get" apos e f cpos):PE X (.Call (.Attribute o "get" apos) [e,f] [] cpos) (ft td ty tx):=by
 intro pins s σ H Q I h;refine wpAny_Call_method m.base m.few m.line PySem.F.plainAttrs_dict PySem.F.slot_dict_get PySem.F.type_dict_get (thn (ho pins s σ H _ I h) λu s1 B=>?_)
 obtain⟨x,H1,Y,rx,a,ex,d,q1⟩:=B;subst ex;obtain rfl:u=Value.ref a:=rx
 obtain⟨t1,t2,_⟩:=wz Y d;refine⟨t1,t2,?_⟩
 rw[m.trees];refine Calls.callWith_builtin rfl (Calls.evalArgs_plain (Calls.spliced_cons (thn (he pins s1 σ H1 _ Y q1) λiv s2 ⟨y,H2,I2,ry,q2⟩ =>
  Calls.spliced_cons (thn (hf pins s2 σ H2 _ I2 q2) λfv s3 ⟨z,H3,I3,rz,ov,g,q3⟩=>Calls.spliced_nil ?_))))
 exact Dz hu I3 g ry rz λw' s4 Z U=>⟨_,H3,Z,U,q3⟩
end
end L2
namespace Att
open PySem PySem.W PySem.Calls PyProof.Rows
theorem lz {P:Params} : ∀(ns:List Int) (vs:List Value),WellAll P h vs (ns.map WData.int)->IntsAre vs ns:=by
 intro ns
 induction ns with
 | nil =>
  intro vs w;rw[map_nil] at w;cases w;exact .nil
 | cons n ns z =>
  intro vs w;rw[map_cons] at w;cases w with
  | cons a b =>
   cases a;exact .cons _ _ (z _ b)
theorem yb {l:OpenLaw} (hn:l.most=some n) {P:Params} {h:Heap} {args:List WData} {B:List Value}
  (z:l.row.toRowW.claim.pre args=true) (ac:WellAll P h B args) :
  ∃a vs ns,B=[Value.ref a]/\args=[WData.list (ns.map WData.int)]/\h.get? a=some { cls:=.type "list",data:=.seq vs.toArray }/\IntsAre vs ns/\ns.length<=n:=by
 have aa:WShape.hasAll [] args [.list .int]=true:=(pre_splitW z).1
 have hc:l.pre.holds [] { args:=args }=true:=(pre_splitW z).2
 obtain⟨d,r,rfl,h1,h2⟩:=hasAllW_cons aa;obtain rfl:=hasAllW_nil h2
 obtain⟨xs,rfl,h3⟩:=hasW_list h1;obtain⟨ns,rfl⟩:=items_int h3;have U:ns.length<=n:=by
  unfold OpenLaw.pre at hc;have Y:(WTm.not (.lt (.lit (.int (n:Int))) (.len (.arg 0)))).holds [] { args:=[.list (ns.map .int)] }=true:=by
   have Y:=(holds_andW hc).1;rw[hn] at Y;exact Y
  have Z:=condW_of Y (w_not (w_lt w_lit (w_len_list (w_arg rfl))));rw[length_map] at Z;refine Nat.le_of_not_lt λq=>?_
  have q':(n:Int) < ((ns.length:Nat):Int):=by omega
  first
   | (rw[decide_eq_true q'] at Z;exact absurd Z (by decide))
   | (simp at Z;omega)
 cases ac with
 | cons w1 w2 =>
  cases w2;cases w1 with
  | list ho F=>exact⟨_,_,ns,rfl,rfl,ho,lz ns _ F,U⟩
theorem yz (l:OpenLaw) (args:List WData):l.row.toRowW.claim.post args (.bool true) args=true :=
 postW_of (r:=l.row.toRowW) (X:=(true == true))
  (show WShape.has [] (.bool true) .bool=true by first | rfl | decide | simp[WShape.has,WShape.arms,WShape.armsAll])
  (show(WTm.eq .res (.lit (.bool true))).value [] { args:=args,res:=some (.bool true),after:=args }=some (.bool (true == true)) from w_eq_bool (w_res rfl) w_lit) rfl
theorem attach_call {l:OpenLaw} {d:DefRec}
  (hn:l.most=some n) (aa:d.params.defaults=[])
  (call : ∀(w:World) (z s₁:Shared) (mg mb:Str->Option Value) (fa:Addr) (o:Obj) (pm cd doc:Value) (a:Addr) (vs:List Value) (ns:List Int),
   Ground q loose [] XP w z mg mb s₁.heap->YP w s₁.heap ->
   s₁.heap.get? fa=some o->o.data = .func (docDef d.name d.params d.body d.scope pm cd doc)->s₁.heap.CodeRec cd d.name->mg d.name=some (.ref fa) ->
   s₁.heap.get? a=some { cls:=.type "list",data:=.seq vs.toArray }->IntsAre vs ns->ns.length<=n->s₁.gens = #[] ->
   codeAny (model l.prog w) callerA (.call (.ref fa) ⟨[.ref a],[]⟩) (λr s'=>r = .ok (.ret (.bool true))/\OldK s₁.heap s'.heap/\s'.os=s₁.os/\AllBare s'.gens) s₁) :
  WalkO q loose XP YP l.row.toRowW d [] (λf vs=>PySem.call f vs):=by
 intro w z s₁ mg mb G Y fa o pm cd doc dV kV ho hd ae hD ac hg args af as F ag ah ad ai;obtain rfl:dV = .none:=Dflts.none hD aa
 obtain rfl:kV = .none:=Dflts.noKw hD
 obtain⟨a,vs,ns,rfl,rfl,U,B,Z⟩:=yb hn F ad;refine enter_call (codeAny_mono (call w z s₁ mg mb fa o pm cd doc a vs ns G Y ho (fd_plain hd) ae ac U B Z hg) λr s' hq=>?_)
 obtain⟨rfl,h2,h3,h4⟩:=hq;exact⟨.inl ⟨.bool true,.bool true,[],rfl,λ_=>rfl,.bool true,yz l _,λ_=>⟨List.Pairwise.nil,λ_ hm=>(nomatch hm)⟩⟩,h2,h3,h4⟩
end Att
namespace L2
open PySem PySem.Spec PyProof.Rows
theorem iB : ∀{vs:List Value} {ns:List Int},IntsAre vs ns->aR (ns.map V.int) vs
 | _,_,.nil=>.nil
 | _,_,.cons n t h=>.cons ⟨t,rfl⟩ (iB h)
def cN (s:Stmt):Arguments:=match s with
 | .FunctionDef _ a _ _ _ _ _ _ _ _=>a
 | _=>{ posonlyargs:=[],args:=[],vararg:=none,kwonlyargs:=[],kw_defaults:=[],kwarg:=none,defaults:=[] }
def bT (s:Stmt):List Stmt:=match s with
 | .FunctionDef _ _ b _ _ _ _ _ _ _=>b
 | _=>[]
def ak (s:Stmt):Scope:=match s with
 | .FunctionDef _ _ _ _ _ _ sc _ _ _=>sc
 | _=>{ kind:=.function,names:=[],isGenerator:=false,isCoroutine:=false }
abbrev CX0:CXT:=λ_ _ _ _ _ _=>False
abbrev E0:XK:=λ_ _ _=>False
theorem qv:wf CX0 X E0:=λ_ _ _ _ _ _ _ h=>h.elim
structure Fun (K:PySem.W.Frag) (x qual:Str) (st:Stmt) (f:Addr) (fd:FuncData):Prop where
 ex : ∃(oc:Value) (od:Option Addr) (kV doc pm:Value) (an:Option Addr) (cdv ct:Value) (osl:Array (Option Value)),
  fd=fnOf x qual (cN st) (bT st) (ak st) .none kV doc pm an cdv ct/\K.lookup f=some ⟨oc,od,.func fd,osl⟩/\codeIn K cdv qual=true
 kp:keepIn K (.ref f)=true
section
variable {P:Program} {w:World} {K:PySem.W.Frag} {mg:Str->Option Value} {base:Heap}
theorem Fun.ok (F:Fun K x qual st f fd) (S:aG N ps (ak st)) (len : ∀vs H Q E,sp vs H Q E->vs.length=ps.length)
  (z : ∀(cdv:Value) (A:Around) (outer:List Env) (s:Shared) (H:Hp) (vs:List V) (Q:VK) (E:XK),ci k (A.deeper (envOfC qual (ak st) s.heap.objs.size f cdv))->sp vs H Q E ->
   ∃t,PSs (sB CX0 P w K mg base N qual (ak st) f cdv A outer s H E).nox (bT st) t/\t { nx:=λ_ H'=>Q .non H',rt:=Q } (gh N vs) H):ig P w K mg base CX0 (k+1) f fd ps sp:=by
 obtain⟨oc,od,kV,doc,pm,Z,cdv,ct,osl,rfl,lk,U⟩:=F.ex;refine CU lk U S len λA outer s H vs Q E Y B=>?_
 obtain⟨t,h,q⟩:=z cdv A outer s H vs Q E Y B;exact⟨t,h.nox,q⟩
theorem Fun.binds (F:Fun K x qual st f fd)
  (h : ∀(kV doc pm:Value) (z:Option Addr) (cdv ct:Value) (us:List Value),us.length=ps.length->bindArgs (fnOf x qual (cN st) (bT st) (ak st) .none kV doc pm z cdv ct) ⟨us,[]⟩=pure (ps.zip us)):jB K fd ps []:=by
 obtain⟨oc,od,kV,doc,pm,z,cdv,ct,osl,rfl,lk,B⟩:=F.ex;exact .all (h kV doc pm z cdv ct)
theorem mr {z:Option Addr} {kV:Value} (l:K.lookup f=some ⟨oc,od,.func (fnOf x qual (cN st) (bT st) (ak st) .none kV doc pm z cdv ct),osl⟩)
  (c:codeIn K cdv qual=true) (k:keepIn K (.ref f)=true):Fun K x qual st f (fnOf x qual (cN st) (bT st) (ak st) .none kV doc pm z cdv ct):=⟨⟨oc,od,kV,doc,pm,z,cdv,ct,osl,rfl,l,c⟩,k⟩
end
theorem ue (z:ci k A):A.units+1 < cLine:=Nat.lt_of_le_of_lt (Nat.add_le_add_left (by decide:1<=64) _) z.units
theorem ax (h:n<=1000):n < sizeLine:=Nat.lt_of_le_of_lt h (by decide)
theorem cG {c A B:Prop} [Decidable c] (h1:c->A) (h2 : ¬ c->B):if c then A else B:=by
 by_cases h:c
 .rw[if_pos h]
  exact h1 h
 .rw[if_neg h]
  exact h2 h
def am (H H':Hp):Prop:=∀b o,H b=some o->H' b=some o
theorem am.refl (H:Hp):am H H:=λ_ _ h=>h
theorem am.trans (a:am H H1) (b:am H1 H2):am H H2:=λc o h=>b c o (a c o h)
theorem am.free (e:am H H') {l:Addr} (h:H' l=Option.none):H l=Option.none:=by
 cases q:H l with
 | none=>rfl
 | some o =>
  rw[e l o q] at h;cases h
theorem am.seq (e:am H H') (h:SqL K H a xs):SqL K H' a xs:=by
 rcases h with(h | ⟨o,h⟩) | h
 .exact .inl (.inl (e _ _ h))
 .exact .inl (.inr ⟨o,e _ _ h⟩)
 .exact .inr h
section
variable [DecidableEq κ]
theorem zg {kvs:List (κ × V)} {k:κ} (h:bu kvs k=none) : ¬ k∈kvs.map (·.1):=by
 intro m;obtain⟨p,z,e⟩:=mem_map.mp m;have q:(kvs.any λkv=>decide (kv.1=k))=true:=any_eq_true.mpr ⟨p,z,decide_eq_true e⟩
 rw[dL,h] at q;exact absurd q (by simp)
theorem xH : ∀{l:List κ} {k:κ},l.Nodup->¬ k∈l->(l++[k]).Nodup
 | [],k,_,_=>by simp
 | a :: r,k,h,hk=>by
  obtain⟨h1,h2⟩:=nodup_cons.mp h
  show(a ::(r++[k])).Nodup
  refine nodup_cons.mpr ⟨λm=>?_,xH h2 λm=>hk (mem_cons.mpr (Or.inr m))⟩
  rcases mem_append.mp m with q | q
  .exact h1 q
  .exact hk (mem_cons.mpr (Or.inl (mem_singleton.mp q).symm))
theorem Bm {kvs:List (κ × V)} {k:κ} (v:V) (hn:(kvs.map (·.1)).Nodup) (h:bu kvs k=none):((bp kvs k v).map (·.1)).Nodup:=by
 rw[cF v h,map_append];exact xH hn (zg h)
end
theorem sr {z:Expr} {it acc:Value} (I:Nat->Shared->Prop)
  (ac : ∀ n s,I n s->wpAny (model prog w) A (pyNext it) (λr s₁=>match r with
   | none=>R (.ok .next) s₁
   | some v=>wpAny (model prog w) A (letOwnedTupleGo z it v) (λ_ s₁=>wpAny (model prog w) A (assign z env v) (λ_ Z =>
     wpAny (model prog w) A (forIn ifs true λc r=>if r=true then do let ok <- isTrue c env (eval c env);pure (ForInStep.yield ok) else pure (ForInStep.yield r)) (λok F =>
      if ok=true then wpAny (model prog w) A (eval elt env) (λx aa =>
       wpAny (model prog w) A (call (.builtin "list.append") [acc,x]) (λ_ Y=>∃m,m < n/\I m Y) (notedBy (model prog w) A env λe s'=>R (.error e) s') aa) (notedBy (model prog w) A env λe s'=>R (.error e) s') F
      else ∃m,m < n/\I m F) (notedBy (model prog w) A env λe s'=>R (.error e) s') Z) (notedBy (model prog w) A env λe s'=>R (.error e) s') s₁) (notedBy (model prog w) A env λe s'=>R (.error e) s') s₁) (notedBy (model prog w) A env λe s'=>R (.error e) s') s)
  (n:Nat) (h:I n s) :
  codeAny (model prog w) A (.compLoop (.ListComp elt [⟨z,iter,ifs,0⟩] scope pos) 0 it acc env) R s:=by
 refine codeAny_loop rfl I (λn s hI=>?_) n h
 show wpAny _ A ((compTurn (.ListComp elt [⟨z,iter,ifs,0⟩] scope pos) 0 it acc env).onRaise (λx=>do noteFrame x env;theTreesLotGoes x)) _ _ s
 refine wpAny_noted ?_
 rw[compTurn_list];refine wpAny_bind (wpAny_standAt (wpAny_bind (wpAny_mono (ac n s hI) (λr s₁ B=>?_) λ_ _ h'=>h')))
 cases r with
 | none=>exact wpAny_pure B
 | some v =>
  refine wpAny_bind (wpAny_mono B (λ_ s₁ B=>?_) λ_ _ h'=>h')
  refine wpAny_bind (wpAny_mono B (λ_ Z ad=>wpAny_bind (wpAny_mono ad (λok F U=>?_) λ_ _ h'=>h')) λ_ _ h'=>h')
  cases ok with
  | false=>exact wpAny_pure ⟨rfl,U⟩
  | true =>
   exact wpAny_bind (wpAny_bind (wpAny_mono U (λx aa ae=>wpAny_bind (wpAny_mono ae (λ_ Y af=>wpAny_pure (wpAny_pure ⟨rfl,af⟩)) λ_ _ h'=>h')) λ_ _ h'=>h'))
def PTs (X:Cx) (ifs:List Expr) (t:TT):Prop :=
 ∀ (pins:List (Addr × Obj)) (s:Shared) (σ:St) (H:Hp) (Q:Bool->Hp->Prop),Inv X pins σ H s->t σ H Q ->
  wpAny (model X.prog X.w) X.A (forIn ifs true λc r=>if r=true then do let ok <- isTrue c X.env (eval c X.env);pure (ForInStep.yield ok) else pure (ForInStep.yield r)) (TP X pins σ Q) X.xe s
def pT:TT:=λ_ H Q=>Q true H
theorem aV:PTs X [] pT:=λ_ _ _ H _ I h=>wpAny_tests_nil ⟨H,I,h⟩
theorem rE {c:Expr} {t:TT} (z:PT X c t):PTs X [c] t:=λpins s σ H Q I h=>wpAny_tests_one (z pins s σ H Q I h)
theorem jh {env:Env} : ∀(names:List (Str × NameKind)) (acc:List (Str × Addr)),(∀x∈names,x.2 = .free->∃c,env.cells.lookup x.1=some c) ->
  ∃ cl,(forIn (m:=Sem) names acc λx r=>match x with
   | (name,kind)=>if (kind == NameKind.free)=true then do let c <- cellOf env name;pure (ForInStep.yield ((name,c) :: r)) else pure (ForInStep.yield r))=pure cl /\
   (∀x c,cl.lookup x=some c->acc.lookup x=some c\/env.cells.lookup x=some c)/\(∀x,(acc.lookup x).isSome=true->(cl.lookup x).isSome=true)/\(∀x,(x,NameKind.free)∈names->(cl.lookup x).isSome=true)
 | [],acc,_=>⟨acc,rfl,λx c h=>.inl h,λx h=>h,λx h=>nomatch h⟩
 | (n, k) :: r,acc,h=>by
  by_cases B:k = .free
  .subst B
   obtain⟨c,U⟩:=h (n,.free) mem_cons_self rfl;obtain⟨cl,e,h1,h2,F⟩:=jh r ((n,c) :: acc) (λx z=>h x (mem_cons_of_mem _ z))
   refine⟨cl,?_,λx d Y=>?_,λx z=>h2 x ?_,λx z=>?_⟩
   .simp only[forIn_cons,beq_self_eq_true,if_true,cellOf,U]
    exact e
   .rcases h1 x d Y with q | q
    .simp only[lookup_cons] at q
     split at q
     .rename_i hb
      have:x=n:=by simpa using hb
      subst this;cases q;exact .inr U
     .exact .inl q
    .exact .inr q
   .simp only[lookup_cons]
    split
    .rfl
    .exact z
   .rcases mem_cons.mp z with q | q
    .cases q
     exact h2 n (by simp)
    .exact F x q
  .obtain⟨cl,e,h1,h2,F⟩:=jh r acc (λx z=>h x (mem_cons_of_mem _ z))
   refine⟨cl,?_,h1,h2,λx z=>?_⟩
   .have:(k == NameKind.free)=false:=by simpa using B
    simp only[forIn_cons,this,Bool.false_eq_true,if_false];exact e
   .rcases mem_cons.mp z with q | q
    .cases q
     exact absurd rfl B
    .exact F x q
def dG (nt:Nat) (js:List Nat) (σ:St):St:=replicate nt none++js.map λj=>(σ[j]?).join
def Wk (σ0 z:St):Prop:=σ0.length=z.length/\∀(i:Nat) v,σ0[i]? = some (some v)->z[i]? = some (some v)
def AC (g:TG) (nt:Nat):Prop:=∀(x:V) (σ0:St) (H:Hp) (Q:St->Hp->Prop),(∀i,i < nt->σ0[i]? = some none)->g x σ0 H Q->g x σ0 H λz H2=>Wk σ0 z/\Q z H2
theorem Wk.set {σ0:St} {i:Nat} {v:V} (h:σ0[i]? = some none):Wk σ0 (σ0.set i (some v)):=by
 refine⟨by simp,λj w e=>?_⟩
 by_cases z:j=i
 .subst z;rw[h] at e;cases e
 .rw[List.getElem?_set_ne (Ne.symm z)];exact e
theorem Wk.trans {a b c:St} (h:Wk a b) (h':Wk b c):Wk a c:=⟨h.1.trans h'.1,λi v e=>h'.2 i v (h.2 i v e)⟩
theorem aP {i:Nat} (hi:i < nt:=by decide):AC (dW i) nt:=λx σ0 H Q h q=>⟨Wk.set (h i hi),q⟩
theorem on : ∀i,i < nt->(dG nt js σ)[i]? = some none:=λi hi=>by
 unfold dG;rw[List.getElem?_append_left (by simpa using hi)]
 simp[hi]
def wT (nt:Nat) (js:List Nat) (wi:TI) (g:TG) (tc:TT) (te:TE):TE:=λσ H Q=>wi σ H λJ H1=>∀D,H1 D=none->∃W:Nat->Nat->List V->Hp->Prop,(∃m,W 0 m [] (upd H1 D (.lst []))) /\
 ∀ i m ys H2,W i m ys H2->(J.stop i H2/\Q (.ref D) H2)\/(J.go i H2/\∃N:List V->Hp->Prop,(∀B H',N B H'->∃F,F < m/\W (i+1) F B H') /\
  ∀x H',J.yld i H2 x H'->g x (dG nt js σ) H' λz Z=>tc z Z λb U=>if b=true then te z U λy Y=>Y D=some (.lst ys)/\ys.length < sizeLine/\N (ys++[y]) (upd Y D (.lst (ys++[y]))) else N ys U)
theorem dX {env:Env} : ∀{names:List (Str × NameKind)} {x:Str},names.lookup x=some .free ->
  ((names.map λ(n,k)=>if (k == NameKind.free && env.scope.kind == .function && env.kindOf n == some .cell) then(n,NameKind.cell) else(n,k)).lookup x=some .cell\/(names.map λ(n,k)=>if (k == NameKind.free && env.scope.kind == .function && env.kindOf n == some .cell) then(n,NameKind.cell) else(n,k)).lookup x=some .free)
 | [],_,h=>by simp at h
 | (n,k) :: r,x,h=>by
  have B:=@dX env r x;simp only[map_cons];cases z:x == n with
  | true =>
   simp only[lookup_cons,z] at h;cases h
   by_cases q:(NameKind.free == NameKind.free && env.scope.kind == .function && env.kindOf n == some .cell)=true
   .rw[if_pos q];simp only[lookup_cons,z];simp
   .rw[if_neg q];simp only[lookup_cons,z];simp
  | false =>
   simp only[lookup_cons,z] at h
   by_cases q:(k == NameKind.free && env.scope.kind == .function && env.kindOf n == some .cell)=true
   .rw[if_pos q];simp only[lookup_cons,z];exact B h
   .rw[if_neg q];simp only[lookup_cons,z];exact B h
theorem Inv.wk {Y:Cx} {z:St} (I:Inv Y pins z H s) (h:Wk σ0 z):Inv Y pins σ0 H s:=I.weak h.1 h.2
end L2
namespace PySem
open Sem (wp)
theorem yF:typeLookup (.type "list_reverseiterator") "__len__" = pure none:=by rw[typeLookup_type,builtinLookup_eq_fast];kernel_rfl
theorem yR:typeLookup (.type "list_reverseiterator") "__length_hint__" = pure (some (.builtin "list_reverseiterator.__length_hint__")):=by rw[typeLookup_type,builtinLookup_eq_fast];kernel_rfl
theorem vP (hh:A.handled=none) (S:Addr) (res:Value) (aa:Nat) (hS:s.heap.get? S=some { cls:=.type "list",data:=.seq #[] aa })
  {I l:Addr} {items:Array Value} (hi:s.heap.IsRevIter I l ((items.size:Int) - 1)) (hl:s.heap.IsList l items) (aj:l≠I) (Y:S≠I) (ai:S≠l)
  (hR : ∀h' tk z c',(∀b o,b≠S->b≠I->s.heap.get? b=some o->h'.get? b=some o)->h'.get? S=some { cls:=.type "list",dict:=none,data:=.seq z c',slots := #[] } ->
   ItemsOf (λi v=>items[items.size - 1 - i]? = some v) z items.size->R (.ok (.ret res)) { s with heap:=h',toks:=tk }) (hn:items.size<=sizeLine) :
  wpAny (model prog w) A.in1 (Builtin.List.listExtendWith (.ref S) (.ref I) res)
   (λaf s'=>match af with | .done f=>R (.ok f) s' | .again c'=>c'.quiet=true/\codeAny (model prog w) A c' R s') (λe s'=>R (.error e) s') s:=by
 have W:=(Walks.listRev (prog:=prog) (w:=w) (A:=A.in1) hh I l aj items);have ag:S∉[I,l]:=λhm=>by
  rcases mem_cons.mp hm with e | e
  .exact Y e
  .exact ai (mem_singleton.mp e)
 have ac:0<=items.size/\s.heap.IsRevIter I l ((items.size:Int) - 1 - ((0:Nat):Int))/\s.heap.IsList l items:=⟨zero_le _,by simpa using hi,hl⟩
 unfold Builtin.List.listExtendWith;refine wpAny_bind (wpAny_typeOf hi.typeIs ?_)
 have h1:Builtin.List.listSameRef (.ref S) (.ref I)=false:=by simp[Builtin.List.listSameRef,Y]
 have h2:(Value.type "list_reverseiterator" == Value.type "list")=false:=by decide
 have h3:(Value.type "list_reverseiterator" == Value.type "tuple")=false:=by decide
 simp only[h1,h2,h3,Bool.or_false,Bool.false_eq_true,if_false];refine wpAny_bind (W.self 0 _ _ _ ac ?_)
 refine wpAny_bind (wpAny_holding ?_)
 unfold Builtin.List.listLengthHint;refine wpAny_bind (wpAny_specialOf hi.typeIs yF ?_)
 show wpAny _ A.in1 (specialOf (Value.ref I) (Str.ofString "__length_hint__") >>= _) _ _ _
 refine wpAny_bind (wpAny_specialOf hi.typeIs yR ?_)
 (generalize U:("list_reverseiterator.__length_hint__" : String)=ad;(fail_if_success (clear U ad));wp_delta;rw[show splitId ad=some ("list_reverseiterator","__length_hint__") from by subst U;decide+kernel];subst U)
 refine wpAny_bind (wpAny_isInstance (b:=true) hi.typeIs (by rw[isSubtype_type];kernel_rfl) ?_)
 refine wpAny_pure ?_
 rw[if_neg (by decide)]
 refine wpAny_pure ⟨plainId_quiet F.plain_extend_loop _,codeAny_extend_loopS W.toS hn _ ag _ items.size 0 _ _ _ rfl (zero_le _) ac hS (ItemsOf.nil _) λs' z c' hm ae Z=>?_⟩
 rw[Moved.eq_with hm];refine hR s'.heap s'.toks z c' (λb ob hb ah e=>hm.heap b ob (λB=>?_) e) ae Z
 rcases mem_cons.mp B with e' | B
 .exact hb e'
 .exact ah (mem_singleton.mp B)
theorem pA (hh:A.handled=none) (S:Addr) (hS:s.heap.get? S=some { cls:=.type "list",data:=.seq #[] })
  {I l:Addr} {items:Array Value} (hi:s.heap.IsRevIter I l ((items.size:Int) - 1)) (hl:s.heap.IsList l items) (af:l≠I) (U:S≠I) (Z:S≠l)
  (hR : ∀h' tk z c',(∀b o,b≠S->b≠I->s.heap.get? b=some o->h'.get? b=some o)->h'.get? S=some { cls:=.type "list",dict:=none,data:=.seq z c',slots := #[] } ->
   ItemsOf (λi v=>items[items.size - 1 - i]? = some v) z items.size->R (.ok (.ret .none)) { s with heap:=h',toks:=tk }) (hn:items.size<=sizeLine) :
  wpAny (model prog w) A.in1 (Builtin.«list.__init__» ⟨[.ref S,.ref I],[]⟩)
   (λac s'=>match ac with | .done f=>R (.ok f) s' | .again c'=>c'.quiet=true/\codeAny (model prog w) A c' R s') (λe s'=>R (.error e) s') s:=by
 show wpAny _ _ (do let ae <- Builtin.List.listItems (.ref S);Builtin.List.listUpdate (.ref S) (λ_ => #[]);letGo ae.toList.reverse;Builtin.List.listExtendWith (.ref S) (.ref I) .none) _ _ s
 refine wpAny_bind ?_
 unfold Builtin.List.listItems;refine wpAny_bind (wpAny_seqItems hS rfl (wpAny_pure ?_))
 show wpAny _ _ (updateSeq S (λ_ => #[]) >>= λ_=>letGo (#[]:Array Value).toList.reverse >>= λ_=>Builtin.List.listExtendWith (.ref S) (.ref I) .none) _ _ s
 refine wpAny_bind (wpAny_updateSeq hS rfl ?_)
 have F:=Heap.get?_update_self (Obj.mapSeq (λ_=>(#[]:Array Value))) hS rfl
 have B : ∀b o,b≠S->s.heap.get? b=some o->(s.heap.update S (Obj.mapSeq (λ_=>(#[]:Array Value)))).get? b=some o :=
  λb o hb e=>(Heap.get?_update_other _ _ (Ne.symm hb)).trans e
 refine wpAny_bind (wpAny_letGo ?_)
 refine vP (s:={ s with heap:=s.heap.update S (Obj.mapSeq (λ_=>(#[]:Array Value))) }) hh S .none _ F (hi.at λo e=>B _ o (Ne.symm U) e) (hl.at λo e=>B _ o (Ne.symm Z) e) af U Z (λh' tk z c' hk aa Y=>?_) hn
 exact hR h' tk z c' (λb o hb ad e=>hk b o hb ad (B b o hb e)) aa Y
theorem pM (hh:A.handled=none) {I l:Addr} {items:Array Value} (hi:s.heap.IsRevIter I l ((items.size:Int) - 1)) (hl:s.heap.IsList l items) (ad:l≠I)
  (hQ : ∀h' tk z c',(∀b o,b≠I->s.heap.get? b=some o->h'.get? b=some o) ->
   h'.get? s.heap.objs.size=some { cls:=.type "list",dict:=none,data:=.seq z c',slots := #[] }->ItemsOf (λi v=>items[items.size - 1 - i]? = some v) z items.size->Q (.ref s.heap.objs.size) { s with heap:=h',toks:=tk }) (hn:items.size<=sizeLine) :
  wpAny (model prog w) A (call (.type "list") [.ref I]) Q E s:=by
 refine callType_codes (Q₁:=λY s₁=>Y = .ref s.heap.objs.size/\s₁={ s with heap:=s.heap.push { cls:=.type "list",data:=.seq #[] } }) F.called_list (F.typeCall_list_1 _) F.entry_list_init
  (code_list_new _ ⟨rfl,rfl⟩) λY s₁ B=>?_
 obtain⟨rfl,rfl⟩:=B;have hS:(s.heap.push { cls:=.type "list",data:=.seq #[] }).get? s.heap.objs.size=some { cls:=.type "list",data:=.seq #[] }:=Heap.get?_push_size _ rfl
 have up : ∀b o,s.heap.get? b=some o->(s.heap.push { cls:=.type "list",data:=.seq #[] }).get? b=some o:=λb o e=>Heap.get?_push_of_some _ e
 obtain⟨oi,ac,_⟩:=id hi;obtain⟨ol,aa,_⟩:=id hl;refine⟨⟨_,hS,rfl⟩,F.args_list_init_2 _ _,pA (s:={ s with heap:=s.heap.push { cls:=.type "list",data:=.seq #[] } }) (A:=A.in1) hh _ hS (hi.at λo e=>up _ o e) (hl.at λo e=>up _ o e) ad (ne_of_gt (Heap.lt_size ac)) (ne_of_gt (Heap.lt_size aa)) (λh' tk z c' hk Z U=>?_) hn⟩
 exact⟨rfl,hQ h' tk z c' (λb o hb e=>hk b o (ne_of_lt (Heap.lt_size e)) hb (up b o e)) Z U⟩
end PySem
namespace L2
open PySem PySem.Spec PyProof.Rows
mutual
inductive Rep (K:PySem.W.Frag) (H:Hp):V->PyData->Prop
 | non:Rep K H .non .none
 | bl (b:Bool):Rep K H (.bl b) (.bool b)
 | int (i:Int):Rep K H (.int i) (.int i)
 | str (x:Str):Rep K H (.str x) (.str x)
 | tup {a:Addr} {vs:List V} {ds:List PyData}:SqT K H a vs->cj K H vs ds->Rep K H (.ref a) (.tuple ds)
 | lst {a:Addr} {vs:List V} {ds:List PyData}:SqL K H a vs->cj K H vs ds->Rep K H (.ref a) (.list ds)
inductive cj (K:PySem.W.Frag) (H:Hp):List V->List PyData->Prop
 | nil:cj K H [] []
 | cons {v:V} {vs:List V} {d:PyData} {ds:List PyData}:Rep K H v d->cj K H vs ds->cj K H (v :: vs) (d :: ds)
end
theorem am.seqT (e:am H H') (h:SqT K H a xs):SqT K H' a xs:=by
 rcases h with(h | ⟨o,h⟩) | h
 .exact .inl (.inl (e _ _ h))
 .exact .inl (.inr ⟨o,e _ _ h⟩)
 .exact .inr h
theorem cj.ints {K:PySem.W.Frag} {H:Hp} : ∀(ns:List Int),cj K H (ns.map V.int) (ns.map PyData.int)
 | []=>.nil
 | _ :: ns=>.cons (.int _) (cj.ints ns)
theorem cj.strs {K:PySem.W.Frag} {H:Hp} : ∀(ns:List Str),cj K H (ns.map V.str) (ns.map PyData.str)
 | []=>.nil
 | _ :: ns=>.cons (.str _) (cj.strs ns)
mutual
theorem Inv.reads (I:Inv X pins σ H s) : ∀{v:V} {d:PyData} {u:Value},Rep X.K H v d->aY v u->∃as,Reads s.heap u d as
 | _,_,_,.non,r=>by cases r;exact⟨_,.none⟩
 | _,_,_,.bl b,r=>by cases r;exact⟨_,.bool b⟩
 | _,_,_,.int b,r=>by obtain⟨t,rfl⟩:=r;exact⟨_,.int b t⟩
 | _,_,_,.str b,r=>by obtain⟨t,rfl⟩:=r;exact⟨_,.str b t⟩
 | _,_,_,.tup h q,r=>by
  cases r;obtain⟨its,z,⟨o,F,B,n,U⟩,_⟩:=I.tuple h;obtain⟨as,ra⟩:=Inv.readsAll I q z;exact⟨_,.tuple F B U (by simpa using ra)⟩
 | _,_,_,.lst h q,r=>by
  cases r;obtain⟨its,z,⟨o,n,F,B,_,U⟩,_⟩:=I.list h;obtain⟨as,ra⟩:=Inv.readsAll I q z;exact⟨_,.list F B U (by simpa using ra)⟩
theorem Inv.readsAll (I:Inv X pins σ H s) : ∀{v:List V} {d:List PyData} {u:List Value},cj X.K H v d->aR v u->∃as,ReadsAll s.heap u d as
 | _,_,_,.nil,r=>by cases r;exact⟨_,.nil⟩
 | _,_,_,.cons h q,r=>by
  cases r with
  | cons B z =>
   obtain⟨as,ra⟩:=Inv.reads I h B;obtain⟨bs,rb⟩:=Inv.readsAll I q z;exact⟨_,.cons ra rb⟩
end
section
variable {a b c:Expr} {tc:TE}
def Ij (K:PySem.W.Frag):R2:=λx y H Q=>∃dx z,Rep K H x dx/\Rep K H y z/\dx.canLay0=true/\z.canLay0=true/\dx.depth<=100/\Q (.bl (PyData.eqv dx z)) H
def DX (K:PySem.W.Frag):R2:=λx y H Q=>∃dx z,Rep K H x dx/\Rep K H y z/\dx.canLay0=true/\z.canLay0=true/\dx.depth<=100/\Q (.bl (!PyData.eqv dx z)) H
theorem vm (hu:X.A.units+100 < cLine):OpR X (compareOp .Eq) (Ij X.K):=by
 intro pins s σ H x y v u Q I z Z h;obtain⟨dx,dy,h1,h2,F,B,h5,q⟩:=h;obtain⟨as,Y⟩:=I.reads h1 z;obtain⟨bs,U⟩:=I.reads h2 Z;exact PySem.SeqAt.compareEq_reads Y U F B (by omega) ⟨.bl _,H,I,rfl,q⟩
theorem rR (hu:X.A.units+100 < cLine):OpR X (compareOp .NotEq) (DX X.K):=by
 intro pins s σ H x y v u Q I z Z h;obtain⟨dx,dy,h1,h2,F,B,h5,q⟩:=h;obtain⟨as,Y⟩:=I.reads h1 z;obtain⟨bs,U⟩:=I.reads h2 Z;exact PySem.SeqAt.compareNe_reads Y U F B (by omega) ⟨.bl _,H,I,rfl,q⟩
theorem yO:OpR X (compareOp .LtE) (λx y H Q=>∃i j,x = .str i/\y = .str j/\Q (.bl (!decide (j.cps.toList < i.cps.toList))) H):=by
 intro pins s σ H x y v u Q I z B h;obtain⟨i,j,rfl,rfl,q⟩:=h;obtain⟨t,rfl⟩:=z;obtain⟨t',rfl⟩:=B;exact PySem.P.le_str (bf I q rfl)
def HU (K:PySem.W.Frag):List V->Hp->VK->Prop:=λxs H Q=>∃x t T k,xs=[x,.ty T]/\kO K H x t/\kitOne K t (.type T)=some k/\Q (.bl k) H
theorem AY:bE X (.builtin "isinstance") (HU X.K):=by
 intro pins s σ H xs us Q I r h;obtain⟨x,t,T,k,rfl,ty,e,q⟩:=h;obtain⟨u,F,rfl,B,z⟩:=tF r;cases z;exact yA I B ty e λtk=>⟨.bl k,H,I.tok tk,rfl,q⟩
theorem yY (F:Gl X x) (B:X.mg x=none) (z:bootBuiltins x=some (.type T)) (hn:x ≠ "__name__" := by decide) (U:(x ==("__debug__" : Str))=false:=by decide):PE X (.Name x pos) (tC (.ty T)) :=
 Bv F B z rfl hn U
theorem gV {its:Array Value} {bs:List Bool} (h:aR (bs.map V.bl) its.toList):TruthOf prog w A (λi v=>its[i]? = some v) (λi=>bs.getD i true):=by
 intro i v s Q E hP B;have h1:its.toList[i]? = some v:=by simpa using hP
 have z:i < its.toList.length:=(List.getElem?_eq_some_iff.mp h1).1
 have hl:=h.length;have U:i < bs.length:=by rw[<- hl] at z;simpa using z
 obtain⟨u,F,Y⟩:=h.get (i:=i) (x:=V.bl bs[i]) (by simp[U])
 rw[h1] at F;cases F;cases Y;refine wpAny_truthy_bool ?_
 have e:bs.getD i true=bs[i]:=by simp[List.getD,U]
 show Q bs[i] s
 have B:Q (bs.getD i true) s:=B
 rw[e] at B;exact B
theorem yn (bs:List Bool):(range bs.length).all (λi=>bs.getD i true)=bs.all id:=by
 rw[Bool.eq_iff_iff];simp only[all_eq_true,mem_range]
 constructor
 .intro h b hb
  obtain⟨i,hi,e⟩:=List.getElem_of_mem hb;have:=h i hi
  simp[List.getD,hi,e] at this
  simpa using this
 .intro h i hi
  have:=h bs[i] (List.getElem_mem hi)
  simpa [List.getD,hi] using this
theorem ya (bs:List Bool):(range bs.length).any (λi=>bs.getD i true)=bs.any id:=by
 rw[Bool.eq_iff_iff];simp only[any_eq_true,mem_range]
 constructor
 .rintro⟨i,hi,e⟩
  refine⟨bs[i],List.getElem_mem hi,?_⟩
  simpa [List.getD,hi] using e
 .rintro⟨b,hb,e⟩
  obtain⟨i,hi,z⟩:=List.getElem_of_mem hb;refine⟨i,hi,?_⟩
  simp only[List.getD,List.getElem?_eq_getElem hi,getD_some,z];exact e
def Do (K:PySem.W.Frag):List V->Hp->VK->Prop:=λxs H Q=>∃(p:Addr) (bs:List Bool),xs=[.ref p]/\SqL K H p (bs.map V.bl)/\Q (.bl (bs.all id)) H
def Dh (K:PySem.W.Frag):List V->Hp->VK->Prop:=λxs H Q=>∃(p:Addr) (bs:List Bool),xs=[.ref p]/\SqL K H p (bs.map V.bl)/\Q (.bl (bs.any id)) H
theorem vQ (Z:X.calm=true):bE X (.builtin "all") (Do X.K):=by
 intro pins s σ H xs us Q I r h;obtain⟨p,bs,rfl,hq,q⟩:=h;obtain⟨u,rfl,Y⟩:=cI r;cases Y;obtain⟨its,B,pl,hz⟩:=I.list hq;refine call_all_walk (wpAny_pyIter_list pl.isList ?_)
 have z:p≠s.heap.objs.size:=by
  obtain⟨o,n,U,_⟩:=pl;exact ne_of_lt (Heap.lt_size U)
 refine⟨_,_,_,_,_,_,λi=>bs.getD i true,rfl,Walks.list (A:=X.A.in1) (I.ok.hd Z) _ p z its.toArray,⟨⟨_,Heap.get?_push_size _ rfl,rfl,rfl⟩,pl.isList.at λo e=>Heap.get?_push_of_some _ e⟩,gV (by simpa using B),λh' tk F=>?_⟩
 have hl:its.toArray.size=bs.length:=by have:=B.length;simp at this ⊢;omega
 rw[hl,yn];exact⟨.bl (bs.all id),H,I.kept λb o e=>F b o (by simp;exact ne_of_lt (Heap.lt_size e)) (Heap.get?_push_of_some _ e),rfl,q⟩
theorem vi (Z:X.calm=true):bE X (.builtin "any") (Dh X.K):=by
 intro pins s σ H xs us Q I r h;obtain⟨p,bs,rfl,hq,q⟩:=h;obtain⟨u,rfl,Y⟩:=cI r;cases Y;obtain⟨its,B,pl,hz⟩:=I.list hq;refine call_any_walk (wpAny_pyIter_list pl.isList ?_)
 have z:p≠s.heap.objs.size:=by
  obtain⟨o,n,U,_⟩:=pl;exact ne_of_lt (Heap.lt_size U)
 refine⟨_,_,_,_,_,_,λi=>bs.getD i true,rfl,Walks.list (A:=X.A.in1) (I.ok.hd Z) _ p z its.toArray,⟨⟨_,Heap.get?_push_size _ rfl,rfl,rfl⟩,pl.isList.at λo e=>Heap.get?_push_of_some _ e⟩,gV (by simpa using B),λh' tk F=>?_⟩
 have hl:its.toArray.size=bs.length:=by have:=B.length;simp at this ⊢;omega
 rw[hl,ya];exact⟨.bl (bs.any id),H,I.kept λb o e=>F b o (by simp;exact ne_of_lt (Heap.lt_size e)) (Heap.get?_push_of_some _ e),rfl,q⟩
theorem ll (ns:List Int) : ∀n,n<=ns.length->preSum (λi=>ns.getD i 0) n=(ns.take n).sum
 | 0,_=>by simp[preSum]
 | n+1,h=>by
  have z:=ll ns n (by omega)
  have e:ns[n]? = some (ns[n]'(by omega)):=by simp
  show preSum (λi=>ns.getD i 0) n+ns.getD n 0=_
  rw[z,take_add_one,e,List.sum_append,List.getD,e];simp
theorem sQ (ns:List Int):preSum (λi=>ns.getD i 0) ns.length=ns.sum:=by
 rw[ll ns _ (le_refl _),take_length]
def Bn (K:PySem.W.Frag):List V->Hp->VK->Prop:=λxs H Q=>∃(p:Addr) (ns:List Int),xs=[.ref p]/\SqL K H p (ns.map V.int)/\Q (.int ns.sum) H
theorem vh (hc:X.calm=true):bE X (.builtin "sum") (Bn X.K):=by
 intro pins s σ H xs us Q I r h;obtain⟨p,ns,rfl,hq,q⟩:=h;obtain⟨u,rfl,rx⟩:=cI r;cases rx;obtain⟨its,Y,pl,hz⟩:=I.list hq;refine call_sum_walkG (wpAny_pyIter_list pl.isList ?_)
 have F:p≠s.heap.objs.size:=by
  obtain⟨o,n,U,_⟩:=pl;exact ne_of_lt (Heap.lt_size U)
 refine⟨_,_,_,_,_,_,λi=>ns.getD i 0,rfl,Walks.list (A:=X.A.in1) (I.ok.hd hc) _ p F its.toArray,⟨⟨_,Heap.get?_push_size _ rfl,rfl,rfl⟩,pl.isList.at λo e=>Heap.get?_push_of_some _ e⟩,λb B=>?_,λi v hv=>?_,λh' tk t' hk=>?_⟩
 .obtain⟨o,n,U,_⟩:=pl
  rcases mem_cons.mp B with e | e
  .rw[e];exact lt_of_lt_of_le (Nat.lt_succ_self _) (by simp)
  .rw[mem_singleton.mp e];exact lt_of_lt_of_le (Heap.lt_size U) (by simp)
 .have h1:its[i]? = some v:=by simpa using hv
  have z:i < its.length:=(List.getElem?_eq_some_iff.mp h1).1
  have hl:=Y.length;have B:i < ns.length:=by rw[<- hl] at z;simpa using z
  obtain⟨u,Z,t,ru⟩:=Y.get (i:=i) (x:=V.int ns[i]) (by simp[B])
  rw[h1] at Z;cases Z;exact⟨t,by rw[ru];simp[List.getD,B]⟩
 .have hl:its.toArray.size=ns.length:=by have:=Y.length;simp at this ⊢;omega
  rw[hl,sQ];exact⟨.int ns.sum,H,I.kept λb o e=>hk b o (by simp;exact ne_of_lt (Heap.lt_size e)) (Heap.get?_push_of_some _ e),⟨t',rfl⟩,q⟩
def nj (t:TE):TE:=λσ H Q=>t σ H λx H1=>∃p,x = .ref p/\∃ys,H1 p=some (.lst ys)/\∀l,H1 l=none->Q (.ref l) (upd H1 l (.lst ys.reverse))
end
section
variable {a b c:Expr} {tc:TE} {p:Pos}
theorem vU (hc:X.calm=true) (hg:Gl X "list") (hm:X.mg "list" = none) (ac:Gl X "reversed") (aa:X.mg "reversed" = none) (he:PE X e te) (U:starEach [e] X.env=[(false,eval e X.env)]:=by rfl) :
  PE X (.Call (.Name "list" p) [.Call (.Name "reversed" p2) [e] [] pos2] [] pos) (nj te):=by
 intro pins s σ H Q I h;refine wpAny_Call_Name_kw (dU I hg hm (by decide+kernel:bootBuiltins "list" = some (.type "list")) ?_)
 refine PyProof.Rows.callWith_type1 (Calls.spliced_cons ?_) rfl rfl
 refine wpAny_Call_Name_kw (dU I ac aa boot_reversed ?_)
 refine PyProof.Rows.callWith_type1 (Q:=_) ?_ U rfl
 rw[U];refine Calls.spliced_cons (thn (he pins s σ H _ I h) λu F ⟨x,H1,I1,r1,pp,e1,ys,hq',q⟩=>Calls.spliced_nil ?_)
 subst e1;cases r1;have hq:SqL X.K H1 pp ys:=.of hq'
 obtain⟨its,rv,pl,hz⟩:=I1.list hq;have ae:=rv.length;refine call_reversed_list pl.isList ?_
 have ad:pp < F.heap.objs.size:=by
  obtain⟨o,n,ho,_⟩:=pl;exact Heap.lt_size ho
 refine Calls.spliced_nil (pM (I.ok.hd hc) (I:=F.heap.objs.size) (l:=pp) (items:=its.toArray) ⟨_,Heap.get?_push_size _ rfl,rfl,rfl⟩ (pl.isList.at λo e=>Heap.get?_push_of_some _ e) (ne_of_lt ad) (λh' tk z c' hk hS B=>?_) (by simp only[size_toArray];omega))
 have kp : ∀b o,F.heap.get? b=some o->h'.get? b=some o:=λb o e=>hk b o (ne_of_lt (Heap.lt_size e)) (Heap.get?_push_of_some _ e)
 have Z:z=its.reverse.toArray:=by
  apply Array.ext_getElem?
  intro i;have Y:=B.1;simp only[size_toArray] at Y
  by_cases hi:i < its.length
  .have h1:z[i]? = some (z[i]'(by omega)):=by simp[Y,hi]
   have h2:=B.2 i _ h1;rw[h1,<- h2];simp only[size_toArray,List.getElem?_toArray];rw[List.getElem?_reverse hi]
  .simp only[List.getElem?_toArray]
   rw[Array.getElem?_eq_none (by omega),List.getElem?_eq_none (by simp;omega)]
 subst Z;have hsz:F.heap.objs.size<=(F.heap.push (revObj pp ((its.toArray.size:Int) - 1))).objs.size:=by rw[Heap.size_push];exact le_succ _
 exact⟨.ref (F.heap.push (revObj pp ((its.toArray.size:Int) - 1))).objs.size,upd H1 _ (.lst ys.reverse),I1.laid (t':=tk) kp hsz ⟨by simp;omega,its.reverse,c',rv.reverse,hS⟩,rfl,q _ (I1.hok.fresh hsz)⟩
def Its (x:Str):It:=⟨λi _=>i < x.length,λi H v H'=>H'=H/\∃c,x.cps[i]? = some c/\v = .str ⟨#[c]⟩,λi _=>x.length<=i⟩
theorem yo (it:Addr) (x:Str) (t:Tok):uW P w K tg (Its x) [it] it (λi h=>h.IsStrIter it "str_ascii_iterator" x t i) where
 mem:=by simp
 obj:=λi h st b F=>by
  have e:b=it:=by simpa using F
  subst e;obtain⟨o,e,c,d⟩:=st;exact⟨o,e,λv z=>by rw[d] at z;cases z⟩
 keep:=λi h h' st k=>let ⟨o,ho,r⟩:=st;⟨o,k it (by simp) o ho,r⟩
 item:=by
  intro X hP hw hK Z i pins s σ H E I Y st B;subst hP hw hK;obtain⟨f0,f1,f2,f3,f4,f5⟩:=Y it (by simp)
  have B:i < x.cps.size:=B
  refine wpAny_pyNext_ascii_item st (c:=x.cps[i]'B) (by simp) λh' U sb=>?_
  have I1:Inv X pins σ H { s with heap:=h',toks:=s.toks+1 }:=I.turned (λb o F e=>(sb.2 b F).trans e) f0 f1 f3 f4 f5
  obtain⟨o,e,c,d⟩:=id U;exact⟨_,rfl,qB (s:={ s with heap:=h',toks:=s.toks+1 }) e c d (by decide) ⟨.str ⟨#[x.cps[i]'B]⟩,H,I1,⟨_,rfl⟩,⟨rfl,_,by simp,rfl⟩,U,λb F=>(Y b F).1⟩⟩
 done:=by
  intro X hP hw hK Z i pins s σ H E I Y st B;subst hP hw hK;have B:x.cps.size<=i:=B
  obtain⟨f0,f1,f2,f3,f4,f5⟩:=Y it (by simp)
  exact wpAny_pyNext_ascii_end (I.ok.hd Z) st (Array.getElem?_eq_none B) λh' eb=>⟨rfl,I.turned (t':=s.toks) (λb o F e=>eb b o F e) f0 f1 f3 f4 f5⟩
 self:=λ_ _ _ _ _ st h=>wpAny_pyIter_striter_ascii st h
theorem yK (it:Addr) (x:Str) (t:Tok):uW P w K tg (Its x) [it] it (λi h=>h.IsStrIter it "str_iterator" x t i) where
 mem:=by simp
 obj:=λi h st b F=>by
  have e:b=it:=by simpa using F
  subst e;obtain⟨o,e,c,d⟩:=st;exact⟨o,e,λv z=>by rw[d] at z;cases z⟩
 keep:=λi h h' st k=>let ⟨o,ho,r⟩:=st;⟨o,k it (by simp) o ho,r⟩
 item:=by
  intro X hP hw hK Z i pins s σ H E I Y st B;subst hP hw hK;obtain⟨f0,f1,f2,f3,f4,f5⟩:=Y it (by simp)
  have B:i < x.cps.size:=B
  refine wpAny_pyNext_wide_item st (c:=x.cps[i]'B) (by simp) λh' U sb=>?_
  have I1:Inv X pins σ H { s with heap:=h',toks:=s.toks+1 }:=I.turned (λb o F e=>(sb.2 b F).trans e) f0 f1 f3 f4 f5
  obtain⟨o,e,c,d⟩:=id U;exact⟨_,rfl,qB (s:={ s with heap:=h',toks:=s.toks+1 }) e c d (by decide) ⟨.str ⟨#[x.cps[i]'B]⟩,H,I1,⟨_,rfl⟩,⟨rfl,_,by simp,rfl⟩,U,λb F=>(Y b F).1⟩⟩
 done:=by
  intro X hP hw hK Z i pins s σ H E I Y st B;subst hP hw hK;have B:x.cps.size<=i:=B
  obtain⟨f0,f1,f2,f3,f4,f5⟩:=Y it (by simp)
  exact wpAny_pyNext_wide_end (I.ok.hd Z) st (Array.getElem?_eq_none B) λh' eb=>⟨rfl,I.turned (t':=s.toks) (λb o F e=>eb b o F e) f0 f1 f3 f4 f5⟩
 self:=λ_ _ _ _ _ st h=>wpAny_pyIter_striter_wide st h
def EI (tl:TE):TI:=λσ H R=>tl σ H λx H1=>∃z,x = .str z/\R (Its z) H1
theorem Eo {l:Expr} (hl:PE X l tl):PI X tg l (EI tl):=by
 intro pins s σ H R I h;refine thn (hl pins s σ H _ I h) λv F B=>?_
 obtain⟨x,H1,U,r1,q1⟩:=B;obtain⟨z,e,q⟩:=q1;subst e;obtain⟨t,rfl⟩:=r1;cases Z:z.cps.all (· < 128)
 .refine wpAny_pyIter_wide Z ?_
  refine⟨F.heap.objs.size,[F.heap.objs.size],_,_,H1,rfl,U.kept (t':=F.toks) λb o e=>Heap.get?_push_of_some _ e,yK _ z t,⟨_,Heap.get?_push_size _ rfl,rfl,rfl⟩,λb Y=>?_,q⟩
  have e:b=F.heap.objs.size:=by simpa using Y
  subst e;exact U.fpOk (le_refl _) (U.hok.fresh (le_refl _))
 .refine wpAny_pyIter_ascii Z ?_
  refine⟨F.heap.objs.size,[F.heap.objs.size],_,_,H1,rfl,U.kept (t':=F.toks) λb o e=>Heap.get?_push_of_some _ e,yo _ z t,⟨_,Heap.get?_push_size _ rfl,rfl,rfl⟩,λb Y=>?_,q⟩
  have e:b=F.heap.objs.size:=by simpa using Y
  subst e;exact U.fpOk (le_refl _) (U.hok.fresh (le_refl _))
def Ci:V->Option Int->Option Int->Hp->VK->Prop:=λx lo hi H Q=>∃z,x = .str z/\z.length<=sizeLine/\Q (.str (Txt.slice z lo hi)) H
theorem vW:SlR X Ci:=by
 intro pins s σ H x v vl vu lo hi sl Q I rx hs pl pu h;obtain⟨z,rfl,Y,q⟩:=h;obtain⟨t,rfl⟩:=rx;refine⟨"str",_,F.slot_str_getitem.lookup,typeIs_str _ _ _,?_⟩
 have B : ∀(t':Tok) (k:Nat),EP X pins σ Q (.str (Txt.slice z lo hi) t') { s with toks:=k }:=λt' k=>⟨.str _,H,I.tok k,⟨t',rfl⟩,q⟩
 obtain⟨o,h1,h2,U⟩:=hs;cases pl with
 | none=>cases pu with
  | none=>exact wpAny_getItem_str_slice (l:=none) (u:=none) (st:=none) ⟨o,h1,h2,U⟩ rfl (post_val_or_str ⟨le_trans (Txt.slice_le z _ _) Y,λt' k=>B t' k⟩)
  | int j Z=>exact wpAny_getItem_str_slice (l:=none) (u:=some (j,Z)) (st:=none) ⟨o,h1,h2,U⟩ rfl (post_val_or_str ⟨le_trans (Txt.slice_le z _ _) Y,λt' k=>B t' k⟩)
 | int i ui=>cases pu with
  | none=>exact wpAny_getItem_str_slice (l:=some (i,ui)) (u:=none) (st:=none) ⟨o,h1,h2,U⟩ rfl (post_val_or_str ⟨le_trans (Txt.slice_le z _ _) Y,λt' k=>B t' k⟩)
  | int j Z=>exact wpAny_getItem_str_slice (l:=some (i,ui)) (u:=some (j,Z)) (st:=none) ⟨o,h1,h2,U⟩ rfl (post_val_or_str ⟨le_trans (Txt.slice_le z _ _) Y,λt' k=>B t' k⟩)
end
def FnL (K:PySem.W.Frag) (mg:Str->Option Value) (x:Str) (st:Stmt) (ps:List Str):Prop :=
 ∃f fd,Fun K x x st f fd/\mg x=some (.ref f)/\jB K fd ps []
def Fn (P:Program) (w:World) (K:PySem.W.Frag) (mg:Str->Option Value) (base:Heap) (x:Str) (k:Nat) (ps:List Str) (sp:Sp):Prop :=
 ∃f fd,ig P w K mg base CX0 k f fd ps sp/\mg x=some (.ref f)/\keepIn K (.ref f)=true/\jB K fd ps []
section
variable {P:Program} {w:World} {K:PySem.W.Frag} {mg:Str->Option Value} {base:Heap}
theorem FnL.ok {x:Str} {st:Stmt} {N ps:List Str} {k:Nat} {sp:Sp} (F:FnL K mg x st ps) (S:aG N ps (ak st)) (len : ∀vs H Q E,sp vs H Q E->vs.length=ps.length)
  (z : ∀(f:Addr) (cdv:Value) (A:Around) (outer:List Env) (s:Shared) (H:Hp) (vs:List V) (Q:VK) (E:XK),ci k (A.deeper (envOfC x (ak st) s.heap.objs.size f cdv))->sp vs H Q E ->
   ∃t,PSs (sB CX0 P w K mg base N x (ak st) f cdv A outer s H E).nox (bT st) t/\t { nx:=λ_ H'=>Q .non H',rt:=Q } (gh N vs) H):Fn P w K mg base x (k+1) ps sp:=by
 obtain⟨f,fd,F,m,b⟩:=F;exact⟨f,fd,F.ok S len (z f),m,F.kp,b⟩
theorem Fn.mono {x:Str} {j k:Nat} {ps:List Str} {sp:Sp} (F:Fn P w K mg base x j ps sp) (h:j<=k):Fn P w K mg base x k ps sp:=by
 obtain⟨f,fd,F,m,z,b⟩:=F;exact⟨f,fd,F.mono h,m,z,b⟩
theorem ET {z:Option Addr} {kV:Value} (X:K.In h) (G:h.Ns mainGlobals mg)
  (a:nsIn K mainGlobals x=some (some (.ref f)))
  (l:K.lookup f=some ⟨oc,od,.func (fnOf x x (cN st) (bT st) (ak st) .none kV doc pm z cdv ct),osl⟩)
  (c:codeIn K cdv x=true) (k:keepIn K (.ref f)=true)
  (B : ∀(kV doc pm:Value) (z:Option Addr) (cdv ct:Value) (us:List Value),us.length=ps.length->bindArgs (fnOf x x (cN st) (bT st) (ak st) .none kV doc pm z cdv ct) ⟨us,[]⟩=pure (ps.zip us)):FnL K mg x st ps :=
 ⟨f,_,mr l c k,mg_of X G a,(mr l c k).binds B⟩
end
section
variable {p:Pos} {t:TA}
theorem ah (F:Fn X.prog X.w X.K X.mg X.base x k ps sp) (U:PA X (e :: es) t) (Z:ci k X.A:=by exact ci.mono (by assumption) (by first | decide | omega)) (hg:Gl X x:=by exact rfl) (z:(x ==("__debug__" : Str))=false:=by decide)
  (he:starEach (e :: es) X.env=(false,eval e X.env) :: starEach es X.env:=by rfl) (B:(backTo pos (starEach es X.env)).any (·.1)=false:=by rfl) :
  PE X (.Call (.Name x p) (e :: es) [] pos) (sW sp [] E0 t):=by
 obtain⟨f,fd,F,m,Y,b⟩:=F;exact Cw F Z hg m Y b .nil qv U z he B
end
structure Wlk (J:It) (xs:List V) (C:Hp->Prop):Prop where
 go : ∀i H,C H->i < xs.length->J.go i H
 yld : ∀i H x H',C H->i < xs.length->J.yld i H x H'->xs[i]? = some x/\H'=H
 stop : ∀i H,C H->xs.length<=i->J.stop i H
theorem bB:Wlk (Itl K a) xs (λH=>SqL K H a xs) :=
 ⟨λi H h hi=>⟨xs,xs[i],h,by simp[hi]⟩,λi H x H' h _ y=>⟨y.2 xs h,y.1⟩,λi H h hi=>⟨xs,h,hi⟩⟩
theorem ba:Wlk (Itt K a) xs (λH=>SqT K H a xs) :=
 ⟨λi H h hi=>⟨xs,xs[i],h,by simp[hi]⟩,λi H x H' h _ y=>⟨y.2 xs h,y.1⟩,λi H h hi=>⟨xs,h,hi⟩⟩
def jG (lo:Int) (n:Nat):List V:=(range n).map λ(i:Nat)=>V.int (lo+(i:Int))
theorem aJ (lo:Int) (n:Nat):(jG lo n).length=n:=by simp[jG]
theorem gb {lo:Int} {i:Nat} (h:i < n):(jG lo n)[i]? = some (.int (lo+i)):=by simp[jG,h]
theorem bQ {lo:Int}:Wlk (Itr lo n) (jG lo n) (λ_=>True) :=
 ⟨λi H _ hi=>by rw[aJ] at hi;exact hi,λi H x H' _ hi y=>by
  obtain⟨e,y⟩:=y;rw[aJ] at hi;rw[gb hi,y];exact⟨rfl,e⟩,λi H _ hi=>by rw[aJ] at hi;exact hi⟩
def yj (x:Str):List V:=x.cps.toList.map λc=>V.str ⟨#[c]⟩
theorem Cz:Wlk (Its x) (yj x) (λ_=>True) :=
 ⟨λi H _ hi=>by show i < x.cps.size;simpa [yj] using hi,λi H v H' _ hi y=>by
  obtain⟨e,c,z,y⟩:=y;refine⟨?_,e⟩
  rw[y];simp[yj,z],λi H _ hi=>by show x.cps.size<=i;simpa [yj] using hi⟩
theorem BZ (w:Wlk J xs C) {g:TG} {tb:TS} {D:lN} {σ:St} {H:Hp} (B:Nat->St->Hp->Prop) (Y:B 0 σ H) (hl : ∀i σ H,B i σ H->C H)
  (Z : ∀i x σ H,i < xs.length->xs[i]? = some x->B i σ H->g x σ H λF H2=>tb { D with nx:=B (i+1),ct:=B (i+1),bk:=D.nx } F H2) (hd : ∀ σ H,B xs.length σ H->D.nx σ H) :
  ∃ W:Nat->Nat->St->Hp->Prop,(∃m,W 0 m σ H)/\∀i m σ H,W i m σ H ->
   (J.stop i H/\D.nx σ H)\/(J.go i H/\∃N:St->Hp->Prop,(∀ σ' H',N σ' H'->∃U,U < m/\W (i+1) U σ' H')/\∀x H',J.yld i H x H'->g x σ H' λF H2=>tb { D with nx:=N,ct:=N,bk:=D.nx } F H2):=by
 refine⟨λi m σ H=>m=xs.length - i/\i<=xs.length/\B i σ H,⟨xs.length,by simp,zero_le _,Y⟩,?_⟩
 rintro i m σ H ⟨rfl,hi,p⟩
 have q:=hl i σ H p
 by_cases z:i < xs.length
 .refine .inr ⟨w.go i H q z,B (i+1),λσ' H' p'=>⟨xs.length - (i+1),by omega,rfl,z,p'⟩,λx H' y=>?_⟩
  obtain⟨e1,e2⟩:=w.yld i H x H' q z y;subst e2;exact Z i x σ _ z e1 p
 .have e:i=xs.length:=by omega
  subst e;exact .inl ⟨w.stop _ H q (le_refl _),hd σ H p⟩
theorem zi (w:Wlk J xs C) {g:TG} {tc:TT} {te:TE} {σ0:St} {Q:VK} {H1:Hp} {D:Addr} (F:Nat->List V->Hp->Prop) (h0:F 0 [] (upd H1 D (.lst []))) (hl : ∀i ys H,F i ys H->C H)
  (hs : ∀i x ys H,i < xs.length->xs[i]? = some x->F i ys H->g x σ0 H λz H3=>tc z H3 λb U=>if b=true then te z U λy Y=>Y D=some (.lst ys)/\ys.length < sizeLine/\F (i+1) (ys++[y]) (upd Y D (.lst (ys++[y]))) else F (i+1) ys U)
  (hd : ∀ys H,F xs.length ys H->Q (.ref D) H) :
  ∃ W : Nat->Nat->List V->Hp->Prop,(∃m,W 0 m [] (upd H1 D (.lst []))) /\
   ∀ i m ys H2,W i m ys H2->(J.stop i H2/\Q (.ref D) H2)\/(J.go i H2/\∃N:List V->Hp->Prop,(∀Z H',N Z H'->∃m',m' < m/\W (i+1) m' Z H') /\
    ∀x H',J.yld i H2 x H'->g x σ0 H' λz H3=>tc z H3 λb U=>if b=true then te z U λy Y=>Y D=some (.lst ys)/\ys.length < sizeLine/\N (ys++[y]) (upd Y D (.lst (ys++[y]))) else N ys U):=by
 refine⟨λi m ys H=>m=xs.length - i/\i<=xs.length/\F i ys H,⟨xs.length,by simp,zero_le _,h0⟩,?_⟩
 rintro i m ys H ⟨rfl,hi,p⟩
 have q:=hl i ys H p
 by_cases B:i < xs.length
 .refine .inr ⟨w.go i H q B,F (i+1),λσ' H' p'=>⟨xs.length - (i+1),by omega,rfl,B,p'⟩,λx H' y=>?_⟩
  obtain⟨e1,e2⟩:=w.yld i H x H' q B y;subst e2;exact hs i x ys _ B e1 p
 .have e:i=xs.length:=by omega
  subst e;exact .inl ⟨w.stop _ H q (le_refl _),hd ys H p⟩
end L2
namespace HT
open PySem PyProof.Rows
open PySem.SeqAt
open PySem.AutoSeq1 (wpAny_loadPart')
open PySem.MeetsSeq PySem.MeetsSeq2 PySem.MeetsSeq3
theorem getItem_tuple_whole {sl:Addr} (z:IsTup s.heap t items) (Y:s.heap.IsSliceOf sl vl vu .none) (pl:IsPart vl lo) (Z:IsPart vu hi)
  (h1:sIx items.size 0 lo=0) (h2:sIx items.size items.size hi=items.size)
  (h:Q (.ref t) s):wpAny (model prog w) A (getItem (.ref t) (.ref sl)) Q E s:=by
 obtain⟨os,B,U,aa⟩:=id Y;have F:s.TypeIs (.ref sl) "slice" :=⟨os,B,U⟩
 unfold getItem
 try with_reducible refine wpAny_holding ?_
 first | refine wpAny_bind (wpAny_pure ?_) | skip
 refine wpAny_bind (wpAny_sequenceKey z.typeIs (by decide) ?_)
 refine wpAny_bind (wpAny_callSpecial?_slot (name:=Str.ofString "__getitem__") z.typeIs PyProof.Rows.slot_tuple_getitem
  (wpAny_call_entry PyProof.Rows.slot_tuple_getitem z.typeIs entry_tuple_getitem ?_ (args_tuple_getitem _ _)))
 show wpAny _ _ (Builtin.Tuple.tupleItemsOf (.ref t) >>= _) _ _ s
 refine wpAny_bind (tupleItemsOf_ z ?_)
 refine wpAny_bind (wpAny_typeOf F ?_)
 rw[if_pos (by decide)]
 refine wpAny_bind (fO Y pl Z ?_)
 rw[h1,h2]
 show wpAny _ _ (if (((0:Nat):Int) == 0 && (1:Int) == 1 && (items.size - 0) == items.size)=true then _ else _) _ _ s
 rw[if_pos (by simp)]
 unfold Builtin.Tuple.tupleIsExact;refine wpAny_bind (wpAny_bind (wpAny_typeOf z.typeIs (wpAny_pure ?_)))
 rw[if_pos (by decide)]
 exact wpAny_bind (wpAny_rule (wpAny_pure ⟨_,rfl,wpAny_pure h⟩))
end HT
namespace L2
open PySem PySem.Spec PyProof.Rows
def gn (xs:List (Str × NameKind)) (x:Str):Bool:=xs.lookup x == some .cell || xs.lookup x == some .free
theorem ip {xs:List (Str × NameKind)} (h:gn xs x=true):xs.lookup x=some .cell\/xs.lookup x=some .free:=by
 unfold gn at h;rw[Bool.or_eq_true] at h;simpa using h
def G0 (K:PySem.W.Frag):V->Option Int->Option Int->Hp->VK->Prop:=λx lo hi H Q=>∃a xs,x = .ref a/\SqT K H a xs/\(dQ xs lo hi=xs->Q (.ref a) H)/\(∀p,H p=none->Q (.ref p) (upd H p (.tup (dQ xs lo hi))))
theorem BF:SlR X (G0 X.K):=by
 intro pins s σ H x v vl vu lo hi sl Q I U F pl Z h;obtain⟨a,xs,e,Y,q1,q2⟩:=h
 by_cases hw:HT.sIx xs.length 0 lo=0/\HT.sIx xs.length xs.length hi=xs.length
 .subst e
  cases U;obtain⟨its,r,B,hz⟩:=I.tuple Y;have z:its.toArray.size=xs.length:=by rw[size_toArray];exact r.length.symm
  refine⟨"tuple",_,PyProof.Rows.slot_tuple_getitem.lookup,B.typeIs,?_⟩
  refine HT.getItem_tuple_whole B F pl Z (by rw[z];exact hw.1) (by rw[z];exact hw.2) ⟨.ref a,H,I,rfl,q1 ?_⟩
  unfold dQ;rw[hw.1,hw.2];simp
 .exact EV pins s σ H x v vl vu lo hi sl Q I U F pl Z ⟨a,xs,e,Y,hw,q2⟩
theorem Gv {s:Str} {P:Key->Prop}:(∃k,V.str s=kV k/\P k)↔P (Sum.inr s):=by
 constructor
 .rintro⟨k,e,p⟩
  cases k with
  | inl i=>cases e
  | inr x=>cases e;exact p
 .exact λp=>⟨_,rfl,p⟩
theorem Go {P:Key->Prop}:(∃k,V.int i=kV k/\P k)↔P (Sum.inl i):=by
 constructor
 .rintro⟨k,e,p⟩
  cases k with
  | inl i=>cases e;exact p
  | inr x=>cases e
 .exact λp=>⟨_,rfl,p⟩
section
variable {o i:Expr}
def tDG (td ty:TE):TE:=λσ H Q=>td σ H λx H1=>ty σ H1 λy H2=>∃a,x = .ref a/\∃k,y=kV k/\∃kvs v,H2 a=some (.dK kvs)/\bu kvs k=some v/\Q v H2
theorem gC (Z:X.A.units+1 < cLine) (ho:PE X o td) (hi:PE X i ty) (hs:ES i:=by exact λ_ _=>rfl):PE X (.Subscript o i pos) (tDG td ty):=by
 intro pins s σ H Q I h;refine wN PySem.F.slot_dict_getitem.lookup hs (thn (ho pins s σ H _ I h) λu s1 ⟨x,H1,I1,rx,q1⟩=>thn (hi pins s1 σ H1 _ I1 q1) λiv s2 z=>?_)
 obtain⟨y,H2,U,ry,a,ex,k,ey,kvs,v,hd,hv,Y⟩:=z;subst ex;obtain rfl:u=Value.ref a:=rx
 have g:pR H2 a y (some v):=.inl ⟨kvs,k,.inl hd,ey,hv.symm⟩
 exact⟨lb U g,qw Z U g ry λw' s3 I3 B=>⟨v,H2,I3,B,Y⟩⟩
def sDP (td ty tv:TE):TS:=λD σ H=>tv σ H λv H1=>td σ H1 λx H2=>ty σ H2 λy z=>∃a,x = .ref a/\∃k,y=kV k/\∃kvs,z a=some (.dK kvs)/\kvs.length < sizeLine/\D.nx σ (upd z a (.dK (bp kvs k v)))
theorem fV (U:X.A.units+1 < cLine) (Y:PE X o td) (hi:PE X i ty) (hv:PE X value tv) (hs:swapsWith value (some (.Subscript o i pos')) pos.line X.env=pure false) :
  PS X (.Assign [.Subscript o i pos'] value pos) (sDP td ty tv):=by
 intro pins s σ H D I h;refine wpAny_Assign_Subscript (thn (hv pins s σ H _ I h) λr s1 ⟨v,H1,I1,rv,q1⟩=>thn (Y pins s1 σ H1 _ I1 q1) λu s2 ⟨x,H2,I2,rx,q2⟩=>thn (hi pins s2 σ H2 _ I2 q2) λiv s3 z=>?_) hs
 obtain⟨y,B,I3,ry,a,ex,k,ey,kvs,hd,hl,Z⟩:=z;subst ex;obtain rfl:u=Value.ref a:=rx
 have g:GL B a y v (upd B a (.dK (bp kvs k v))):=.inl ⟨kvs,k,hd,ey,hl,rfl⟩
 exact yx U I3 g ry rv λs4 F=>⟨σ,_,F,Z⟩
def tDI (ty td:TE):TE:=λσ H Q=>ty σ H λy H1=>td σ H1 λx H2=>∃a,x = .ref a/\∃k,y=kV k/\∃kvs,H2 a=some (.dK kvs)/\Q (.bl (bu kvs k).isSome) H2
end
theorem gL {c:TT} {tb:TS} (W:Nat->St->Hp->Prop) (z:St->Hp->Prop) (Y : ∃m,W m σ H)
  (U : ∀R:St->Hp->Prop,(∀ σ H,z σ H->R σ H)->∀m σ H,W m σ H->c σ H λb H1=>if b=true then ∃N:St->Hp->Prop,(∀ σ' H',N σ' H'->∃F,F < m/\W F σ' H')/\tb { D with nx:=N,ct:=N,bk:=R } σ H1 else R σ H1)
  (B : ∀ σ H,z σ H->D.nx σ H):wx c tb D σ H:=⟨W,Y,λm σ H w=>U D.nx B m σ H w⟩
theorem cxK {q:Str} {o:List Env} {E:XK} :
  (sB CX P w K mg base N q sc f cd A o s H E).K=K:=rfl
theorem By (i j:Int):rG (.int i) (.int j)=true:=rfl
theorem BC (i j:Str):rG (.str i) (.str j)=true:=rfl
theorem BE (i j:Bool):rG (.bl i) (.bl j)=true:=rfl
theorem BV:rG .non .non=true:=rfl
theorem Br (i:Int):rG (.int i) .non=true:=rfl
theorem Cy (s:Str) (i:Int):rG (.str s) (.int i)=true:=rfl
section
variable {a b o l:Expr} {t:TA}
theorem OpR.imp {f:Value->Value->Sem Value} {r r':R2} (h:OpR X f r) (i : ∀x y H Q,r' x y H Q->r x y H Q):OpR X f r':=λpins s σ H x y v u Q I z B q=>h pins s σ H x y v u Q I z B (i _ _ _ _ q)
theorem bE.imp {f:Value} {r r':List V->Hp->VK->Prop} (h:bE X f r) (i : ∀x H Q,r' x H Q->r x H Q):bE X f r':=λpins s σ H xs us Q I z q=>h pins s σ H xs us Q I z (i _ _ _ q)
theorem IxR.imp {r r':R2} (h:IxR X r) (i : ∀x y H Q,r' x y H Q->r x y H Q):IxR X r':=λvalue slice pins s σ H x y v u Q I B F q z=>h value slice pins s σ H x y v u Q I B F (i _ _ _ _ q) z
theorem SlR.imp (h:SlR X r) (i : ∀x lo hi H Q,r' x lo hi H Q->r x lo hi H Q):SlR X r':=λpins s σ H x v vl vu lo hi sl Q I B z pl F q=>h pins s σ H x v vl vu lo hi sl Q I B z pl F (i _ _ _ _ _ q)
def Au:List V->Hp->VK->Prop:=λxs H Q=>∃p,xs=[.ref p]/\∃ys,H p=some (.lst ys)/\Q (.int ys.length) H
def AI:List V->Hp->VK->Prop:=λxs H Q=>∃p,xs=[.ref p]/\∃ys,H p=some (.tup ys)/\Q (.int ys.length) H
theorem qe:bE X (.builtin "len") Au:=ke.imp λ_ _ _ z=>by obtain⟨p,e,ys,h,q⟩:=z;exact(⟨p,ys,e,.inl (.of h),q⟩)
theorem bZ:bE X (.builtin "len") AI:=ke.imp λ_ _ _ z=>by obtain⟨p,e,ys,h,q⟩:=z;exact(⟨p,ys,e,.inr (.of h),q⟩)
def rIL:R2:=λx y H Q=>∃p,x = .ref p/\∃i,y = .int i/\∃xs,H p=some (.lst xs)/\∃v,atI xs i=some v/\Q v H
def rIT:R2:=λx y H Q=>∃p,x = .ref p/\∃i,y = .int i/\∃xs,H p=some (.tup xs)/\∃v,atI xs i=some v/\Q v H
theorem fC:IxR X rIL:=BJ.imp λ_ _ _ _ z=>by obtain⟨p,e,i,e2,xs,h,v,B,q⟩:=z;exact(⟨p,xs,i,v,e,e2,.of h,B,q⟩)
theorem sO:IxR X rIT:=DJ.imp λ_ _ _ _ z=>by obtain⟨p,e,i,e2,xs,h,v,B,q⟩:=z;exact(⟨p,xs,i,v,e,e2,.of h,B,q⟩)
def rIS:R2:=λx y H Q=>∃z,x = .str z/\∃i,y = .int i/\z.length<=sizeLine/\∃c,atI z.cps.toList i=some c/\Q (.str ⟨#[c]⟩) H
theorem Bu:IxR X rIS:=DV.imp λ_ _ _ _ B=>by obtain⟨z,e,i,e2,h,c,F,q⟩:=B;exact(⟨z,i,c,e,e2,h,F,q⟩)
def rSL:V->Option Int->Option Int->Hp->VK->Prop:=λx lo hi H Q=>∃a,x = .ref a/\∃xs,H a=some (.lst xs)/\∀p,H p=none->Q (.ref p) (upd H p (.lst (dQ xs lo hi)))
theorem Gf:SlR X rSL:=wC.imp λ_ _ _ _ _ z=>by obtain⟨a,e,xs,h,q⟩:=z;exact(⟨a,xs,e,.of h,q⟩)
def rSQ (K:PySem.W.Frag):V->Option Int->Option Int->Hp->VK->Prop:=λx lo hi H Q=>∃a,x = .ref a/\∃xs,SqL K H a xs/\∀p,H p=none->Q (.ref p) (upd H p (.lst (dQ xs lo hi)))
theorem Dt:SlR X (rSQ X.K):=wC.imp λ_ _ _ _ _ z=>by obtain⟨a,e,xs,h,q⟩:=z;exact(⟨a,xs,e,h,q⟩)
def rST:V->Option Int->Option Int->Hp->VK->Prop:=λx lo hi H Q=>∃a,x = .ref a/\∃xs,H a=some (.tup xs)/\(dQ xs lo hi=xs->Q (.ref a) H)/\(∀p,H p=none->Q (.ref p) (upd H p (.tup (dQ xs lo hi))))
theorem HA:SlR X rST:=BF.imp λ_ _ _ _ _ z=>by obtain⟨a,e,xs,h,q⟩:=z;exact(⟨a,xs,e,.of h,q⟩)
def iL (K:PySem.W.Frag) (tl:TE):TI:=λσ H R=>tl σ H λx H1=>∃a,x = .ref a/\∃xs,H1 a=some (.lst xs)/\R (Itl K a) H1
def iT (K:PySem.W.Frag) (tl:TE):TI:=λσ H R=>tl σ H λx H1=>∃a,x = .ref a/\∃xs,H1 a=some (.tup xs)/\R (Itt K a) H1
theorem Iw (hl:PE X l tl):PI X tg l (iL X.K tl):=by
 intro pins s σ H R I h;refine thn (hl pins s σ H _ I h) λv F z=>?_
 obtain⟨x,H1,B,Z,a,e,xs,Y,q⟩:=z;subst e;cases Z;obtain⟨its,rv,p,hz⟩:=B.list (SqL.of Y);refine wpAny_pyIter_list p.isList ?_
 refine⟨F.heap.objs.size,[F.heap.objs.size],_,_,H1,rfl,B.kept (t':=F.toks) λb o e=>Heap.get?_push_of_some _ e,qb a _,⟨_,Heap.get?_push_size _ rfl,rfl,rfl⟩,λb U=>?_,q⟩
 have e:b=F.heap.objs.size:=by simpa using U
 subst e;exact B.fpOk (le_refl _) (B.hok.fresh (le_refl _))
theorem Ig (hl:PE X l tl):PI X tg l (iT X.K tl):=by
 intro pins s σ H R I h;refine thn (hl pins s σ H _ I h) λv B z=>?_
 obtain⟨x,H1,F,Z,a,e,xs,Y,q⟩:=z;subst e;cases Z;obtain⟨its,rv,p,hz⟩:=F.tuple (SqT.of Y);refine wpAny_pyIter_tuple (show B.heap.IsTuple a its.toArray from p) ?_
 refine⟨B.heap.objs.size,[B.heap.objs.size],_,_,H1,rfl,F.kept (t':=B.toks) λb o e=>Heap.get?_push_of_some _ e,nA a _,⟨_,Heap.get?_push_size _ rfl,rfl,rfl⟩,λb U=>?_,q⟩
 have e:b=B.heap.objs.size:=by simpa using U
 subst e;exact F.fpOk (le_refl _) (F.hok.fresh (le_refl _))
abbrev RM:=Addr->List V->Hp->VK->Prop
def MtL (X:Cx) (id:String) (r:RM):Prop:=MtR X id λx vs H Q=>∃p,x = .ref p/\r p vs H Q
def tML (r:RM) (to:TE) (t:TA):TE:=λσ H Q=>to σ H λx H1=>∃p,x = .ref p/\(∃xs,H1 p=some (.lst xs))/\t σ H1 λvs H2=>r p vs H2 Q
variable {id:String} {r:RM}
theorem eL (aa:Slot "list" name id) (ac:typeOf (.builtin id)=pure (.type "method_descriptor")) (hm:MtL X id r) (ho:PE X o to) (ha:PA X (e :: es) t)
  (Y:attributeBase o name X.env (eval o X.env)=eval o X.env:=by rfl)
  (Z:((backTo cpos (starEach (e :: es) X.env)).all (λx=>!x.1) && (backToKw cpos (keywordEach [] X.env)).all (λx=>x.1.isSome)
   && decide ((e :: es).length+([]:List Keyword).length+(if ([]:List Keyword).isEmpty then 0 else 1) < 30))=true:=by rfl)
  (U:(apos.endLine == cpos.line)=true:=by rfl) (hs:starEach (e :: es) X.env=(false,eval e X.env) :: starEach es X.env:=by rfl) (z:(backTo cpos (starEach es X.env)).any (·.1)=false:=by rfl) :
  PE X (.Call (.Attribute o name apos) (e :: es) [] cpos) (tML r to t):=by
 intro pins s σ H Q I h;refine wpAny_Call_method_late Y Z U rfl (thn (ho pins s σ H _ I h) λv s1 ⟨x,H1,I1,r1,p,ex,⟨xs,hp⟩,q1⟩=>?_)
 subst ex;have ty:tyV X.K "list" (.ref p) H1:=.inl ⟨rfl,xs,.of hp⟩
 obtain⟨h1,h2⟩:=vY I1 r1 ty;refine⟨"list",id,PySem.F.plainAttrs_list,aa,ac,h1,h2,?_⟩
 have hA:=ha cpos pins s1 σ H1 _ I1 q1;rw[hs] at hA ⊢;refine Calls.callWith_builtin (by show(false || (backTo cpos (starEach es X.env)).any (·.1))=false;rw[z] <;> rfl) (Calls.evalArgs_plain ?_)
 refine thn hA λus s2 B=>?_
 obtain⟨vs,H2,I2,rr,q2⟩:=B;exact hm pins s2 σ H2 (.ref p) vs v us Q I2 r1 rr ⟨p,rfl,q2⟩
theorem DY (U:Slot "list" name id) (Y:typeOf (.builtin id)=pure (.type "method_descriptor")) (Z:MtL X id r) (ho:PE X o to)
  (z:attributeBase o name X.env (eval o X.env)=eval o X.env:=by rfl) (B:(apos.endLine == cpos.line)=true:=by rfl):PE X (.Call (.Attribute o name apos) [] [] cpos) (tML r to uI):=by
 intro pins s σ H Q I h;refine wpAny_Call_method0_late z B (thn (ho pins s σ H _ I h) λv s1 ⟨x,H1,I1,r1,p,ex,⟨xs,hp⟩,q1⟩=>?_)
 subst ex;have ty:tyV X.K "list" (.ref p) H1:=.inl ⟨rfl,xs,.of hp⟩
 obtain⟨h1,h2⟩:=vY I1 r1 ty;exact⟨"list",id,PySem.F.plainAttrs_list,U,Y,h1,h2,Calls.callWith_builtin rfl (PySem.evalArgs_none (Z pins s1 σ H1 _ [] v [] Q I1 r1 .nil ⟨p,rfl,q1⟩))⟩
def ox:RM:=λp vs H Q=>∃y,vs=[y]/\∃xs,H p=some (.lst xs)/\xs.length < sizeLine/\Q .non (upd H p (.lst (xs++[y])))
theorem bK:MtL X "list.append" ox:=λpins s σ H x vs v us Q I B F z=>by obtain⟨p,e,y,e2,xs,h,hl,q⟩:=z;exact(qx pins s σ H x vs v us Q I B F ⟨p,xs,y,e,e2,h,hl,q⟩)
def AD:RM:=λp vs H Q=>vs=[]/\∃xs,H p=some (.lst xs)/\∃y,xs[xs.length - 1]? = some y/\Q y (upd H p (.lst xs.dropLast))
theorem Du:MtL X "list.pop" AD:=λpins s σ H x vs v us Q I B F z=>by obtain⟨p,e,e2,xs,h,y,hl,q⟩:=z;exact(EU pins s σ H x vs v us Q I B F ⟨p,xs,y,e,e2,h,hl,q⟩)
def mN:RM:=λp vs H Q=>∃i y,vs=[.int i,y]/\∃xs,H p=some (.lst xs)/\0<=i/\i<=xs.length/\xs.length < sizeLine/\Q .non (upd H p (.lst (xs.take i.toNat++y :: xs.drop i.toNat)))
theorem yr:MtL X "list.insert" mN:=by
 intro pins s σ H x vs v us Q I rx rv h;obtain⟨p,rfl,i,y,rfl,xs,hH,i0,i1,hz,q⟩:=h;cases rx;obtain⟨u,Y,rfl,ru,U⟩:=tF rv;obtain⟨t,rfl⟩:=ru;obtain⟨z,its,n,Z,hl,e⟩:=I.lstM hH;have B:Builtin.List.listFitsIndex i=true:=by
  have aa:=jv;simp only[Builtin.List.listFitsIndex,Bool.and_eq_true,decide_eq_true_eq];omega
 refine call_meets F.slot_list_insert ⟨_,e,rfl⟩ F.entry_list_insert (F.args_list_insert_3 _ _ _) (PySem.AutoSeq1.list_insert_list_int_val_1 p its.toArray n i t Y (by rw[B];decide) (by rw[size_toArray];omega)) ⟨e,?_⟩
 refine⟨.non,_,I.lset (its':=its.take i.toNat++Y :: its.drop i.toNat) hH e ?_ ((Z.take i.toNat).append (.cons U (Z.drop i.toNat))) ?_,rfl,q⟩
 .have hk:(if i < 0 then(i+(its.toArray.size:Int)).toNat else min i.toNat its.toArray.size)=i.toNat:=by
   rw[if_neg (by omega),size_toArray];omega
  simp only[hk]
  apply ext'
  simp
  rw[take_of_length_le (by simp)]
 .simp
  omega
def rCL:R2:=λx y H Q=>∃l,x = .ref l/\∃b,y = .ref b/\∃xs,H l=some (.lst xs)/\∃zs,H b=some (.lst zs)/\xs.length+zs.length<=sizeLine/\∀p,H p=none->Q (.ref p) (upd H p (.lst (xs++zs)))
theorem se:OpR X (binaryOp .Add) rCL:=EL.imp λ_ _ _ _ z=>by obtain⟨l,e,b,e2,xs,h,zs,h2,hl,q⟩:=z;exact(⟨l,b,xs,zs,e,e2,h,h2,hl,q⟩)
def Av (z:Bool):R2:=λx y H Q=>∃p,y = .ref p/\∃xs,H p=some (.lst xs)/\eN x=true/\xs.all eN=true/\Q (.bl (if z then !inV x xs else inV x xs)) H
def Dy (z:Bool):R2:=λx y H Q=>∃p,y = .ref p/\∃xs,H p=some (.tup xs)/\eN x=true/\xs.all eN=true/\Q (.bl (if z then !inV x xs else inV x xs)) H
def Ed (K:PySem.W.Frag) (z:Bool):R2:=λx y H Q=>∃p,y = .ref p/\∃xs,SqT K H p xs/\eN x=true/\xs.all eN=true/\Q (.bl (if z then !inV x xs else inV x xs)) H
theorem Ak:OpR X (compareOp .In) (Av false):=pU.imp λ_ _ _ _ z=>by obtain⟨p,e,xs,h,f1,f2,q⟩:=z;exact(⟨p,xs,e,.inl (.of h),f1,f2,q⟩)
theorem vM:OpR X (compareOp .In) (Dy false):=pU.imp λ_ _ _ _ z=>by obtain⟨p,e,xs,h,f1,f2,q⟩:=z;exact(⟨p,xs,e,.inr (.of h),f1,f2,q⟩)
theorem yu:OpR X (compareOp .NotIn) (Ed X.K true):=qU.imp λ_ _ _ _ z=>by obtain⟨p,e,xs,h,f1,f2,q⟩:=z;exact(⟨p,xs,e,.inr h,f1,f2,q⟩)
def vO:List V->Hp->VK->Prop:=λxs H Q=>∃p,xs=[.ref p]/\∃ys,H p=some (.tup ys)/\∀l,H l=none->Q (.ref l) (upd H l (.lst ys))
def zN:List V->Hp->VK->Prop:=λxs H Q=>∃p,xs=[.ref p]/\∃ys,H p=some (.lst ys)/\∀l,H l=none->Q (.ref l) (upd H l (.tup ys))
theorem ja:bE X (.type "list") vO:=jN.imp λ_ _ _ z=>by obtain⟨p,e,ys,h,q⟩:=z;exact(⟨p,ys,e,.inr (.of h),q⟩)
theorem aO:bE X (.type "tuple") zN:=oT.imp λ_ _ _ z=>by obtain⟨p,e,ys,h,q⟩:=z;exact(⟨p,ys,e,.inl ⟨.of h,q⟩⟩)
def rCS:R2:=λx y H Q=>∃i,x = .str i/\∃j,y = .str j/\i.length+j.length<=sizeLine/\Q (.str (i++j)) H
theorem rq:OpR X (binaryOp .Add) rCS:=ve.imp λ_ _ _ _ z=>by obtain⟨i,e,j,e2,h,q⟩:=z;exact(⟨i,j,e,e2,h,q⟩)
def AJ:List V->Hp->VK->Prop:=λxs H Q=>∃z,xs=[.str z]/\z.length<=sizeLine/\Q (.int z.length) H
theorem qt:bE X (.builtin "len") AJ:=rH
def En:R2:=λx y H Q=>∃i,x = .str i/\∃j,y = .str j/\Q (.bl (!decide (j.cps.toList < i.cps.toList))) H
theorem vR:OpR X (compareOp .LtE) En:=yO.imp λ_ _ _ _ z=>by obtain⟨i,e,j,e2,q⟩:=z;exact(⟨i,j,e,e2,q⟩)
end
def lm (J:It) (σ0:St) (g:TG) (tc:TT) (te:TE) (Q:VK) (H1:Hp) (D:Addr):Prop:=∃W:Nat->Nat->List V->Hp->Prop,(∃m,W 0 m [] (upd H1 D (.lst []))) /\
 ∀ i m ys H2,W i m ys H2->(J.stop i H2/\Q (.ref D) H2)\/(J.go i H2/\∃N:List V->Hp->Prop,(∀B H',N B H'->∃F,F < m/\W (i+1) F B H') /\
  ∀x H',J.yld i H2 x H'->g x σ0 H' λz Z=>tc z Z λb U=>if b=true then te z U λy Y=>Y D=some (.lst ys)/\ys.length < sizeLine/\N (ys++[y]) (upd Y D (.lst (ys++[y]))) else N ys U)
theorem zC (nt:Nat) (js:List Nat) (wi:TI) (g:TG) (tc:TT) (te:TE):wT nt js wi g tc te=λσ H Q=>wi σ H λJ H1=>∀D,H1 D=none->lm J (dG nt js σ) g tc te Q H1 D:=rfl
def Gq (J:It) (g:TG) (tb:TS) (D:lN) (σ:St) (H1:Hp):Prop:=∃W:Nat->Nat->St->Hp->Prop,(∃m,W 0 m σ H1)/\∀i m σ H,W i m σ H ->
 (J.stop i H/\D.nx σ H)\/(J.go i H/\∃N:St->Hp->Prop,(∀ σ' H',N σ' H'->∃B,B < m/\W (i+1) B σ' H')/\∀x H',J.yld i H x H'->g x σ H' λz H2=>tb { D with nx:=N,ct:=N,bk:=D.nx } z H2)
theorem Ca (wi:TI) (g:TG) (tb:TS):GP wi g tb=λD σ H=>wi σ H λJ H1=>Gq J g tb D σ H1:=rfl
theorem bR (w:Wlk J xs C) {g:TG} {tb:TS} {D:lN} {σ:St} {H:Hp} (z:Nat->St->Hp->Prop) (U:z 0 σ H) (hl : ∀i σ H,z i σ H->C H)
  (F : ∀i x σ H,i < xs.length->xs[i]? = some x->z i σ H->g x σ H λB H2=>tb { D with nx:=z (i+1),ct:=z (i+1),bk:=D.nx } B H2) (Y : ∀ σ H,z xs.length σ H->D.nx σ H):Gq J g tb D σ H :=
 BZ w z U hl F Y
theorem cD (w:Wlk J xs C) {g:TG} {tc:TT} {te:TE} {σ0:St} {Q:VK} {H1:Hp} {D:Addr} (z:Nat->List V->Hp->Prop) (Y:z 0 [] (upd H1 D (.lst []))) (hl : ∀i ys H,z i ys H->C H)
  (Z : ∀i x ys H,i < xs.length->xs[i]? = some x->z i ys H->g x σ0 H λB H3=>tc B H3 λb F=>if b=true then te B F λy U=>U D=some (.lst ys)/\ys.length < sizeLine/\z (i+1) (ys++[y]) (upd U D (.lst (ys++[y]))) else z (i+1) ys F)
  (hd : ∀ys H,z xs.length ys H->Q (.ref D) H):lm J σ0 g tc te Q H1 D:=zi w z Y hl Z hd
theorem DK (js:List Nat) (σ:St):dG 0 js σ=js.map λj=>(σ[j]?).join:=rfl
theorem Ez (js:List Nat) (σ:St):dG 1 js σ=none :: js.map λj=>(σ[j]?).join:=rfl
theorem DO (js:List Nat) (σ:St):dG 2 js σ=none :: none :: js.map λj=>(σ[j]?).join:=rfl
theorem EZ (js:List Nat) (σ:St):dG 3 js σ=none :: none :: none :: js.map λj=>(σ[j]?).join:=rfl
theorem am.upd_new {p:Addr} (s:am H H1) (z:H1 p=none):am H (upd H1 p o):=λb u e=>by
 have e1:=s b u e;rw[ag (aj e1 z)];exact e1
theorem am.upd0 {p:Addr} (z:H p=none):am H (upd H p o):=(am.refl H).upd_new z
def IsB (H:Hp) (x:V) (T:String) (k:Bool):Prop:=match x with
 | .non=>k=false
 | .bl _=>k=(T == "bool" || T == "int")
 | .int _=>k=(T == "int")
 | .str _=>k=(T == "str")
 | .ref a=>(∃vs,H a=some (.tup vs)/\k=(T == "tuple"))\/(∃vs,H a=some (.lst vs)/\k=(T == "list"))
 | _=>False
def DG:List V->Hp->VK->Prop:=λxs H Q=>∃x T,xs=[x,.ty T]/\(T = "int" \/ T = "str" \/ T = "bool" \/ T = "tuple" \/ T = "list")/\∃k,IsB H x T k/\Q (.bl k) H
theorem Cl (K:PySem.W.Frag) {T:String} (h:T = "int" \/ T = "str" \/ T = "bool" \/ T = "tuple" \/ T = "list") :
  kitOne K (.type "NoneType") (.type T)=some false/\kitOne K (.type "bool") (.type T)=some (T == "bool" || T == "int")/\kitOne K (.type "int") (.type T)=some (T == "int") /\
  kitOne K (.type "str") (.type T)=some (T == "str")/\kitOne K (.type "tuple") (.type T)=some (T == "tuple")/\kitOne K (.type "list") (.type T)=some (T == "list"):=by
 rcases h with rfl | rfl | rfl | rfl | rfl
 all_goals exact⟨rfl,rfl,rfl,rfl,rfl,rfl⟩
theorem mw:bE X (.builtin "isinstance") DG:=AY.imp λxs H Q ⟨x,T,e,hT,k,hk,q⟩=>by
 obtain⟨F,k2,Y,U,B,z⟩:=Cl X.K hT;cases x with
 | non=>cases hk;exact⟨_,_,T,_,e,.non,F,q⟩
 | bl b=>cases hk;exact⟨_,_,T,_,e,.bl b,k2,q⟩
 | int b=>cases hk;exact⟨_,_,T,_,e,.int b,Y,q⟩
 | str b=>cases hk;exact⟨_,_,T,_,e,.str b,U,q⟩
 | ref a =>
  rcases hk with⟨vs,h,rfl⟩ | ⟨vs,h,rfl⟩
  .exact⟨_,_,T,_,e,.tup h,B,q⟩
  .exact⟨_,_,T,_,e,.lst h,z,q⟩
 | _=>exact hk.elim
theorem G6 (h : ∃t,X.mg x=some (.int i t)) (B:Gl X x) (z:(x ==("__debug__" : Str))=false:=by decide):PE X (.Name x pos) (tC (.int i)):=by
 obtain⟨t,h⟩:=h;exact lU B h ⟨t,rfl⟩ z
def tCT (K:PySem.W.Frag) (xs:List V):TE:=λ_ H Q=>∀a,SqT K H a xs->Q (.ref a) H
def yZ (K:PySem.W.Frag) (mg:Str->Option Value) (x:Str) (xs:List V):Prop :=
 ∃(a:Addr) (o:Obj) (its:Array Value) (n:Nat),mg x=some (.ref a)/\K.lookup a=some o/\o.cls = .type "tuple" /\ o.data = .seq its n/\its.size<=sizeLine/\aR xs its.toList
theorem GY (h:yZ X.K X.mg x xs) (B:Gl X x) (U:(x ==("__debug__" : Str))=false:=by decide):PE X (.Name x pos) (tCT X.K xs):=by
 obtain⟨a,o,its,n,z,h1,h2,Y,F,Z⟩:=h;intro pins s σ H Q I q;exact lU (v:=.ref a) B z rfl U pins s σ H Q I (q a (.inr ⟨o,its,n,h1,h2,Y,F,Z⟩))
def bJ (c:Nat):Bool:=decide (97<=c) && decide (c<=122)
theorem HC (c:Nat):decide ([c] < (Str.ofString "a").cps.toList)=decide (c < 97):=by
 rw[show(Str.ofString "a").cps.toList=[97] by decide+kernel,Bool.eq_iff_iff]
 simp[cons_lt_cons_iff]
theorem Hw (c:Nat):decide ((Str.ofString "z").cps.toList < [c])=decide (122 < c):=by
 rw[show(Str.ofString "z").cps.toList=[122] by decide+kernel,Bool.eq_iff_iff]
 simp[cons_lt_cons_iff]
theorem A4 {c:Nat} {Q:Bool->Prop} (q:Q (bJ c)):if decide (c < 97)=false then Q (!decide (122 < c)) else Q false:=by
 unfold bJ at q
 by_cases h:c < 97
 .rw[decide_eq_true h,if_neg (by decide)]
  rw[decide_eq_false (show ¬ 97<=c by omega),Bool.false_and] at q
  exact q
 .rw[decide_eq_false h,if_pos rfl]
  rw[decide_eq_true (show 97<=c by omega),Bool.true_and] at q
  by_cases h2:122 < c
  .rw[decide_eq_true h2];rw[decide_eq_false (show ¬ c<=122 by omega)] at q;exact q
  .rw[decide_eq_false h2];rw[decide_eq_true (show c<=122 by omega)] at q;exact q
theorem oQ (a b:Str):(a++b).length=a.length+b.length:=by
 show(a++b).cps.size=a.cps.size+b.cps.size
 exact Array.size_append
theorem zF (w:Wlk J xs C) {te:TE} {σ0:St} {Q:VK} {H1:Hp} {D:Addr} (f:V->V) (B:H1 D=none) (Y : ∀H',am H1 H'->C H') (hn:xs.length<=1000)
  (U : ∀(x:V) (H2:Hp) (F:VK),x∈xs->am H1 H2->F (f x) H2->te (σ0.set 0 (some x)) H2 F)
  (z : ∀H2,am H1 H2->H2 D=some (.lst (xs.map f))->Q (.ref D) H2):lm J σ0 (dW 0) pT te Q H1 D:=by
 refine cD w (λi ys H=>ys=(xs.take i).map f/\i<=xs.length/\am H1 H/\H D=some (.lst ys)) ⟨by simp,zero_le _,am.upd0 B,ab⟩ (λi ys H h=>Y _ h.2.2.1) ?_ ?_
 .rintro i x ys H hi hx ⟨rfl,hle,sm,z⟩
  simp only[dW,pT,if_true];refine U x H _ (mem_of_getElem? hx) sm ⟨z,by simp;exact ax (by omega),?_,hi,?_,ab⟩
  .rw[take_add_one,hx];simp
  .exact λb o e=>by rw[ag (aj e B)];exact sm b o e
 .rintro ys H ⟨rfl,_,sm,hd'⟩
  rw[take_length] at hd';exact z H sm hd'
theorem nJ (z:ci k A):A.units+100 < cLine:=by have:=z.un;omega
end L2
namespace HT
open PySem PyProof.Rows
theorem cat_tup0 {vs ws:List Value} (ht:IsTup s.heap t vs.toArray) (hb:IsTup s.heap b ws.toArray) (hv:vs=[])
  (h1:Q (.ref b) s):wpAny (model prog w) A (binaryOp .Add (.ref t) (.ref b)) Q E s:=by
 obtain⟨⟨cls,dd,data,sl⟩,ho,hc,n,hd⟩:=id ht;obtain⟨⟨ac,aa,Z,Y⟩,B,U,n2,z⟩:=id hb;simp only at hc hd U z;subst hc hd U z;exact concat_meets ⟨_,ho,rfl⟩ ⟨_,B,rfl⟩ noFill_tuple_add seq_tuple_add PySem.F.slot_tuple_add PySem.F.entry_tuple_add (PySem.F.args_tuple_add_2 _ _)
   (tuple_addW0 t b vs.toArray ws.toArray n n2 dd aa sl Y (by simp[hv])) ⟨ho,B,h1⟩
end HT
namespace L2
open PySem PySem.Spec PyProof.Rows
section
variable {a b o l:Expr} {t:TA}
def rCT:R2:=λx y H Q=>∃l,x = .ref l/\∃b,y = .ref b/\∃xs,H l=some (.tup xs)/\∃ys,H b=some (.tup ys)/\xs.length+ys.length<=sizeLine /\
 (xs=[]->Q (.ref b) H)/\(xs≠[]->ys=[]->Q (.ref l) H)/\(xs≠[]->ys≠[]->∀p,H p=none->Q (.ref p) (upd H p (.tup (xs++ys))))
theorem zj:OpR X (binaryOp .Add) rCT:=by
 intro pins s σ H x y v u Q I F Z h;obtain⟨a,rfl,b,rfl,xs,B,ys,Y,hz,q0,q1,q2⟩:=h
 by_cases z:xs=[]
 .cases F
  cases Z;obtain⟨its,r1,p1,_⟩:=I.tuple (SqT.of B);obtain⟨U,r2,p2,_⟩:=I.tuple (SqT.of Y);exact HT.cat_tup0 p1 p2 (r1.nil_iff.mpr z) ⟨.ref b,H,I,rfl,q0 z⟩
 .exact BT pins s σ H _ _ v u Q I F Z ⟨a,b,xs,ys,rfl,rfl,.of B,.of Y,z,hz,q1 z,q2 z⟩
def Gg (i j:Int):Prop:=0 < j/\j < 18446744073709551616
theorem zy:OpR X (binaryOp .FloorDiv) (rI Gg λi j=>.int (i / j)):=opI λi j _ _ _ _ _ z q=>by
 have h1:(0:Int) < j:=z.1
 have h2:j < 18446744073709551616:=z.2
 refine floordiv_int (by omega) (by rw[Int.fdiv_eq_ediv_of_nonneg i (by omega)];exact q) (.inl (PyProof.noPylong_of_log2 ?_))
 have B:j.natAbs < 2 ^ 64:=by omega
 exact lt_trans ((Nat.log2_lt (by omega)).mpr B) (by decide)
abbrev RMS:=Str->List V->Hp->VK->Prop
def MtS (X:Cx) (id:String) (r:RMS):Prop:=MtR X id λx vs H Q=>∃p,x = .str p/\r p vs H Q
def tMS (r:RMS) (to:TE) (t:TA):TE:=λσ H Q=>to σ H λx H1=>∃p,x = .str p/\t σ H1 λvs H2=>r p vs H2 Q
variable {id:String} {r:RMS}
theorem C7 (ac:Slot "str" name id) (ad:typeOf (.builtin id)=pure (.type "method_descriptor")) (hm:MtS X id r) (ho:PE X o to) (ha:PA X (e :: es) t)
  (Z:attributeBase o name X.env (eval o X.env)=eval o X.env:=by rfl)
  (aa:((backTo cpos (starEach (e :: es) X.env)).all (λx=>!x.1) && (backToKw cpos (keywordEach [] X.env)).all (λx=>x.1.isSome)
   && decide ((e :: es).length+([]:List Keyword).length+(if ([]:List Keyword).isEmpty then 0 else 1) < 30))=true:=by rfl)
  (Y:(apos.endLine == cpos.line)=true:=by rfl) (hs:starEach (e :: es) X.env=(false,eval e X.env) :: starEach es X.env:=by rfl) (z:(backTo cpos (starEach es X.env)).any (·.1)=false:=by rfl) :
  PE X (.Call (.Attribute o name apos) (e :: es) [] cpos) (tMS r to t):=by
 intro pins s σ H Q I h;refine wpAny_Call_method_late Z aa Y rfl (thn (ho pins s σ H _ I h) λv s1 U=>?_)
 obtain⟨x,H1,I1,r1,p,ex,q1⟩:=U;subst ex;obtain⟨h1,h2⟩:=vY I1 r1 (show tyV X.K "str" (.str p) H1 from rfl)
 refine⟨"str",id,PySem.F.plainAttrs_str,ac,ad,h1,h2,?_⟩
 have hA:=ha cpos pins s1 σ H1 _ I1 q1;rw[hs] at hA ⊢;refine Calls.callWith_builtin (by show(false || (backTo cpos (starEach es X.env)).any (·.1))=false;rw[z] <;> rfl) (Calls.evalArgs_plain ?_)
 refine thn hA λus s2 B=>?_
 obtain⟨vs,H2,I2,rr,q2⟩:=B;exact hm pins s2 σ H2 (.str p) vs v us Q I2 r1 rr ⟨p,rfl,q2⟩
theorem wm {ns:List Str} : ∀{us:List Value},aR (ns.map V.str) us->StrsAre us ns:=by
 induction ns with
 | nil=>intro us h;cases h;exact .nil
 | cons n ns F =>
  intro us h;cases h with
  | cons B z =>
   obtain⟨t,rfl⟩:=B;exact .cons _ _ (F z)
def vq:RMS:=λz vs H Q=>∃p,vs=[.ref p]/\∃ys:List Str,H p=some (.lst (ys.map V.str))/\(ys.map (·.length)).sum+ys.length * z.length<=16777216/\Q (.str (Txt.join z ys)) H
theorem BO:MtS X "str.join" vq:=by
 intro pins s σ H x vs v us Q I U Z h;obtain⟨z,rfl,p,rfl,ys,F,B,q⟩:=h;obtain⟨t,rfl⟩:=U;obtain⟨u,rfl,Y⟩:=cI Z;cases Y;obtain⟨its,r,pl,hz⟩:=I.list (SqL.of F);exact join_list pl.isList (ys:=ys) (by simpa using wm r) B λt' k=>⟨.str _,H,I.tok k,⟨t',rfl⟩,q⟩
def mh:RMS:=λz vs H Q=>∃y,vs=[.str y]/\∃i rest,Builtin.Str.occurrences z y 0 z.length 1=i :: rest/\Q (.int (i:Nat)) H
theorem Ao:MtS X "str.index" mh:=by
 intro pins s σ H x vs v us Q I F Y h;obtain⟨z,rfl,y,rfl,i,rest,B,q⟩:=h;obtain⟨t,rfl⟩:=F;obtain⟨u,rfl,U⟩:=cI Y;obtain⟨t',rfl⟩:=U;exact SC.index B ⟨.int i,H,I.tok _,⟨_,rfl⟩,q⟩
end
theorem BD {a b:Str} (h:a.cps.toList=b.cps.toList):a=b:=by
 cases a;cases b;congr 1;exact ext' h
theorem jw (a b:Str):(a++b).cps.toList=a.cps.toList++b.cps.toList:=by
 show(a.cps++b.cps).toList=_
 simp
theorem fZ (l:List Nat) (s:Nat) : ∀n,s+n<=l.length->((range n).map λk=>s+k).filterMap (λi=>l[i]?)=(l.drop s).take n
 | 0,_=>by simp
 | n+1,h=>by
  rw[List.range_succ,map_append,List.filterMap_append,fZ l s n (by omega),take_add_one]
  have e:l[s+n]? = some (l[s+n]'(by omega)):=by simp
  simp[e,List.getElem?_drop]
theorem Ey (lo hi:Option Int) (n:Nat):Builtin.Str.strSliceIndices lo hi 1 n=(range (HT.sIx n n hi - HT.sIx n 0 lo)).map λk=>HT.sIx n 0 lo+k:=by
 have z : ∀(v:Int) (d:Nat),(if (1:Int) > 0 then max 0 (min (if v < 0 then v+(n:Int) else v) (n:Int)) else max (-1) (min (if v < 0 then v+(n:Int) else v) ((n:Int) - 1)))=((HT.sIx n d (some v):Nat):Int):=λv d=>by
  rw[if_pos (by decide)]
  show max 0 (min (if v < 0 then v+(n:Int) else v) (n:Int))=(((if v < 0 then(v+(n:Int)).toNat else min v.toNat n):Nat):Int)
  split <;> rw[Int.max_def,Int.min_def] <;> split <;> split <;> omega
 have base : ∀(a b:Nat),sliceRange (a:Int) (b:Int) 1=(range (b - a)).map λk=>a+k:=λa b=>by
  unfold sliceRange;simp only[show(1:Int) > 0 by decide,if_true,Int.one_mul]
  have e:(if (a:Int) < (b:Int) then((b:Int) - (a:Int)+1 - 1) / 1 else 0).toNat=b - a:=by
   split
   .rw[Int.ediv_one];omega
   .show(0:Int).toNat=b - a
    rw[Int.toNat_zero];omega
  rw[e];refine map_congr_left λk _=>?_
  omega
 unfold Builtin.Str.strSliceIndices;cases lo with
 | none=>cases hi with
  | none=>exact base 0 n
  | some v=>simp only[];rw[z v n];exact base 0 _
 | some u=>cases hi with
  | none=>simp only[];rw[z u 0];exact base _ n
  | some v=>simp only[];rw[z u 0,z v n];exact base _ _
theorem kH (x:Str) (lo hi:Option Int):(Txt.slice x lo hi).cps.toList=(x.cps.toList.drop (HT.sIx x.length 0 lo)).take (HT.sIx x.length x.length hi - HT.sIx x.length 0 lo):=by
 have h1:=HT.sIx_le x.length x.length (le_refl _) hi;have B:=HT.sIx_le x.length 0 (zero_le _) lo;have hl:x.cps.toList.length=x.length:=by show x.cps.toList.length=x.cps.size;simp
 unfold Txt.slice;rw[Ey]
 split
 .rename_i h
  simp only[beq_self_eq_true,Bool.true_and,length_map,length_range,beq_iff_eq] at h;have z:HT.sIx x.length 0 lo=0:=by omega
  rw[h,z,drop_zero,<- hl,take_length]
 .show((List.map _ _).filterMap (λi=>x.cps[i]?)).toArray.toList=_
  rw[List.toList_toArray];rw[<- fZ _ _ _ (by omega)]
  refine congrArg (λf=>List.filterMap f _) (funext λi=>?_)
  simp
theorem zW (ys:List Str):(Txt.join (Str.ofString "") ys).cps.toList=ys.flatMap λy=>y.cps.toList:=by
 have key : ∀(l:List Str) (acc:Array Nat),(l.foldl (λacc p=>acc++(Str.ofString "").cps++p.cps) acc).toList=acc.toList++l.flatMap λy=>y.cps.toList:=by
  intro l
  induction l with
  | nil=>intro acc;simp
  | cons a l z =>
   intro acc;rw[List.foldl_cons,z];have e:(Str.ofString "").cps = #[]:=by decide+kernel
   simp[e]
 show((ys.drop 1).foldl _ (ys.headD Str.empty).cps).toList=_
 rw[key];cases ys with
 | nil=>simp;decide+kernel
 | cons a l=>simp
structure bS (w:Str):Prop where
 pos:1<=w.length
 le:w.length<=8
 small : ∀c∈w.cps.toList,bJ c=true
theorem kb (x:Str):x.cps.toList.length=x.length:=by show x.cps.toList.length=x.cps.size;simp
theorem bS.cons {w:Str} (h:bS w) : ∃c cs,w.cps.toList=c :: cs/\bJ c=true/\(∀x∈cs,bJ x=true)/\cs.length<=7:=by
 have hl:=kb w;cases e:w.cps.toList with
 | nil=>rw[e] at hl;have:=h.pos;simp at hl;omega
 | cons c cs =>
  rw[e] at hl;have:=h.le
  exact⟨c,cs,rfl,h.small c (by rw[e];simp),λx z=>h.small x (by rw[e];simp[z]),by simp at hl;omega⟩
theorem bS.of {w:Str} {c:Nat} {cs:List Nat} (e:w.cps.toList=c :: cs) (F:bJ c=true) (z : ∀x∈cs,bJ x=true) (hl:cs.length<=7):bS w:=by
 have h:=kb w;rw[e] at h;simp at h
 refine⟨by omega,by omega,λx B=>?_⟩
 rw[e] at B;rcases mem_cons.mp B with rfl | q
 .exact F
 .exact z x q
theorem mM {r:Int} (z:0<=r) (h1:r < 26):atI (Str.ofString "abcdefghijklmnopqrstuvwxyz").cps.toList r=some (97+r.toNat):=by
 obtain⟨n,rfl⟩:=Int.eq_ofNat_of_zero_le z;rw[show(Str.ofString "abcdefghijklmnopqrstuvwxyz").cps.toList=range' 97 26 by decide+kernel]
 refine aM ?_
 rw[List.getElem?_range' (by omega)]
 simp
theorem lu:(Str.ofString "abcdefghijklmnopqrstuvwxyz").length<=sizeLine:=by decide+kernel
theorem pK {c:Nat} (h:bJ c=true):Builtin.Str.occurrences (Str.ofString "abcdefghijklmnopqrstuvwxyz") ⟨#[c]⟩ 0 (Str.ofString "abcdefghijklmnopqrstuvwxyz").length 1=(c - 97) :: []:=by
 have key : ∀i:Fin 26,Builtin.Str.occurrences (Str.ofString "abcdefghijklmnopqrstuvwxyz") ⟨#[97+i.1]⟩ 0 (Str.ofString "abcdefghijklmnopqrstuvwxyz").length 1=[i.1]:=by decide+kernel
 simp only[bJ,Bool.and_eq_true,decide_eq_true_eq] at h;have:=key ⟨c - 97,by omega⟩
 simp only[show 97+(c - 97)=c by omega] at this
 exact this
def uN (c:Nat):Nat:=97+(c - 97+1) % 26
def Bh:List Nat->List Nat
 | []=>[]
 | c :: cs=>uN c :: cs
def oj (w:Str):Str:=⟨(Bh w.cps.toList).toArray⟩
def nW:Nat->Str->Str
 | 0,w=>w
 | n+1,w=>nW n (oj w)
theorem mQ (c:Nat):bJ (uN c)=true:=by
 have:=Nat.mod_lt (c - 97+1) (show 0 < 26 by decide)
 unfold bJ uN;rw[Bool.and_eq_true,decide_eq_true_eq,decide_eq_true_eq];exact⟨by omega,by omega⟩
theorem BH {w:Str} (h:bS w):bS (oj w):=by
 obtain⟨c,cs,e,B,z,hl⟩:=h.cons;exact .of (c:=uN c) (cs:=cs) (by simp[oj,e,Bh]) (mQ c) z hl
theorem Az {c:Nat} {cs:List Nat} : ∀(n:Nat) {w:Str},w.cps.toList=c :: cs->bJ c=true->(nW n w).cps.toList=(97+(c - 97+n) % 26) :: cs:=by
 intro n
 induction n generalizing c with
 | zero =>
  intro w e z;simp only[bJ,Bool.and_eq_true,decide_eq_true_eq] at z;rw[nW,e]
  congr 1
  omega
 | succ n B =>
  intro w e z;rw[nW,B (c:=uN c) (by simp[oj,e,Bh]) (mQ c)]
  congr 1
  simp only[uN];omega
theorem uK {α:Type} [BEq α] [LawfulBEq α] : ∀{xs ys:List α},xs.Nodup->(∀x∈xs,x∈ys)->xs.length<=ys.length
 | [],_,_,_=>by simp
 | x :: xs,ys,hn,h=>by
  have B:=nodup_cons.mp hn;have U:=h x (by simp)
  have:=uK (xs:=xs) (ys:=ys.erase x) B.2 λz Y=>by
   have F:z≠x:=λe=>B.1 (e ▸ Y)
   exact(List.mem_erase_of_ne F).mpr (h z (by simp[Y]))
  rw[List.length_erase_of_mem U] at this;have:=List.length_pos_of_mem U
  simp
  omega
theorem yk {w:Str} (h:bS w) {F:List Str} (hF:F.length < 26) : ∃n,nW n w∉F:=by
 obtain⟨c,cs,e,hc,aa,hl⟩:=h.cons;have B : ∀i j,i < 26->j < 26->nW i w=nW j w->i=j:=λi j hi hj q=>by
  have q2:=congrArg (λz:Str=>z.cps.toList) q
  simp only[Az _ e hc] at q2;have q3:=(List.cons.inj q2).1;omega
 refine Classical.byContradiction λY=>?_
 have U : ∀n,nW n w∈F:=λn=>Classical.byContradiction λq=>Y ⟨n,q⟩
 have Z:((range 26).map λn=>nW n w).Nodup:=by
  refine pairwise_map.mpr (List.Pairwise.imp_of_mem (λ{i j} hi hj q e=>q (B i j (mem_range.mp hi) (mem_range.mp hj) e)) (List.nodup_range (n:=26)))
 have:=uK (ys:=F) Z λx hx=>by
  obtain⟨n,_,rfl⟩:=mem_map.mp hx;exact U n
 simp at this
 omega
theorem Bj (a b:Str):eqV (.str a) (.str b)=decide (a=b):=by
 show(a == b)=decide (a=b)
 rw[Bool.eq_iff_iff];simp
theorem mK (x:Str) (ys:List Str):inV (.str x) (ys.map V.str)=decide (x∈ys):=by
 rw[Bool.eq_iff_iff];simp only[inV,List.any_map,any_eq_true,Function.comp,Bj,decide_eq_true_eq]
 constructor
 .rintro⟨y,hy,rfl⟩;exact hy
 .exact λh=>⟨x,h,rfl⟩
theorem yJ (ys:List Str):(ys.map V.str).all eN=true:=by
 rw[all_eq_true];intro x z;obtain⟨y,_,rfl⟩:=mem_map.mp z;rfl
def du:List Str:=["in","from","to","end"]
structure cK (ws:List Str):Prop where
 nm : ∀w∈ws,bS w
 nd:ws.Nodup
 nomark : ∀w∈ws,w∉du
theorem cK.nil:cK []:=⟨by simp,by simp,by simp⟩
theorem cK.snoc {w:Str} (h:cK ws) (hw:bS w) (hn:w∉ws) (F:w∉du):cK (ws++[w]):=by
 refine⟨λx z=>?_,?_,λx z=>?_⟩
 .rcases mem_append.mp z with q | q
  .exact h.nm x q
  .rw[mem_singleton.mp q];exact hw
 .rw[nodup_append]
  refine⟨h.nd,by simp,λa B b U=>?_⟩
  rw[mem_singleton.mp U];rintro rfl
  exact hn B
 .rcases mem_append.mp z with q | q
  .exact h.nomark x q
  .rw[mem_singleton.mp q];exact F
theorem uv (x:α) (xs:List α):atI (x :: xs) 0=some x:=aM (j:=0) rfl
theorem BI {z:Str} {r:Int} {c:Nat} (B:bS z) (Y:bJ c=true) (Z:0<=r) (r1:r < z.length):bS (Txt.slice z none (some r)++(Str.mk #[c])++Txt.slice z (some (r+1)) none):=by
 obtain⟨n,rfl⟩:=Int.eq_ofNat_of_zero_le Z;have hn:n < z.length:=by omega
 have hl:=kb z;have e:(Txt.slice z none (some (n:Int))++(Str.mk #[c])++Txt.slice z (some ((n:Int)+1)) none).cps.toList=z.cps.toList.take n++[c]++z.cps.toList.drop (n+1):=by
  rw[jw,jw,kH,kH,HT.sIx_none,HT.sIx_nat,HT.sIx_none,show((n:Int)+1)=((n+1:Nat):Int) by omega,HT.sIx_nat,min_eq_left (by omega),min_eq_left (by omega)]
  rw[drop_zero,Nat.sub_zero,take_of_length_le (i:=z.length - (n+1)) (by rw[length_drop,hl];omega)]
 have h8:=B.le;have U:(Txt.slice z none (some (n:Int))++(Str.mk #[c])++Txt.slice z (some ((n:Int)+1)) none).length=z.length:=by
  rw[<- kb,e];simp only[length_append,length_take,length_drop,length_cons,length_nil,hl];omega
 refine⟨by omega,by omega,λx F=>?_⟩
 rw[e] at F;rcases mem_append.mp F with q | q
 .rcases mem_append.mp q with q | q
  .exact B.small x (mem_of_mem_take q)
  .rw[mem_singleton.mp q];exact Y
 .exact B.small x (List.mem_of_mem_drop q)
theorem vF (cs:List Nat):(Txt.join (Str.ofString "") (cs.map λc=>Str.mk #[c])).cps.toList=cs:=by
 rw[zW]
 induction cs with
 | nil=>rfl
 | cons c cs z=>simp[z]
theorem A8 (cs:List Nat):((cs.map λc=>Str.mk #[c]).map λx=>x.length).sum=cs.length:=by
 induction cs with
 | nil=>rfl
 | cons c cs z =>
  rw[map_cons,map_cons,List.sum_cons,z]
  show 1+cs.length=cs.length+1
  omega
def Ex:V->Option Int->Option Int->Hp->VK->Prop:=λx lo hi H Q=>∃a,x = .ref a/\∃xs,H a=some (.tup xs)/\∀p H',H' p=some (.tup (dQ xs lo hi))->am H H'->Q (.ref p) H'
theorem oM:SlR X Ex:=HA.imp λ_ _ _ _ _ z=>by obtain⟨a,e,xs,h,q⟩:=z;exact(⟨a,e,xs,h,λhw=>q a _ (by rw[hw];exact h) (am.refl _),λp B=>q p _ ab (am.upd0 B)⟩)
def DA:R2:=λx y H Q=>∃l,x = .ref l/\∃b,y = .ref b/\∃xs,H l=some (.tup xs)/\∃ys,H b=some (.tup ys)/\xs.length+ys.length<=sizeLine/\∀p H',H' p=some (.tup (xs++ys))->am H H'->Q (.ref p) H'
theorem eO:OpR X (binaryOp .Add) DA:=zj.imp λ_ _ _ _ ⟨l,e,b,e2,xs,h,ys,h2,hl,q⟩=>⟨l,e,b,e2,xs,h,ys,h2,hl,
 λB=>q b _ (by rw[B];exact h2) (am.refl _),λ_ z=>q l _ (by rw[z,append_nil];exact h) (am.refl _),λ_ _ p F=>q p _ ab (am.upd0 F)⟩
theorem lZ (f:α->V) (xs:List α) (n:Nat):dQ (xs.map f) none (some (n:Int))=(xs.take n).map f:=by
 unfold dQ;rw[HT.sIx_none,HT.sIx_nat,drop_zero,Nat.sub_zero,length_map,map_take]
 by_cases h:n<=xs.length
 .rw[min_eq_left h]
 .rw[Nat.min_eq_right (by omega),take_of_length_le (by simp),take_of_length_le (by simp;omega)]
theorem jO (f:α->V) (xs:List α) (n:Nat):dQ (xs.map f) (some (n:Int)) none=(xs.drop n).map f:=by
 unfold dQ;rw[HT.sIx_none,HT.sIx_nat,length_map,map_drop]
 by_cases h:n<=xs.length
 .rw[min_eq_left h,take_of_length_le (by simp)]
 .rw[Nat.min_eq_right (by omega),List.drop_of_length_le (l:=List.map f xs) (i:=n) (by simp;omega)]
  simp
theorem HY (x:α) (xs:List α):atI (x :: xs) 0=some x:=aM (j:=0) rfl
theorem HM (x y:α) (xs:List α):atI (x :: y :: xs) 1=some y:=aM (j:=1) rfl
theorem Hz (x y z:α) (xs:List α):atI (x :: y :: z :: xs) 2=some z:=aM (j:=2) rfl
theorem HL (x y z a:α) (xs:List α):atI (x :: y :: z :: a :: xs) 3=some a:=aM (j:=3) rfl
theorem HN (x y z a b:α) (xs:List α):atI (x :: y :: z :: a :: b :: xs) 4=some b:=aM (j:=4) rfl
theorem Ch {a b:String}:(Str.ofString a=Str.ofString b)=(a=b):=by
 refine propext ⟨λh=>?_,λh=>by rw[h]⟩
 rw[Str.ofString_eq_toList,Str.ofString_eq_toList] at h;have h1:=congrArg (λs:Str=>s.cps.toList) h
 simp only[List.toList_toArray] at h1;have key : ∀(B z:List Char),B.map Char.toNat=z.map Char.toNat->B=z:=by
  intro B
  induction B with
  | nil=>intro z h;cases z with
   | nil=>rfl
   | cons a b=>cases h
  | cons a b F=>intro z h;cases z with
   | nil=>cases h
   | cons c d =>
    rw[map_cons,map_cons,List.cons.injEq] at h;rw[F d h.2,Char.toNat_inj.mp h.1]
 exact String.toList_injective (key _ _ h1)
theorem PG.imp {g g':TG} (h:PG X tg g) (i : ∀v σ H Q,g' v σ H Q->g v σ H Q):PG X tg g':=λpins s σ H v u Q I r q=>h pins s σ H v u Q I r (i _ _ _ _ q)
def xi (n:Nat) (t:TGs):TG:=λv σ H Q=>∃a,v = .ref a/\∃xs,H a=some (.tup xs)/\xs.length=n/\t xs σ H Q
theorem de {t:TGs} (F:X.calm=true) (h:PGs X es t)
  (hn:(assignEach es X.env).length=n:=by rfl) (B:(assignEach es X.env).findIdx? (·.1)=none:=by rfl):PG X (.Tuple es k pos) (xi n t) :=
 (ED F h hn B).imp λ_ _ _ _ z=>by obtain⟨a,e,xs,h,hl,q⟩:=z;exact(⟨a,xs,e,.of h,hl,q⟩)
theorem bS.lay {w:Str} (h:bS w):PyData.canLay0 (.str w)=true:=by
 show(w.cps.all (· < 0x110000))=true
 rw[Array.all_eq_true_iff_forall_mem];intro c z;have:=h.small c (by simpa using z)
 simp only[bJ,Bool.and_eq_true,decide_eq_true_eq] at this;exact decide_eq_true (by omega)
theorem dF : ∀{ws:List Str},(∀w∈ws,bS w)->PyData.canLayAll0 (ws.map PyData.str)=true
 | [],_=>rfl
 | w :: ws,h=>by
  rw[map_cons,PyData.canLayAll0,(h w (by simp)).lay,dF λx z=>h x (by simp[z])]
  rfl
theorem cS : ∀(ws:List Str),PyData.depthAll (ws.map PyData.str)=0
 | []=>rfl
 | w :: ws=>by
  rw[map_cons,PyData.depthAll,PyData.depth,cS ws];rfl
def vI:List V->Hp->VK->Prop:=λxs H Q=>∃p,xs=[.ref p]/\∃kvs,H p=some (.dK kvs)/\∀q,H q=none->Q (.ref q) (upd H q (.dK kvs))
theorem ny:bE X (.type "dict") vI:=by
 intro pins s σ H xs us Q I r h;obtain⟨p,rfl,kvs,Z,q⟩:=h;obtain⟨u,rfl,ru⟩:=cI r;cases ru;obtain⟨z,hd,vs,F,Y⟩:=fT I.hok Z;refine PySem.kt_call_dict hd Y (by rw[<- F.length];exact z) λh' U sb=>?_
 have B : ∀b o,s.heap.get? b=some o->h'.get? b=some o:=λb o e=>sb.extBut b o (ne_of_lt (Heap.lt_size e)) (Heap.get?_push_of_some _ e)
 exact⟨.ref s.heap.objs.size,_,I.laid (a:=s.heap.objs.size) (o:=.dK kvs) (t':=s.toks) B (le_refl _) ⟨z,beq_eq_false_iff_ne.mpr (Ne.symm (ne_of_lt I.big)),vs,F,U⟩,rfl,q _ (I.hok.fresh (le_refl _))⟩
def hZ:V->Bool
 | .non=>true
 | .bl _=>true
 | .int _=>true
 | .str _=>true
 | .ref _=>true
 | _=>false
theorem yC {v:V} {a b:Value} (z:hZ v=true) (ra:aY v a) (rb:aY v b):SeqAt.EqAt A s a b true:=by
 cases v with
 | non=>cases ra;cases rb;exact SeqAt.EqAt.same _
 | bl b=>cases ra;cases rb;exact SeqAt.EqAt.same _
 | int i =>
  obtain⟨t,rfl⟩:=ra;obtain⟨t',rfl⟩:=rb;have h:=SeqAt.EqAt.int_int (A:=A) (s:=s) i t i t';simpa using h
 | str i =>
  obtain⟨t,rfl⟩:=ra;obtain⟨t',rfl⟩:=rb;have h:=SeqAt.EqAt.str_str (A:=A) (s:=s) i t i t';simpa using h
 | ref a=>cases ra;cases rb;exact SeqAt.EqAt.same _
 | _=>exact absurd (show false=true from z) Bool.false_ne_true
theorem ku {κ:Type} [DecidableEq κ] : ∀{kvs:List (κ × V)} {k:κ} {v:V},(kvs.map (·.1)).Nodup->(k,v)∈kvs->bu kvs k=some v
 | (a,b) :: r,k,v,hn,hm=>by
  rw[map_cons,nodup_cons] at hn;rcases mem_cons.mp hm with e | e
  .cases e
   exact bc rfl
  .have hne : ¬ a=k:=λz=>hn.1 (by subst z;exact mem_map.mpr ⟨(a,v),e,rfl⟩)
   rw[aQ hne];exact ku hn.2 e
theorem yD (rb:KV kvs vb) : ∀{l:List (Key × V)} {B:List (Key × Value)},KV l B->(∀p∈l,bu kvs p.1=some p.2/\hZ p.2=true)->PySem.W.KeqHits A s vb B true:=by
 intro l B r;unfold KV at r
 induction r with
 | nil=>intro _;exact .nil
 | @cons p q ps qs h _ ih =>
  intro z;obtain⟨k,v⟩:=p;obtain⟨k',u⟩:=q;obtain⟨e,F⟩:=h;dsimp only at e F;subst e;obtain⟨h1,h2⟩:=z (k,v) (by simp)
  dsimp only at h1 h2;obtain⟨y,Y,Z⟩:=iN.some_of (v:=v) (o:=valueAt vb k) (by rw[<- h1];exact rb.val k)
  exact PySem.W.KeqHits.hit (e:=true) (b:=true) Y (yC h2 F Z) (ih λp U=>z p (by simp[U]))
def Be:R2:=λx y H Q=>∃a,x = .ref a/\∃b,y = .ref b/\∃kvs,H a=some (.dK kvs)/\H b=some (.dK kvs)/\(∀p∈kvs,hZ p.2=true)/\Q (.bl false) H
theorem Ck (hu:X.A.units < cLine):OpR X (compareOp .NotEq) Be:=by
 intro pins s σ H x y v u Q I rx ry h;obtain⟨a,rfl,b,rfl,kvs,ha,hb,hp,q⟩:=h;cases rx;cases ry;obtain⟨z,hd,vs,F,dd⟩:=fT I.hok ha;obtain⟨z2,Y,aa,B,Z⟩:=fT I.hok hb;have hn:(vs.map (·.1)).Nodup:=let ⟨_,_,_,_,_,_,_,_,hn⟩:=dd;hn
 rw[<- F.keys] at hn;refine keq_ne (r:=true) hd Y dd Z hu (λ_=>yD B F λp U=>⟨ku hn U,hp p U⟩) ?_
 rw[<- F.length,<- B.length,beq_self_eq_true];exact⟨.bl false,H,I,rfl,q⟩
def rC:List V->Hp->VK->Prop:=λxs H Q=>∃p,xs=[.ref p]/\∃ns:List Int,H p=some (.lst (ns.map V.int))/\ns.length < 64/\∀(q:Addr) (ms:List Int),H q=none->ms.Perm ns->ms.Pairwise (·<=·)->Q (.ref q) (upd H q (.lst (ms.map V.int)))
theorem uO:bE X (.builtin "sorted") rC:=by
 intro pins s σ H xs us Q I r h;obtain⟨p,rfl,ns,hp,hl,q⟩:=h;obtain⟨u,rfl,ru⟩:=cI r;cases ru;obtain⟨its,Z,pl,hz⟩:=I.list (SqL.of hp);have B:=Z.length;rw[length_map] at B;refine sorted_ints pl.isList (cQ Z) (by omega) λout ms U z F=>?_
 obtain⟨e,he⟩:=sortedAll_at s.heap its out;have Y:out=out.toList.toArray:=by simp
 refine⟨.ref (s.heap.objs.size+1),_,I.laid (a:=s.heap.objs.size+1) (o:=.lst (ms.map V.int)) (t':=s.toks) (λb o e=>sortedAll_old e) (le_succ _) ⟨?_,out.toList,e,iB U,?_⟩,rfl,q _ ms (I.hok.fresh (le_succ _)) z F⟩
 .rw[length_map,z.length_eq];exact le_of_lt (ax (by omega))
 .rw[he]
def rB:RM:=λp vs H Q=>∃i,vs=[.int i]/\∃xs,H p=some (.lst xs)/\0<=i/\i < xs.length/\xs.length<=1000/\∀y,xs[i.toNat]? = some y->Q y (upd H p (.lst (xs.eraseIdx i.toNat)))
theorem uS:MtL X "list.pop" rB:=λpins s σ H x vs v us Q I B F ⟨p,e,i,e2,xs,h,i0,i1,hl,q⟩=>by
 have z:i.toNat < xs.length:=by omega
 exact A6 pins s σ H x vs v us Q I B F ⟨p,xs,i,i.toNat,xs[i.toNat],e,e2,h,by omega,by omega,seqIndex_of i0 i1,by simp[z],q _ (by simp[z])⟩
def iR (mg:Str->Option Value) (x:Str):Addr:=match mg x with | some (.ref a)=>a | _=>0
theorem oN {C:Addr} (h:mg x=some (.ref C)):iR mg x=C:=by unfold iR;rw[h]
def GQ (z:ScopeKind) (A xs:List (Str × NameKind)):List (Str × NameKind):=xs.map λ(n,k)=>if (k == .free && z == .function && A.lookup n == some .cell) then(n,.cell) else(n,k)
section
variable {l:Expr}
theorem wE (K:PySem.W.Frag) (hl:PE X l tl) (hK:X.K=K:=by exact rfl):PI X tg l (iL K tl):=by subst hK;exact Iw hl
theorem cX (K:PySem.W.Frag) (hl:PE X l tl) (hK:X.K=K:=by exact rfl):PI X tg l (iT K tl):=by subst hK;exact Ig hl
def yU:List V->Hp->VK->Prop:=λxs H Q=>∃p,xs=[.ref p]/\∃bs:List Bool,H p=some (.lst (bs.map V.bl))/\Q (.bl (bs.all id)) H
def zH:List V->Hp->VK->Prop:=λxs H Q=>∃p,xs=[.ref p]/\∃bs:List Bool,H p=some (.lst (bs.map V.bl))/\Q (.bl (bs.any id)) H
theorem fU (B:X.calm=true):bE X (.builtin "all") yU:=(vQ B).imp λ_ _ _ z=>by obtain⟨p,e,bs,h,q⟩:=z;exact(⟨p,bs,e,.of h,q⟩)
theorem yL (B:X.calm=true):bE X (.builtin "any") zH:=(vi B).imp λ_ _ _ z=>by obtain⟨p,e,bs,h,q⟩:=z;exact(⟨p,bs,e,.of h,q⟩)
end
theorem sj (w:Wlk J xs C) {tc:TT} {te:TE} {σ0:St} {Q:VK} {H1:Hp} {D:Addr} (p:V->Bool) (f:V->V) (Z:H1 D=none) (hC : ∀H',am H1 H'->C H') (hn:xs.length<=1000)
  (hc : ∀(x:V) (H2:Hp) (B:Bool->Hp->Prop),x∈xs->am H1 H2->(∀z,am H2 z->B (p x) z)->tc (σ0.set 0 (some x)) H2 B)
  (he : ∀(x:V) (H2:Hp) (B:VK),x∈xs->p x=true->am H1 H2->(∀z,am H2 z->B (f x) z)->te (σ0.set 0 (some x)) H2 B)
  (U : ∀H2,am H1 H2->H2 D=some (.lst ((xs.filter p).map f))->Q (.ref D) H2):lm J σ0 (dW 0) tc te Q H1 D:=by
 refine cD w (λi ys H=>ys=((xs.take i).filter p).map f/\i<=xs.length/\am H1 H/\H D=some (.lst ys)) ⟨by simp,zero_le _,am.upd0 Z,ab⟩ (λi ys H h=>hC _ h.2.2.1) ?_ ?_
 .rintro i x ys H hi hx ⟨rfl,hle,sm,U⟩
  refine hc x H _ (mem_of_getElem? hx) sm λz F=>?_
  have aa:((xs.take i).filter p).length<=xs.length:=le_trans (List.length_filter_le _ _) (by simp;omega)
  cases Y:p x with
  | true =>
   simp only[if_true];refine he x z _ (mem_of_getElem? hx) Y (sm.trans F) λH4 s4=>⟨s4 _ _ (F _ _ U),by simp;exact ax (by omega),?_,hi,?_,ab⟩
   .rw[take_add_one,hx];simp[Y]
   .exact λb o e=>by rw[ag (aj e Z)];exact s4 _ _ (F _ _ (sm b o e))
  | false =>
   simp only[Bool.false_eq_true,if_false];exact⟨by rw[take_add_one,hx];simp[Y],hi,sm.trans F,F _ _ U⟩
 .rintro ys H ⟨rfl,_,sm,hd'⟩
  rw[take_length] at hd';exact U H sm hd'
theorem cA (w:Wlk J xs C) {te:TE} {σ0:St} {Q:VK} {H1:Hp} {D:Addr} (f:V->V) (B:H1 D=none) (hC : ∀H',am H1 H'->C H') (hn:xs.length<=10000)
  (Z : ∀(x:V) (H2:Hp) (U:VK),x∈xs->am H1 H2->(∀F,am H2 F->U (f x) F)->te (σ0.set 0 (some x)) H2 U)
  (z : ∀H2,am H1 H2->H2 D=some (.lst (xs.map f))->Q (.ref D) H2):lm J σ0 (dW 0) pT te Q H1 D:=by
 refine cD w (λi ys H=>ys=(xs.take i).map f/\i<=xs.length/\am H1 H/\H D=some (.lst ys)) ⟨by simp,zero_le _,am.upd0 B,ab⟩ (λi ys H h=>hC _ h.2.2.1) ?_ ?_
 .rintro i x ys H hi hx ⟨rfl,hle,sm,z⟩
  simp only[dW,pT,if_true];refine Z x H _ (mem_of_getElem? hx) sm λH4 Y=>⟨Y _ _ z,by simp;exact Nat.lt_of_le_of_lt (le_trans (Nat.min_le_right _ _) hn) (by decide),?_,hi,?_,ab⟩
  .rw[take_add_one,hx];simp
  .exact λb o e=>by rw[ag (aj e B)];exact Y _ _ (sm b o e)
 .rintro ys H ⟨rfl,_,sm,hd'⟩
  rw[take_length] at hd';exact z H sm hd'
theorem ow {α:Type} : ∀{l:List α} {n:Nat} (h:n < l.length),(l[n] :: l.eraseIdx n).Perm l
 | a :: l,0,h=>by simp
 | a :: l,n+1,h=>by
  have h':n < l.length:=by simpa using h
  have:=ow h'
  simp only[List.getElem_cons_succ,List.eraseIdx_cons_succ];exact(List.Perm.swap _ _ _).trans (List.Perm.cons a this)
section
def DP (ty td:TE):TE:=λσ H Q=>ty σ H λy H1=>td σ H1 λx H2=>∃a,x = .ref a/\∃k,y=kV k/\∃kvs,H2 a=some (.dK kvs)/\Q (.bl (!(bu kvs k).isSome)) H2
variable {o i:Expr}
theorem Cf (F:X.A.units+1 < cLine) (hi:PE X i ty) (U:PE X o td):PC X .In i o (tDI ty td):=by
 intro pins s σ H Q I h;refine thn (hi pins s σ H _ I h) λiv s1 ⟨y,H1,I1,ry,q1⟩=>thn (U pins s1 σ H1 _ I1 q1) λu s2 z=>?_
 obtain⟨x,H2,I2,Y,a,ex,k,ey,kvs,Z,B⟩:=z;subst ex;subst ey;obtain rfl:u=Value.ref a:=Y
 have g:pR H2 a (kV k) (bu kvs k):=.inl ⟨kvs,k,.inl Z,rfl,rfl⟩
 exact HF F I2 g ry λs3 I3=>⟨.bl (bu kvs k).isSome,H2,I3,rfl,B⟩
theorem vE (F:X.A.units+1 < cLine) (hi:PE X i ty) (U:PE X o td):PC X .NotIn i o (DP ty td):=by
 intro pins s σ H Q I h;refine thn (hi pins s σ H _ I h) λiv s1 ⟨y,H1,I1,ry,q1⟩=>thn (U pins s1 σ H1 _ I1 q1) λu s2 z=>?_
 obtain⟨x,H2,I2,Y,a,ex,k,ey,kvs,Z,B⟩:=z;subst ex;subst ey;obtain rfl:u=Value.ref a:=Y
 have g:pR H2 a (kV k) (bu kvs k):=.inl ⟨kvs,k,.inl Z,rfl,rfl⟩
 exact BP F I2 g ry λs3 I3=>⟨.bl (!(bu kvs k).isSome),H2,I3,rfl,B⟩
end
theorem Inv.retag (I:Inv X pins σ H s) (F:H a=some u0) (n1 : ∀y,u0≠.own y) (n2 : ∀xs,u0≠.tup xs) (n3 : ∀ob u,X.H₀ a≠some (.frz ob u)) (n4 : ∀ps,u0≠.tbl ps)
  (ok:be X.prog X.w H s.heap a o') (n5 : ∀ob y,u0≠.frz ob (.own y):=by intro _ _ z;cases z):Inv X pins σ (upd H a o') s:=by
 have B : ∀b,H b=none->b≠a:=λb n z=>by subst z;rw[F] at n;cases n
 have Y : ∀b y,H b=some (.own y)->upd H a o' b=some (.own y):=λb y e=>by
  rw[ag (λz=>by subst z;rw[F] at e;exact n1 y (Option.some.inj e))];exact e
 have U : ∀b xs,H b=some (.tup xs)->upd H a o' b=some (.tup xs):=λb xs e=>by
  rw[ag (λz=>by subst z;rw[F] at e;exact n2 xs (Option.some.inj e))];exact e
 have Z : ∀b ob y,H b=some (.frz ob (.own y))->upd H a o' b=some (.frz ob (.own y)):=λb ob y e=>by
  rw[ag (λz=>by subst z;rw[F] at e;exact n5 ob y (Option.some.inj e))];exact e
 refine⟨I.ok,I.os,I.bare,⟨I.base.keep,I.base.slot,λb o q n hx=>?_,I.base.there,λb xs q=>U b xs (I.base.tups b xs q),λb ob u q=>?_,λb ps q=>?_⟩,I.loc,I.cell,?_,λx c e=>?_,λp hp=>?_,λb u e=>?_,I.len⟩
 .have:=I.base.free b o q n hx
  rw[ag (B b this)];exact this
 .rw[ag (λz=>by subst z;exact n3 ob u q)];exact I.base.frzs b ob u q
 .obtain⟨more,e⟩:=I.base.tbls b ps q
  exact⟨more,by rw[ag (λz=>by subst z;rw[F] at e;exact n4 _ (Option.some.inj e))];exact e⟩
 .rw[ag (B _ I.free)];exact I.free
 .have:=I.freeC x c e
  rw[ag (B c this)];exact this
 .obtain⟨p1,p2,p3⟩:=I.pin p hp
  exact⟨p1,by rw[ag (B _ p2)];exact p2,p3⟩
 .by_cases hb:b=a
  .subst hb
   rw[ab] at e;cases e;exact ok.stay (λ_ _ _ q=>q) (λc q=>Y c _ q) U Z
  .rw[ag hb] at e
   exact(I.hok b u e).stay (λ_ _ _ q=>q) (λc q=>Y c _ q) U Z
def Itd (a:Addr) (o:Obj) (kvs:List (Key × V)):It :=
 ⟨λi H=>H a=some (.frz o (.dK kvs))/\i < kvs.length,λi H x H'=>H'=H/\∃k v,kvs[i]? = some (k,v)/\x=kV k,λi H=>H a=some (.frz o (.dK kvs))/\kvs.length<=i⟩
theorem KV.get {vs:List (Key × Value)} (r:KV kvs vs) : ∀{i:Nat} {k:Key} {v:V},kvs[i]? = some (k,v)->∃u,vs[i]? = some (k,u)/\aY v u:=by
 unfold KV at r
 induction r with
 | nil=>intro i k v h;simp at h
 | @cons p q ps qs h _ ih =>
  intro i k v e;cases i with
  | zero =>
   simp at e
   subst e;obtain⟨z,u⟩:=q;obtain⟨h1,h2⟩:=h;dsimp only at h1 h2;subst h1;exact⟨u,by simp,h2⟩
  | succ i =>
   simp at e
   obtain⟨u,h1,h2⟩:=ih e;exact⟨u,by simpa using h1,h2⟩
theorem sC {k:Key} {key:Value} (h:(aU P w).is k key=true):aY (kV k) key:=by
 rcases bA (k:=k) (v:=key) h with⟨i,t,rfl,rfl⟩ | ⟨x,t,rfl,rfl⟩
 .exact⟨t,rfl⟩
 .exact⟨t,rfl⟩
theorem BL (a it:Addr) (o:Obj) (kvs:List (Key × V)) (ep:Nat) (ae : ∃es,o.data = .dict es ep):uW P w K tg (Itd a o kvs) [it] it (λi h=>h.IsKeyIter it a i kvs.length ep) where
 mem:=by simp
 obj:=λi h st b hb=>by
  have e:b=it:=by simpa using hb
  subst e;obtain⟨ob,e,c,d⟩:=st;exact⟨ob,e,λv z=>by rw[d] at z;cases z⟩
 keep:=λi h h' st k=>st.at λob e=>k it (by simp) ob e
 item:=by
  intro X hP hw hK hc i pins s σ H E I hf st hg;subst hP hw hK;obtain⟨ha,hi⟩:=hg;obtain⟨ho,hz,hd,vs,Y,od,es,F,U,hr⟩:=(show s.heap.get? a=some o/\be X.prog X.w H s.heap a (.dK kvs) from I.hok a _ ha)
  rw[ho] at U;cases U;obtain⟨ag,aa⟩:=ae;have ac:F=ep:=by
   have:=hr.2.1
   rw[aa] at this;cases this;rfl
  subst ac;have B:=Y.length;obtain⟨k,v,af⟩ : ∃k v,kvs[i]? = some (k,v):=⟨kvs[i].1,kvs[i].2,by simp[hi]⟩
  obtain⟨u,hu,ru⟩:=Y.get af;obtain⟨f0,f1,f2,f3,f4,f5⟩:=hf it (by simp)
  have ad:s.heap.IsKeyIter it a i vs.length F:=by rw[<- B];exact st
  refine wpAny_pyNext_dict_item (knd:=aU X.prog X.w) (v:=u) ad ⟨o,es,ho,hr⟩ hu λkey h' hk Z sb=>?_
  have I1:Inv X pins σ H { s with heap:=h' }:=I.turned (t':=s.toks) (λb ob hb e=>(sb.2 b hb).trans e) f0 f1 f3 f4 f5
  rw[<- B] at Z;obtain⟨ob,e,c,d⟩:=id Z;exact⟨key,rfl,qB (s:={ s with heap:=h' }) e c d (by decide) ⟨kV k,H,I1,sC hk,⟨rfl,k,v,af,rfl⟩,Z,λb hb=>(hf b hb).1⟩⟩
 done:=by
  intro X hP hw hK hc i pins s σ H E I hf st hg;subst hP hw hK;obtain⟨ha,hi⟩:=hg;obtain⟨ho,hz,hd,vs,Y,od,es,F,U,hr⟩:=(show s.heap.get? a=some o/\be X.prog X.w H s.heap a (.dK kvs) from I.hok a _ ha)
  rw[ho] at U;cases U;obtain⟨ag,aa⟩:=ae;have ac:F=ep:=by
   have:=hr.2.1
   rw[aa] at this;cases this;rfl
  subst ac;have B:=Y.length;obtain⟨f0,f1,f2,f3,f4,f5⟩:=hf it (by simp)
  have ad:s.heap.IsKeyIter it a i vs.length F:=by rw[<- B];exact st
  exact wpAny_pyNext_dict_end (knd:=aU X.prog X.w) (I.ok.hd hc) ad ⟨o,es,ho,hr⟩ (List.getElem?_eq_none_iff.mpr (by omega)) λh' eb=>⟨rfl,I.turned (t':=s.toks) (λb ob hb e=>eb b ob hb e) f0 f1 f3 f4 f5⟩
 self:=λ_ _ _ _ _ st h=>wpAny_pyIter_keyiter st h
theorem vS {o:Obj}:Wlk (Itd a o kvs) (kvs.map λx=>kV x.1) (λH=>H a=some (.frz o (.dK kvs))) :=
 ⟨λi H h hi=>⟨h,by simpa using hi⟩,λi H x H' h _ y=>by
  obtain⟨e,k,v,z,rfl⟩:=y;exact⟨by rw[List.getElem?_map,z];rfl,e⟩,λi H h hi=>⟨h,by simpa using hi⟩⟩
def iD (tl:TE):TI:=λσ H R=>tl σ H λx H1=>∃a,x = .ref a/\∃kvs,H1 a=some (.dK kvs)/\∀o,R (Itd a o kvs) (upd H1 a (.frz o (.dK kvs)))
theorem DM {l:Expr} (hl:PE X l tl):PI X tg l (iD tl):=by
 intro pins s σ H R I h;refine thn (hl pins s σ H _ I h) λv U B=>?_
 obtain⟨x,H1,Y,r1,a,e,kvs,hq,q⟩:=B;subst e;cases r1;obtain⟨hz,hd,vs,ad,od,es,ep,aa,hr⟩:=fT Y.hok hq;refine wpAny_pyIter_dict (knd:=aU X.prog X.w) hd ⟨od,es,aa,hr⟩ ?_
 have hn : ∀ob u,X.H₀ a≠some (.frz ob u):=λob u e=>by have:=Y.base.frzs a ob u e;rw[hq] at this;cases this
 have I2:Inv X pins σ H1 { U with heap:=U.heap.push { cls:=.type "dict_keyiterator",data:=.fields #[.ref a,.int 0 0,.int vs.length 0,.int ep 0] } }:=Y.kept (t':=U.toks) λb o e=>Heap.get?_push_of_some _ e
 have ac:=I2.hok a _ hq;have I3:=I2.retag (o':=.frz od (.dK kvs)) hq (by intro y z;cases z) (by intro y z;cases z) hn (by intro y z;cases z) ⟨Heap.get?_push_of_some _ aa,ac⟩
 have Z:=ad.length;refine⟨U.heap.objs.size,[U.heap.objs.size],_,_,_,rfl,I3,BL a _ od kvs ep ⟨es,hr.2.1⟩,⟨_,Heap.get?_push_size _ rfl,rfl,by rw[Z];rfl⟩,λb hb=>?_,q od⟩
 have e:b=U.heap.objs.size:=by simpa using hb
 subst e;have F:H1 U.heap.objs.size=none:=Y.hok.fresh (le_refl _)
 obtain⟨f0,f1,f2,f3,f4,f5⟩:=Y.fpOk (le_refl _) F;exact⟨by rw[ag (λz=>by rw[z,hq] at F;cases F)];exact F,f1,f2,f3,f4,f5⟩
def G5 (a:Addr) (kvs:List (Key × V)) (D:lN):lN where
 nx:=λσ H=>(∃o,H a=some (.frz o (.dK kvs)))/\D.nx σ (upd H a (.dK kvs))
 rt:=λv H=>(∃o,H a=some (.frz o (.dK kvs)))/\D.rt v (upd H a (.dK kvs))
 bk:=λσ H=>(∃o,H a=some (.frz o (.dK kvs)))/\D.bk σ (upd H a (.dK kvs))
 ct:=λσ H=>(∃o,H a=some (.frz o (.dK kvs)))/\D.ct σ (upd H a (.dK kvs))
def C9 (t:TS):TS:=λD σ H=>∃a kvs,H a=some (.dK kvs)/\t (G5 a kvs D) σ H
theorem Bx {t:TS} (h:PS X st t):PS X st (C9 t):=by
 intro pins s σ H D I ⟨a,kvs,ha,ht⟩;have hn : ∀ob u,X.H₀ a≠some (.frz ob u):=λob u e=>by have:=I.base.frzs a ob u e;rw[ha] at this;cases this
 have B : ∀{σ' H' s'},Inv X pins σ' H' s'->(∃o,H' a=some (.frz o (.dK kvs)))->Inv X pins σ' (upd H' a (.dK kvs)) s':=λ{σ' H' s'} F ⟨o,e⟩ =>
  F.retag e (by intro y z;cases z) (by intro y z;cases z) hn (by intro y z;cases z) (show s'.heap.get? a=some o/\be X.prog X.w H' s'.heap a (.dK kvs) from F.hok a _ e).2
 refine thn (h pins s σ H _ I ht) λf s' U=>?_
 cases f with
 | next=>obtain⟨σ',H',F,e,q⟩:=U;exact⟨σ',_,B F e,q⟩
 | brk=>obtain⟨σ',H',F,e,q⟩:=U;exact⟨σ',_,B F e,q⟩
 | cont=>obtain⟨σ',H',F,e,q⟩:=U;exact⟨σ',_,B F e,q⟩
 | ret u=>obtain⟨v,σ',H',F,r,e,q⟩:=U;exact⟨v,σ',_,B F e,r,q⟩
theorem Inv.turnedNew {g:Heap} (I:Inv X pins σ H s) (k : ∀b o,b∉fp->s.heap.get? b=some o->g.get? b=some o) (U : ∀b∈fp,pQ X pins H b) (ha:s.heap.objs.size<=a)
  (ok:be X.prog X.w (upd H a u0) g a u0):Inv X pins σ (upd H a u0) { s with heap:=g,toks:=t' }:=by
 have Z : ∀b u,H b=some u->b∉fp:=λb u e z=>by rw[(U b z).1] at e;cases e
 have na : ∀b o,s.heap.get? b=some o->b≠a:=λb o e z=>by rw[z] at e;exact absurd (lt_of_lt_of_le (Heap.lt_size e) ha) (lt_irrefl _)
 have hn:H a=none:=I.hok.fresh ha
 have Y : ∀b u,H b=some u->b≠a:=λb u e z=>by rw[z,hn] at e;cases e
 refine I.step (g':=s.gens) (d':=s.drawn) (ch:=fp) (λb F=>⟨(U b F).2.2.2.1,(U b F).2.1,(U b F).2.2.2.2.1,(U b F).2.2.2.2.2⟩) (λb o _ _ B e _=>k b o B e) (λb o _ _ B e _=>⟨o.slots,k b o B e⟩) (λb o _ e n=>by rw[ag (na b o e)];exact n)
  (λb o B e=>⟨o,k b o B e⟩) (λb xs e=>by rw[ag (Y b _ e)];exact e) (λb o u e=>by rw[ag (Y b _ e)];exact e) (λb ps e=>⟨#[],by rw[ag (Y b _ e),e];simp⟩) (λm hm=>?_) (λb u e=>?_) I.bare
 .obtain⟨o,es,ep,ho,r⟩:=hm
  exact⟨o,es,ep,k _ o (λz=>(U _ z).2.1 rfl) ho,r⟩
 .by_cases F:b=a
  .subst F
   rw[ab] at e;cases e;exact ok
  .rw[ag F] at e
   refine(I.hok b u e).stay (λc v B q=>k c v ?_ q) (λc q=>by rw[ag (Y c _ q)];exact q) (λc xs q=>by rw[ag (Y c _ q)];exact q) λc _ _ q=>by rw[ag (Y c _ q)];exact q
   rcases B with z | z
   .rw[z];exact Z b u e
   .exact Z c _ z
section
variable {e2:Expr} {ta:TA} {p:Pos} {x1:Nat}
theorem cT {i:Nat} (hi:i < nt:=by decide) (U:j < nt:=by decide) (z:i≠j:=by decide):AC (xi n (tI (dW i) (tI (dW j) Bp))) nt:=by
 intro x σ0 H Q h q;obtain⟨a,e,xs,F,l,v,r,e2,B,r',Z,Y,q⟩:=q;refine⟨a,e,xs,F,l,v,r,e2,B,r',Z,Y,(Wk.set (h i hi)).trans (Wk.set ?_),q⟩
 rw[List.getElem?_set_ne z];exact h j U
end
end L2
namespace PyProof.Rows
open PySem PySem.Spec
theorem lf {Q:List Value->Shared->Prop} (Y:s.heap.IsTuple t us.toArray) (hn:us.length<=1000)
  (k:Q us { s with heap:=(s.heap.push (seqObj "list" #[] 0)).update s.heap.objs.size (Obj.mapSeq (· ++ us.toArray)) }):wpAny (model prog w) A (collect (.ref t)) Q E s:=by
 obtain⟨B,h1,h2,n,F⟩:=id Y;unfold collect;refine wpAny_bind (wpAny_runValue (codeAny_builtin entry_proto_collect' ?_))
 change wpAny _ _ (do again (.builtin "list.__iadd__" ⟨[<- newList [],.ref t],[]⟩)) _ _ s;refine wpAny_bind (wpAny_newList (wpAny_pure ⟨Code.quiet_builtin _ (by decide+kernel),codeAny_builtin entry_list_iadd' ?_⟩))
 change wpAny _ _ (Builtin.List.listExtendWith (.ref s.heap.objs.size) (.ref t) (.ref s.heap.objs.size)) _ _ { s with heap:=s.heap.push (seqObj "list" #[] 0) }
 unfold Builtin.List.listExtendWith;have z:(s.heap.push (seqObj "list" #[] 0)).get? t=some B:=Heap.get?_push_of_some _ h1
 refine wpAny_bind (wpAny_typeOf (T := "tuple") ⟨B,z,h2⟩ ?_)
 have U:(Value.type "tuple" == Value.type "tuple")=true:=by rfl
 rw[if_pos (by rw[U];simp)]
 refine wpAny_bind (listItems_at z F (wpAny_bind (listItems_at (xs := #[]) (n:=0) (Heap.get?_push_size _ rfl) rfl ?_)))
 rw[if_neg (by simp)]
 have Z:us.length<=sizeLine:=le_trans hn (by decide)
 refine wpAny_bind (listUpdate_at (xs := #[]) (n:=0) (Heap.get?_push_size _ rfl) rfl (wpAny_pure ?_) (zero_le _) (by show(#[]++us.toArray).size<=sizeLine+1;simp only[Array.size_append,size_toArray,length_nil];omega))
 refine wpAny_bind (m:=load s.heap.objs.size) (wpAny_load (get?_update_seq (Heap.get?_push_size _ rfl) _) ?_)
 change wpAny _ _ (pure ((#[]:Array Value)++us.toArray).toList) Q E _;rw[show((#[]:Array Value)++us.toArray).toList=us by simp]
 exact wpAny_pure k
theorem rW (Z:s.heap.IsTuple t us.toArray) (hi:IntsAre us ns) (hl:us.length < 64)
  (k : ∀(out:Array Value) (ms:List Int),IntsAre out.toList ms->ms.Perm ns->ms.Pairwise (·<=·)->Q (.ref (s.heap.objs.size+1)) { s with heap:=sortedAll s.heap us out }) :
  wpAny (model prog w) A (call (.builtin "sorted") [.ref t]) Q E s:=by
 refine Calls.call_function_entry kind_sorted plain_sorted entry_sorted (args_sorted1 _) ?_
 unfold Builtin.«sorted»;refine wpAny_bind (m:=checkCount "sorted" 1 1 _) (wpAny_pure (wpAny_bind (lf Z (by omega) (wpAny_bind (wpAny_newList ?_)))))
 have z:((s.heap.push (seqObj "list" #[] 0)).update s.heap.objs.size (Obj.mapSeq (· ++ us.toArray))).objs.size=s.heap.objs.size+1:=by rw[Heap.size_update,size_push']
 have B:(((s.heap.push (seqObj "list" #[] 0)).update s.heap.objs.size (Obj.mapSeq (· ++ us.toArray))).push (seqObj "list" us.toArray 0)).get? (s.heap.objs.size+1)=some (seqObj "list" us.toArray 0):=by rw[<- z];exact Heap.get?_push_size _ rfl
 change wpAny _ _ _ _ _ { s with heap:=((s.heap.push (seqObj "list" #[] 0)).update s.heap.objs.size (Obj.mapSeq (· ++ us.toArray))).push (seqObj "list" us.toArray 0) }
 rw[z];refine wpAny_bind (wpAny_holding (wpAny_call_entry slot_list_sort ⟨_,B,rfl⟩ entry_list_sort (list_sort_tree B hi hl λout ms F Y U=>⟨_,rfl,wpAny_pure ⟨_,rfl,k out ms F Y U⟩⟩) (args_list_sort _)))
end PyProof.Rows
namespace L2
open PySem PySem.Spec PyProof.Rows
def nL:List V->Hp->VK->Prop:=λxs H Q=>∃p,xs=[.ref p]/\∃ns:List Int,H p=some (.tup (ns.map V.int))/\ns.length < 64/\∀(q:Addr) (ms:List Int),H q=none->ms.Perm ns->ms.Pairwise (·<=·)->Q (.ref q) (upd H q (.lst (ms.map V.int)))
theorem gu:bE X (.builtin "sorted") nL:=by
 intro pins s σ H xs us Q I r h;obtain⟨p,rfl,ns,hp,hl,q⟩:=h;obtain⟨u,rfl,ru⟩:=cI r;cases ru;obtain⟨its,Z,pl,hz⟩:=I.tuple (SqT.of hp);have B:=Z.length;rw[length_map] at B;refine rW (show s.heap.IsTuple p its.toArray from pl) (cQ Z) (by omega) λout ms U z F=>?_
 obtain⟨e,he⟩:=sortedAll_at s.heap its out;have Y:out=out.toList.toArray:=by simp
 refine⟨.ref (s.heap.objs.size+1),_,I.laid (a:=s.heap.objs.size+1) (o:=.lst (ms.map V.int)) (t':=s.toks) (λb o e=>sortedAll_old e) (le_succ _) ⟨?_,out.toList,e,iB U,by rw[he]⟩,rfl,q _ ms (I.hok.fresh (le_succ _)) z F⟩
 rw[length_map,z.length_eq];exact le_of_lt (ax (by omega))
def zO:List V->Hp->VK->Prop:=λxs H Q=>∃p,xs=[.ref p]/\∃ns:List Int,H p=some (.lst (ns.map V.int))/\ns≠[]/\∀m,m∈ns->(∀x∈ns,m<=x)->Q (.int m) H
def zP:List V->Hp->VK->Prop:=λxs H Q=>∃p,xs=[.ref p]/\∃ns:List Int,H p=some (.lst (ns.map V.int))/\ns≠[]/\∀m,m∈ns->(∀x∈ns,x<=m)->Q (.int m) H
theorem BA {xs:Array (Int × Tok)} (z:ns=xs.toList.map (·.1)) (U:0 < xs.size):numAt xs (argBest (λi j=>decide (numAt xs i < numAt xs j)) (xs.size - 1))∈ns/\∀a∈ns,numAt xs (argBest (λi j=>decide (numAt xs i < numAt xs j)) (xs.size - 1))<=a:=by
 obtain⟨h1,h2⟩:=argBest_lt (numAt xs) (xs.size - 1);refine⟨?_,λa B=>?_⟩
 .rw[z,numAt_eq];exact PySem.getD_mem (by rw[length_map,length_toList];omega)
 .rw[z] at B
  obtain⟨j,F,rfl⟩:=mem_getD B;rw[length_map,length_toList] at F;rw[<- numAt_eq];exact h2 j (by omega)
theorem BR {xs:Array (Int × Tok)} (z:ns=xs.toList.map (·.1)) (U:0 < xs.size):numAt xs (argBest (λi j=>decide (numAt xs i > numAt xs j)) (xs.size - 1))∈ns/\∀a∈ns,a<=numAt xs (argBest (λi j=>decide (numAt xs i > numAt xs j)) (xs.size - 1)):=by
 obtain⟨h1,h2⟩:=argBest_gt (numAt xs) (xs.size - 1);refine⟨?_,λa B=>?_⟩
 .rw[z,numAt_eq];exact PySem.getD_mem (by rw[length_map,length_toList];omega)
 .rw[z] at B
  obtain⟨j,F,rfl⟩:=mem_getD B;rw[length_map,length_toList] at F;rw[<- numAt_eq];exact h2 j (by omega)
theorem mq (hi:IntsAre its ns) (B:ns≠[]) : ∃xs:Array (Int × Tok),its.toArray=intItems xs/\ns=xs.toList.map (·.1)/\0 < xs.size:=by
 obtain⟨xs,e⟩:=hi.allInts.items;have z:ns=xs.toList.map (·.1):=by rw[<- hi.numsOf,<- nums_intItems,<- e]
 refine⟨xs,e,z,?_⟩
 have F:=length_pos_iff.mpr B;rw[z,length_map,length_toList] at F;exact F
theorem yh (hc:X.calm=true):bE X (.builtin "min") zO:=by
 intro pins s σ H xs us Q I r h;obtain⟨p,rfl,ns,Z,B,q⟩:=h;obtain⟨u,rfl,ru⟩:=cI r;cases ru;obtain⟨its,rv,pl,hz⟩:=I.list (SqL.of Z);obtain⟨xs,e,F,U⟩:=mq (cQ rv) B;have z:=pl.isList;rw[e] at z;refine min_intList (I.ok.hd hc) z U λv g tk hv Y=>?_
 obtain⟨t,rfl⟩:=intItems_at hv;obtain⟨b1,b2⟩:=BA F U;exact⟨V.int _,H,I.kept (t':=tk) Y,⟨t,rfl⟩,q _ b1 b2⟩
theorem yg (hc:X.calm=true):bE X (.builtin "max") zP:=by
 intro pins s σ H xs us Q I r h;obtain⟨p,rfl,ns,Z,B,q⟩:=h;obtain⟨u,rfl,ru⟩:=cI r;cases ru;obtain⟨its,rv,pl,hz⟩:=I.list (SqL.of Z);obtain⟨xs,e,F,U⟩:=mq (cQ rv) B;have z:=pl.isList;rw[e] at z;refine max_intList (I.ok.hd hc) z U λv g tk hv Y=>?_
 obtain⟨t,rfl⟩:=intItems_at hv;obtain⟨b1,b2⟩:=BR F U;exact⟨V.int _,H,I.kept (t':=tk) Y,⟨t,rfl⟩,q _ b1 b2⟩
def vL (H:Hp) (p:Addr) (ys:List V):Prop:=H p=some (.lst ys)\/H p=some (.tup ys)
def qV:List V->Hp->VK->Prop:=λxs H Q=>∃p,xs=[.ref p]/\∃ys,vL H p ys/\∀l,H l=none->Q (.ref l) (upd H l (.lst ys))
theorem je:bE X (.type "list") qV:=jN.imp λ_ _ _ z=>by obtain⟨p,e,ys,h,q⟩:=z;exact(⟨p,ys,e,h.imp .of .of,q⟩)
def inD (d:PyData) (ds:List PyData):Bool:=ds.any λe=>PyData.eqv e d
def C5 (K:PySem.W.Frag) (z:Bool):R2:=λx y H Q=>∃dx ds,Rep K H x dx/\Rep K H y (.list ds)/\dx.canLay0=true/\PyData.canLayAll0 ds=true/\dx.depth<=100/\Q (.bl (if z then !inD dx ds else inD dx ds)) H
theorem oH (hu:X.A.units+102 < cLine):OpR X (compareOp .NotIn) (C5 X.K true):=by
 intro pins s σ H x y v u Q I z Z h;obtain⟨dx,ds,h1,h2,F,B,h5,q⟩:=h;obtain⟨as,Y⟩:=I.reads h1 z;obtain⟨bs,U⟩:=I.reads h2 Z;exact PySem.SeqAt.notIn_list_reads U Y B F (by omega) ⟨.bl _,H,I,rfl,q⟩
theorem xR (z:ci k A):A.units+102 < cLine:=by have:=z.un;omega
theorem lay_ints : ∀ns:List Int,PyData.canLayAll0 (ns.map PyData.int)=true
 | []=>rfl
 | n :: ns=>by
  rw[map_cons];unfold PyData.canLayAll0;rw[lay_ints ns];rfl
theorem depth_ints : ∀ns:List Int,PyData.depthAll (ns.map PyData.int)=0
 | []=>rfl
 | n :: ns=>by
  rw[map_cons];unfold PyData.depthAll;rw[depth_ints ns];rfl
def fX (r:List Int):PyData:=.tuple (r.map PyData.int)
theorem iE (r:List Int):(fX r).canLay0=true:=by unfold fX PyData.canLay0;exact lay_ints r
theorem kE (r:List Int):(fX r).depth<=1:=by unfold fX PyData.depth;rw[depth_ints];decide
theorem lv : ∀(a b:List Int),PyData.eqvAll (a.map PyData.int) (b.map PyData.int)=decide (a=b)
 | [],[]=>rfl
 | [],_ :: _=>by simp[PyData.eqvAll]
 | _ :: _,[]=>by simp[PyData.eqvAll]
 | x :: a,y :: b=>by
  rw[map_cons,map_cons];unfold PyData.eqvAll;rw[lv a b];have:PyData.eqv (.int x) (.int y)=decide (x=y):=by
   simp only[PyData.eqv];rw[Bool.eq_iff_iff];simp
  rw[this]
  by_cases h:x=y <;> by_cases h2:a=b <;> simp[h,h2]
theorem xB (a b:List Int):PyData.eqv (fX a) (fX b)=decide (a=b):=by
 unfold fX;unfold PyData.eqv;exact lv a b
theorem uR : ∀rs:List (List Int),PyData.canLayAll0 (rs.map fX)=true
 | []=>rfl
 | r :: rs=>by
  rw[map_cons];unfold PyData.canLayAll0;rw[uR rs,iE];rfl
theorem Am (r:List Int) (rs:List (List Int)):inD (fX r) (rs.map fX)=decide (r∈rs):=by
 unfold inD
 induction rs with
 | nil=>rfl
 | cons q rs z =>
  rw[map_cons,any_cons,z,xB]
  by_cases h:q=r
  .simp[h]
  .simp[h]
   exact λe=>absurd e.symm h
def dn (H:Hp) (vs:List V) (rows:List (List Int)):Prop:=∃as:List (Addr × List Int),vs=as.map (λx=>V.ref x.1)/\rows=as.map (·.2)/\∀x∈as,H x.1=some (.tup (x.2.map V.int))
theorem dn.nil:dn H [] []:=⟨[],rfl,rfl,λx z=>by simp at z⟩
theorem dn.keep (h:dn H vs rows) (k : ∀a xs,H a=some (.tup xs)->H' a=some (.tup xs)):dn H' vs rows:=by
 obtain⟨as,h1,h2,z⟩:=h;exact⟨as,h1,h2,λx B=>k _ _ (z x B)⟩
theorem dn.snoc {r:List Int} (h:dn H vs rows) (U:H t=some (.tup (r.map V.int))):dn H (vs++[.ref t]) (rows++[r]):=by
 obtain⟨as,h1,h2,B⟩:=h;refine⟨as++[(t,r)],by simp[h1],by simp[h2],λx F=>?_⟩
 rcases mem_append.mp F with z | z
 .exact B x z
 .rw[mem_singleton.mp z];exact U
theorem dn.length {H:Hp} {vs:List V} {rows:List (List Int)} (h:dn H vs rows):vs.length=rows.length:=by
 obtain⟨as,h1,h2,z⟩:=h;rw[h1,h2,length_map,length_map]
theorem dn.reps (h:dn H vs rows):cj K H vs (rows.map fX):=by
 obtain⟨as,rfl,rfl,z⟩:=h
 induction as with
 | nil=>exact .nil
 | cons x as F=>exact .cons (.tup (.of (z x (by simp))) (cj.ints _)) (F λy B=>z y (by simp[B]))
theorem vG {w:Addr} {r:List Int} {Q:VK} (B:H t=some (.tup (r.map V.int))) (hw:H w=some (.lst vs)) (z:dn H vs rows) (q:Q (.bl (!decide (r∈rows))) H):C5 K true (.ref t) (.ref w) H Q :=
 ⟨fX r,rows.map fX,.tup (.of B) (cj.ints r),.lst (.of hw) z.reps,iE r,uR rows,le_trans (kE r) (by decide),by rw[Am];exact q⟩
end L2
namespace PySem
open Sem (wp)
theorem bv : ∀(names:List (Str × NameKind)) (n:Nat) (acc:List (Str × Addr)),cellsFrom n names acc=cellsFrom n names []++acc
 | [],n,acc=>rfl
 | (x,k) :: r,n,acc=>by
  unfold cellsFrom
  split
  .rw[bv r (n+1) ((x,n) :: acc),bv r (n+1) [(x,n)]]
   simp
  .exact bv r n acc
theorem dA : ∀(names:List (Str × NameKind)) (n:Nat) (x:Str) (c:Addr),(x,c)∈cellsFrom n names []->(x,NameKind.cell)∈names
 | [],n,x,c,h=>absurd h (by simp[cellsFrom])
 | (y, k) :: r,n,x,c,h=>by
  unfold cellsFrom at h
  split at h
  .rename_i hk
   rw[bv] at h;rcases mem_append.mp h with q | q
   .exact mem_cons_of_mem _ (dA r (n+1) x c q)
   .have e:(x,c)=(y,n):=by simpa using q
    cases e;have:k = .cell:=by simpa using hk
    subst this;exact mem_cons_self
  .exact mem_cons_of_mem _ (dA r n x c h)
theorem jI {l:List (Str × Addr)}:(x,c)∈l->(l.lookup x).isSome=true:=by
 induction l with
 | nil=>intro h;exact absurd h (by simp)
 | cons p r B =>
  intro h;rw[lookup_cons];cases z:x == p.1 with
  | true=>rfl
  | false =>
   rcases mem_cons.mp h with q | q
   .subst q;simp at z
   .exact B q
theorem fi : ∀(names:List (Str × NameKind)) (n:Nat) (x:Str),(x,NameKind.cell)∈names->∃c,(x,c)∈cellsFrom n names []
 | [],n,x,h=>absurd h (by simp)
 | (y, k) :: r,n,x,h=>by
  unfold cellsFrom;rcases mem_cons.mp h with q | q
  .cases q
   simp only[beq_self_eq_true,if_true];rw[bv];exact⟨n,mem_append_right _ (by simp)⟩
  .split
   .rw[bv]
    obtain⟨c,z⟩:=fi r (n+1) x q;exact⟨c,mem_append_left _ z⟩
   .exact fi r n x q
theorem ou {l r:List (Str × Addr)} (h:(l++r).lookup x=some c):l.lookup x=some c\/(l.lookup x=none/\r.lookup x=some c):=by
 induction l with
 | nil=>exact .inr ⟨rfl,h⟩
 | cons p t B =>
  rw[cons_append,lookup_cons] at h;rw[lookup_cons];cases z:x == p.1 with
  | true=>rw[z] at h;exact .inl h
  | false=>rw[z] at h;exact B h
theorem rh {l r:List (Str × Addr)} (z:l.lookup x=none) (h:r.lookup x=some c):(l++r).lookup x=some c:=by
 induction l with
 | nil=>exact h
 | cons p t F =>
  rw[lookup_cons] at z;rw[cons_append,lookup_cons];cases B:x == p.1 with
  | true=>rw[B] at z;cases z
  | false=>rw[B] at z;exact F z
theorem rA {l r:List (Str × Addr)} (h:l.lookup x=some c):(l++r).lookup x=some c:=by
 induction l with
 | nil=>cases h
 | cons p t B =>
  rw[lookup_cons] at h;rw[cons_append,lookup_cons];cases z:x == p.1 with
  | true=>rw[z] at h;exact h
  | false=>rw[z] at h;exact B h
theorem er {B:Addr} {U:Value} {F:Env} {z:Addr} {Q:Env->Shared->Prop}
  (hQ:(pushCells (s.heap.push { cls:=.type "dict",data:=.dict #[] }) scope.names).Ns s.heap.objs.size (λ_=>none) ->
   Q (newEnv scope s.heap.objs.size B (cellsFrom (s.heap.objs.size+1) scope.names closure) qual func U (some F) z) { s with heap:=pushCells (s.heap.push { cls:=.type "dict",data:=.dict #[] }) scope.names }) :
  wpAny M A (newFunctionEnv scope B closure [] qual func U (some F) z) Q E s:=by
 simp only[newFunctionEnv,isSome_some,if_true];simp only[newEnv] at hQ;refine wpAny_bind (wpAny_alloc ?_)
 refine wpAny_bind (wpAny_layCells _ (λname kind Y=>by cases Z:kind == NameKind.cell <;> simp[Z]) _ _ _ _ ?_)
 rw[show({ s with heap:=s.heap.push { cls:=.type "dict",data:=.dict #[] } }:Shared).heap.objs.size=s.heap.objs.size+1 from Heap.size_push ..]
 exact wpAny_bind (wpAny_pure (wpAny_pure (hQ ((Heap.Ns.new s.heap (.type "dict")).keeps (pushCells_keeps _ _)))))
end PySem
namespace L2
open PySem PySem.Spec PyProof.Rows
def ce (X:Cx) (scope:Scope) (N:List Str) (cl:List (Str × Addr)) (C:Addr) (fp:List Addr) (s:Shared) (H:Hp) (xe:Value->Shared->Prop):Cx where
 prog:=X.prog
 w:=X.w
 K:=X.K
 mg:=X.mg
 base:=X.base
 A:=X.A
 N:=N
 s₀:=s
 H₀:=H
 env:=compEnvC scope cl C X.env
 outer:=X.stack
 stack:=X.stack
 ex:=fp
 fn:=λx=>scope.names.lookup x == some .cell
 calm:=X.calm
 pn:=[]
 xe:=xe
theorem HI {C:Addr}:(ce X sc N cl C fp s H xe).K=X.K:=rfl
structure jV (X:Cx) (scope:Scope) (N:List Str) (nt:Nat) (js:List Nat):Prop where
 kind:scope.kind = .function
 nd:N.Nodup
 len:N.length=nt+js.length
 at_ : ∀(k:Nat) (j:Nat) (x:Str),js[k]? = some j->N[nt+k]? = some x->X.N[j]? = some x/\(X.env.scope.names.lookup x=some .cell\/X.env.scope.names.lookup x=some .free)
 frl : ∀(k:Nat) (x:Str),N[nt+k]? = some x->scope.names.lookup x=some .free
 own : ∀y∈scope.names,y.2 = .cell->scope.names.lookup y.1=some .cell
 loc : ∀y∈scope.names,y.2 = .local->scope.names.lookup y.1=some .local
 free : ∀y∈scope.names,y.2 = .free->X.env.scope.names.lookup y.1=some .cell\/X.env.scope.names.lookup y.1=some .free
theorem cL : ∀{names:List (Str × NameKind)} {x:Str} {k:NameKind},names.lookup x=some k->(x,k)∈names
 | [],_,_,h=>by simp at h
 | (n,k') :: r,x,k,h=>by
  rw[lookup_cons] at h;cases z:x == n with
  | true=>rw[z] at h;cases h;rw[beq_iff_eq.mp z];exact mem_cons_self
  | false=>rw[z] at h;exact mem_cons_of_mem _ (cL h)
theorem ph : ∀{names:List (Str × NameKind)} {x:Str},((names.map λ(n,k)=>if (k == NameKind.free && env.scope.kind == .function && env.kindOf n == some .cell) then(n,NameKind.cell) else(n,k)).lookup x=some .cell\/(names.map λ(n,k)=>if (k == NameKind.free && env.scope.kind == .function && env.kindOf n == some .cell) then(n,NameKind.cell) else(n,k)).lookup x=some .free) ->
  (x,NameKind.free)∈names\/(x,NameKind.cell)∈names:=by
 intro names x h;have key : ∀U,(names.map λ(n,k)=>if (k == NameKind.free && env.scope.kind == .function && env.kindOf n == some .cell) then(n,NameKind.cell) else(n,k)).lookup x=some U->(U = .cell\/U = .free)->(x,NameKind.free)∈names\/(x,NameKind.cell)∈names:=by
  intro U e Y;obtain⟨⟨n,k⟩,F,B⟩:=mem_map.mp (cL e);dsimp only at B
  by_cases q:(k == NameKind.free && env.scope.kind == .function && env.kindOf n == some .cell)=true
  .rw[if_pos q] at B
   cases B;simp only[Bool.and_eq_true,beq_iff_eq] at q;rw[q.1.1] at F;exact .inl F
  .rw[if_neg q] at B
   cases B;rcases Y with z | z
   .subst z;exact .inr F
   .subst z;exact .inl F
 rcases h with h | h
 .exact key _ h (.inl rfl)
 .exact key _ h (.inr rfl)
theorem tR {C:Addr} {m:Str->Option Value}
  (S:jV X scope N nt js) (I:Inv X pins σ H s) (hf : ∀b∈fp,pQ X pins H b) (F : ∀x c,cl.lookup x=some c->X.env.cells.lookup x=some c) (ac : ∀x,(x,NameKind.free)∈scope.names->(cl.lookup x).isSome=true)
  (B : ∀x c,(x,c)∈cellsFrom (C+1) scope.names []->h'.IsCell c none/\C+1<=c) (ai:(cellsFrom (C+1) scope.names []).Pairwise λx y=>x.2≠y.2) (ag : ∀c,C<=c->H1 c=none)
  (ad : ∀b∈fp,b < s.heap.objs.size) (hC:s.heap.objs.size<=C) (k : ∀b o,s.heap.get? b=some o->h'.get? b=some o) (hs : ∀b o,H b=some o->H1 b=some o) (ae : ∀b,H b=none->b < s.heap.objs.size->H1 b=none) (ap:HOk X.prog X.w H1 h') (hn:h'.Ns C m)
  (hm : ∀x,m x=none) :
  Inv (ce X scope N (cellsFrom (C+1) scope.names cl) C fp s H xe) [] (dG nt js σ) H1 { s with heap:=h',toks:=tk }:=by
 have ao : ∀b∈fp,b∉frs X.stack:=λb hb z=>by
  obtain⟨f0,f1,f2,_⟩:=hf b hb;rcases mem_cons.mp (I.stkSub b z) with q | q
  .exact f1 q
  .exact f2 q
 have af : ∀x c,cl.lookup x=some c->c < s.heap.objs.size:=λx c e=>by
  obtain⟨v,oc,U,hd⟩:=I.cell x c (F x c e);exact Heap.lt_size U
 have cs : ∀x c,(cellsFrom (C+1) scope.names cl).lookup x=some c->(x,c)∈cellsFrom (C+1) scope.names []\/cl.lookup x=some c:=λx c e=>by
  rw[bv] at e;rcases ou e with q | q
  .exact .inl (mem_of_lookup q)
  .exact .inr q.2
 have aa : ∀x,(x,NameKind.cell)∈scope.names->∃c,(cellsFrom (C+1) scope.names cl).lookup x=some c/\(x,c)∈cellsFrom (C+1) scope.names []:=λx hx=>by
  obtain⟨c,hc⟩:=fi scope.names (C+1) x hx;obtain⟨c',Z⟩:=isSome_iff_exists.mp (jI hc);refine⟨c',?_,mem_of_lookup Z⟩
  rw[bv];exact rA Z
 have Y : ∀x c,(∀c,(x,c)∉cellsFrom (C+1) scope.names [])->cl.lookup x=some c->(cellsFrom (C+1) scope.names cl).lookup x=some c:=λx c hx e=>by
  rw[bv];refine rh ?_ e
  cases q:(cellsFrom (C+1) scope.names []).lookup x with
  | none=>rfl
  | some c'=>exact absurd (mem_of_lookup q) (hx c')
 refine⟨⟨I.ok.mod,S.kind,I.ok.glob,I.ok.blt,hC,λx y c h1 h2=>?_,λx hx=>?_,λx c z e=>?_,I.ok.hd,I.ok.frames,.inl rfl,λb hb=>?_,I.bs,le_trans I.ok.bsz I.sz,λb o e hb=>?_,ao,I.stack,I.stkFree⟩,
  rfl,I.bare,?_,⟨m,hn,λi x v h1 h2 h3=>?_⟩,λx c e=>?_,ag C (le_refl _),λx c e=>?_,λp hp=>absurd (show p∈([]:List (Addr × Obj)) from hp) (by simp),ap,?_⟩
 .rcases cs x c h1 with a | a <;> rcases cs y c h2 with b | b
  .exact name_of_addr ai a b
  .exact absurd (lt_of_lt_of_le (af y c b) (le_trans hC (le_of_succ_le (B x c a).2))) (lt_irrefl _)
  .exact absurd (lt_of_lt_of_le (af x c a) (le_trans hC (le_of_succ_le (B y c b).2))) (lt_irrefl _)
  .exact I.ok.inj x y c (F x c a) (F y c b)
 .by_cases hxc:(x,NameKind.cell)∈scope.names
  .obtain⟨c,hc,_⟩:=aa x hxc
   exact⟨c,hc⟩
  .rcases ph (env:=X.env) hx with q | q
   .obtain⟨c,hc⟩:=isSome_iff_exists.mp (ac x q)
    exact⟨c,Y x c (λc' z=>hxc (dA _ _ _ _ z)) hc⟩
   .exact absurd q hxc
 .have hxc:(x,NameKind.cell)∈scope.names:=by
   have:scope.names.lookup x=some .cell:=by simpa [ce] using z
   exact cL this
  obtain⟨c',Z,ah⟩:=aa x hxc;have e':(cellsFrom (C+1) scope.names cl).lookup x=some c:=e
  rw[Z] at e';cases e';exact le_trans hC (le_of_succ_le (B x _ ah).2)
 .obtain⟨f0,f1,f2,f3,f4,f5⟩:=hf b hb
  refine⟨ne_of_lt (lt_of_lt_of_le (ad b hb) hC),λx c e=>?_⟩
  rcases cs x c e with a | a
  .exact ne_of_gt (lt_of_lt_of_le (ad b hb) (le_trans hC (le_of_succ_le (B x c a).2)))
  .exact f4 x c (F x c a)
 .have:=hf b hb
  obtain⟨f0,f1,f2,f3,f4,f5⟩:=this;rcases f3 with f3 | f3
  .exact I.ok.noex b o e f3
  .exact absurd (lt_of_lt_of_le (Heap.lt_size e) (le_trans I.ok.bsz f3)) (lt_irrefl _)
 .refine⟨λb o e n _ _=>k b o e,λb o e n _ _=>⟨o.slots,k b o e⟩,λb o e n _=>ae b n (Heap.lt_size e),λb o e _=>⟨o,k b o e⟩,λb xs e=>hs b _ e,λb o u e=>hs b _ e,λb ps e=>⟨#[],by rw[hs b _ e];simp⟩⟩
 .by_cases hi:i < nt
  .rw[on i hi] at h2;cases h2
  .obtain⟨k',rfl⟩ : ∃k',i=nt+k':=⟨i - nt,by omega⟩
   unfold dG at h2;rw[List.getElem?_append_right (by simp)] at h2
   simp only[List.length_replicate,Nat.add_sub_cancel_left,List.getElem?_map] at h2;cases ej:js[k']? with
   | none=>rw[ej] at h2;cases h2
   | some j =>
    rw[ej] at h2;simp only[Option.map_some,Option.some.injEq] at h2;obtain⟨hN,hk⟩:=S.at_ k' j x ej h1;have an:σ[j]? = some (some v):=by
     cases q:σ[j]? with
     | none=>rw[q] at h2;cases h2
     | some z=>rw[q] at h2;simp only[Option.join] at h2;rw[<- h2];rfl
    have ak:Vis X.env.scope x:=by rcases hk with q | q;exact .inr (.inl q);exact .inr (.inr q)
    obtain⟨m0,aq,aj⟩:=I.loc;obtain⟨u,r,l⟩:=aj j x v hN an ak;refine⟨u,r,?_⟩
    rcases l with⟨q,_⟩ | ⟨q,c,e,z⟩
    .have q':X.env.scope.names.lookup x=some .local:=q
     rw[q'] at hk;rcases hk with hk | hk <;> cases hk
    .have fr:=S.frl k' x h1
     have hv:(relabel scope X.env).names.lookup x=some .cell\/(relabel scope X.env).names.lookup x=some .free:=dX (env:=X.env) fr
     have q:(x,NameKind.free)∈scope.names:=cL fr
     obtain⟨c',e'⟩:=isSome_iff_exists.mp (ac x q);have e2:=F x c' e';rw[e] at e2;cases e2;obtain⟨oc,U,hd⟩:=z;exact .inr ⟨hv,c,Y x c (λc' z=>by
      have:=S.own _ (dA _ _ _ _ z) rfl
      rw[fr] at this;cases this) e',oc,k _ _ U,hd⟩
 .rcases cs x c e with a | a
  .exact⟨none,(B x c a).1⟩
  .obtain⟨v,oc,U,hd⟩:=I.cell x c (F x c a)
   exact⟨v,oc,k _ _ U,hd⟩
 .rcases cs x c e with a | a
  .exact ag c (le_of_succ_le (B x c a).2)
  .have e2:=F x c a
   obtain⟨v,oc,U,hd⟩:=I.cell x c e2;exact ae c (I.freeC x c e2) (Heap.lt_size U)
 .unfold dG
  show _=N.length
  rw[S.len];simp
def tS (B:List Str) (xs z:List (Str × NameKind)) (N:List Str) (nt:Nat) (js:List Nat):Bool :=
 decide N.Nodup && N.length == nt+js.length && (js.zip (N.drop nt)).all (λp=>B[p.1]? == some p.2 && gn xs p.2) && (N.drop nt).all (λx=>z.lookup x == some .free)
  && z.all (λy=>y.2 != .cell || z.lookup y.1 == some .cell) && z.all (λy=>y.2 != .local || z.lookup y.1 == some .local) && z.all (λy=>y.2 != .free || gn xs y.1)
theorem aH (F:List Str) (xs:List (Str × NameKind)) (U:scope.kind = .function:=by exact rfl) (hN:X.N=F:=by exact rfl) (Z:X.env.scope.names=xs:=by exact rfl)
  (h:tS F xs scope.names N nt js=true:=by decide+kernel):jV X scope N nt js:=by
 subst hN Z;unfold tS at h;simp only[Bool.and_eq_true] at h;obtain⟨⟨⟨⟨⟨⟨h1,h2⟩,h3⟩,h4⟩,h5⟩,h6⟩,Y⟩:=h;refine⟨U,of_decide_eq_true h1,by simpa using h2,λk j x e1 e2=>?_,λk x e=>?_,λy B e=>?_,λy B e=>?_,λy B e=>?_⟩
 .have hm:(j,x)∈js.zip (N.drop nt):=by
   have z:(N.drop nt)[k]? = some x:=by rw[List.getElem?_drop];exact e2
   have:(js.zip (N.drop nt))[k]? = some (j,x):=by rw[List.getElem?_zip_eq_some];exact⟨e1,z⟩
   exact mem_of_getElem? this
  have q:=all_eq_true.mp h3 _ hm;rw[Bool.and_eq_true] at q;exact⟨by simpa using q.1,ip q.2⟩
 .have hm:x∈N.drop nt:=by
   have z:(N.drop nt)[k]? = some x:=by rw[List.getElem?_drop];exact e
   exact mem_of_getElem? z
  simpa using all_eq_true.mp h4 _ hm
 .have q:=all_eq_true.mp h5 _ B
  rw[e] at q;simpa using q
 .have q:=all_eq_true.mp h6 _ B
  rw[e] at q;simpa using q
 .have q:=all_eq_true.mp Y _ B
  rw[e] at q;exact ip (by simpa using q)
end L2
namespace PySem.W
open PySem PySem.Calls PyProof.Rows
def bg (n:Nat) (p:Array Nat):Prop:=p.toList.Perm (range n)
theorem bg.lt (h:bg n p) (hn:0 < n) (i:Nat):p.getD i 0 < n:=by
 by_cases hi:i < p.size
 .have e:p.getD i 0=p[i]:=by simp[Array.getD,hi]
  rw[e];have:p[i]∈p.toList:=by simp
  exact mem_range.mp (h.mem_iff.mp this)
 .have e:p.getD i 0=0:=by simp[Array.getD,hi]
  rw[e];exact hn
theorem bg.rev (h:bg n p) (i j:Nat):bg n (kas_rev p i j):=(Array.perm_iff_toList_perm.mp (mirror_perm p i j _)).trans h
theorem bg.bub (h:bg n p) (i j:Nat):bg n (bubble p i j):=(Array.perm_iff_toList_perm.mp (bubble_perm p i j)).trans h
end PySem.W
namespace L2
open PySem PySem.Spec PyProof.Rows
def vy (K:PySem.W.Frag) (H:Hp) (l kvs:List (Key × V)):Prop:=∀p∈l,∃v,bu kvs p.1=some v/\∃d,Rep K H p.2 d/\Rep K H v d/\d.canLay0=true/\d.depth<=50/\PyData.eqv d d=true
theorem vf (I:Inv X pins σ H s) (hu:A.units+50 < cLine) (rb:KV kvs vb) : ∀{l:List (Key × V)} {B:List (Key × Value)},KV l B->vy X.K H l kvs->PySem.W.KeqHits A s vb B true:=by
 intro l B r;unfold KV at r
 induction r with
 | nil=>intro _;exact .nil
 | @cons p q ps qs h _ ih =>
  intro z;obtain⟨k,v⟩:=p;obtain⟨k',u⟩:=q;obtain⟨e,F⟩:=h;dsimp only at e F;subst e;obtain⟨Z,h1,d,U,r2,hl,hd,he⟩:=z (k,v) (by simp)
  dsimp only at h1 U;obtain⟨y,hy,ry⟩:=iN.some_of (v:=Z) (o:=valueAt vb k) (by rw[<- h1];exact rb.val k)
  obtain⟨as,g1⟩:=I.reads U F;obtain⟨bs,Y⟩:=I.reads r2 ry;have ea:SeqAt.EqAt A s u y true:=by
   have:=SeqAt.eqAt_reads d d A s u y as bs g1 Y hl hl (by rw[Nat.min_self];omega)
   rwa [he] at this
  exact PySem.W.KeqHits.hit (e:=true) (b:=true) hy ea (ih λp hp=>z p (by simp[hp]))
def CN (K:PySem.W.Frag) (b:Bool):R2:=λx y H Q=>∃a,x = .ref a/\∃c,y = .ref c/\∃l kvs,H a=some (.dK l)/\H c=some (.dK kvs)/\l.length=kvs.length/\vy K H l kvs/\Q (.bl b) H
theorem Cn (hu:X.A.units+102 < cLine):OpR X (compareOp .NotEq) (CN X.K false):=by
 intro pins s σ H x y v u Q I rx ry h;obtain⟨a,rfl,b,rfl,l,kvs,ha,hb,U,Y,q⟩:=h;cases rx;cases ry;obtain⟨z,hd,vs,F,dd⟩:=fT I.hok ha;obtain⟨z2,Z,ac,B,aa⟩:=fT I.hok hb;refine keq_ne (r:=true) hd Z dd aa (by omega) (λ_=>vf I (by show X.A.units+1+50 < cLine;omega) B F Y) ?_
 rw[<- F.length,<- B.length,U,beq_self_eq_true];exact⟨.bl false,H,I,rfl,q⟩
def Et (td ty:TE):TE:=λσ H Q=>td σ H λx H1=>ty σ H1 λy H2=>∃a,x = .ref a/\∃k,y=kV k/\∃o kvs v,H2 a=some (.frz o (.dK kvs))/\bu kvs k=some v/\Q v H2
theorem yX {o i:Expr} (Z:X.A.units+1 < cLine) (ho:PE X o td) (hi:PE X i ty) (hs:ES i:=by exact λ_ _=>rfl):PE X (.Subscript o i pos) (Et td ty):=by
 intro pins s σ H Q I h;refine wN PySem.F.slot_dict_getitem.lookup hs (thn (ho pins s σ H _ I h) λu s1 ⟨x,H1,I1,rx,q1⟩=>thn (hi pins s1 σ H1 _ I1 q1) λiv s2 z=>?_)
 obtain⟨y,H2,U,ry,a,ex,k,ey,ob,kvs,v,hd,hv,Y⟩:=z;subst ex;obtain rfl:u=Value.ref a:=rx
 have g:pR H2 a y (some v):=.inl ⟨kvs,k,.inr ⟨ob,hd⟩,ey,hv.symm⟩
 exact⟨lb U g,qw Z U g ry λw' s3 I3 B=>⟨v,H2,I3,B,Y⟩⟩
end L2
namespace PySem
open L2 PyProof.Rows PySem.Calls
def hJ:Int:=0xFCA86420
theorem uP {Q:Int->Shared->Prop} (h:Q hJ { s with toks:=s.toks+1 }):wpAny (model prog w) A (pyHash .none) Q E s:=by
 have B:s.TypeIs Value.none "NoneType" := rfl
 show wpAny _ _ (pyHashByItsType .none) Q E s
 unfold pyHashByItsType;refine wpAny_bind ?_
 rw[cRoomFor,if_neg (by rw[show[Value.none].any Value.onHeap=false from rfl];exact Bool.false_ne_true)]
 refine wpAny_pure (wpAny_bind (wpAny_specialOf B PySem.F.slot_NoneType_hash.lookup ?_))
 refine wpAny_ite_split (λz=>by cases z) λ_=>?_
 refine wpAny_bind (wpAny_specialOf B PySem.F.slot_NoneType_hash.lookup ?_)
 refine wpAny_ite_split (λz=>by cases z) λ_=>?_
 refine wpAny_bind (wpAny_callSpecialIfBoundUnlessNone?_slot B PySem.F.slot_NoneType_hash (wpAny_call_entry PySem.F.slot_NoneType_hash B PySem.F.entry_NoneType_hash (show wpAny _ _ (do ret (<- mkInt hJ)) _ _ s from wpAny_ret_mkInt ?_) (PySem.F.args_NoneType_hash_1 _)))
 show wpAny _ _ (if (decide (-(2:Int) ^ 63<=hJ) && decide (hJ < 2 ^ 63))=true then _ else _) Q E _
 rw[if_pos (by decide)]
 exact wpAny_pure h
theorem uG {Q:Bool->Shared->Prop} (h:Q true s):wpAny (model prog w) A (eqBool .none .none) Q E s:=by
 unfold eqBool;refine wpAny_holding ?_
 rw[if_pos (by decide)]
 exact wpAny_bind (wpAny_rule (wpAny_pure h))
section
variable {K:Type} [DecidableEq K] {knd:HeapKind prog w K} {A:Around} {E:Value->Shared->Prop} {s:Shared} {d a:Addr} {k:K} {xs:List (K × Addr × Value)}
theorem lr {α β:Type} (f:α->β) : ∀(l:List α) (j:Nat),(l.map f).eraseIdx j=(l.eraseIdx j).map f
 | [],_=>rfl
 | _ :: _,0=>rfl
 | x :: r,j+1=>by show f x ::(r.map f).eraseIdx j=f x ::(r.eraseIdx j).map f;rw[lr f r j]
end
end PySem
namespace L2
open PySem PySem.Spec PyProof.Rows
def kK (t:TE):TE:=λσ H Q=>∃a kvs,H a=some (.dK kvs)/\t σ H λv H'=>(∃o,H' a=some (.frz o (.dK kvs)))/\Q v (upd H' a (.dK kvs))
theorem kq {t:TE} (h:PE X e t):PE X e (kK t):=by
 intro pins s σ H Q I ⟨a,kvs,ha,ht⟩;have hn : ∀ob u,X.H₀ a≠some (.frz ob u):=λob u e=>by have:=I.base.frzs a ob u e;rw[ha] at this;cases this
 refine thn (h pins s σ H _ I ht) λu s' ⟨v,H',I',rv,⟨o,eo⟩,q⟩=>?_
 exact⟨v,_,I'.retag eo (by intro y z;cases z) (by intro y z;cases z) hn (by intro y z;cases z) (show s'.heap.get? a=some o/\be X.prog X.w H' s'.heap a (.dK kvs) from I'.hok a _ eo).2,rv,q⟩
def zr (H:Hp) (l kvs:List (Key × V)) (ra rb:Key->List Int):Prop:=∀p∈l,∃x1 z,p.2 = .ref x1/\H x1=some (.tup ((ra p.1).map V.int))/\bu kvs p.1=some (.ref z)/\H z=some (.tup ((rb p.1).map V.int))
theorem xY {ra:Key->List Int} (I:Inv X pins σ H s) (hu:A.units+50 < cLine) (rl:KV kvs vb) : ∀{l:List (Key × V)} {B:List (Key × Value)},KV l B->zr H l kvs ra rb->PySem.W.KeqHits A s vb B (l.all λp=>decide (ra p.1=rb p.1)):=by
 intro l B r;unfold KV at r
 induction r with
 | nil=>intro _;exact .nil
 | @cons p q ps qs h _ ih =>
  intro z;obtain⟨k,v⟩:=p;obtain⟨k',u⟩:=q;obtain⟨e,F⟩:=h;dsimp only at e F;subst e;obtain⟨x1,x2,e1,t1,e2,t2⟩:=z (k,v) (by simp)
  dsimp only at e1 t1 e2 t2;subst e1;obtain⟨y,hy,ry⟩:=iN.some_of (v:=.ref x2) (o:=valueAt vb k) (by rw[<- e2];exact rl.val k)
  obtain⟨as,Z⟩:=I.reads (.tup (.of t1) (cj.ints (ra k))) F;obtain⟨bs,U⟩:=I.reads (.tup (.of t2) (cj.ints (rb k))) ry;have ea:SeqAt.EqAt A s u y (decide (ra k=rb k)):=by
   have:=SeqAt.eqAt_reads (fX (ra k)) (fX (rb k)) A s u y as bs Z U (iE _) (iE _) (by
    have h1:=kE (ra k);have:min (fX (ra k)).depth (fX (rb k)).depth<=(fX (ra k)).depth:=Nat.min_le_left _ _
    omega)
   rwa [xB] at this
  exact PySem.W.KeqHits.hit hy ea (ih λp Y=>z p (by simp[Y]))
end L2
namespace PyProof.Rows
open PySem PySem.Spec
theorem nS {it t:Addr} {items:Array Value} (aa:t≠it) : ∀(n i:Nat) (s:Shared) (Q:List Value->Shared->Prop),s.heap.IsListIter it t i->s.heap.IsList t items->i+n<=items.size ->
  (∀h',h'.IsListIter it t (i+n)->Heap.SameBut it s.heap h'->Q ((items.toList.drop i).take n) { s with heap:=h' })->wpAny (model prog w) A (draw (.ref it) n) Q E s
 | 0,i,s,Q,hit,_,_,hQ=>by
  show wpAny _ _ (pure []) Q E s
  exact wpAny_pure (by simpa using hQ s.heap hit (Heap.SameBut.refl ..))
 | n+1,i,s,Q,hit,ht,hle,hQ=>by
  have Y:i < items.size:=by omega
  show wpAny _ _ (pyNext (.ref it) >>= _) Q E s
  refine wpAny_bind (wpAny_pyNext_list_item hit ht (x:=items[i]) (by simp[Y]) λac B z=>?_)
  refine wpAny_bind (wpAny_holding (nS aa n (i+1) _ _ B (ht.extBut z.extBut aa) (by omega) λZ F U=>wpAny_pure ?_))
  have hd:items.toList.drop i=items[i] :: items.toList.drop (i+1):=by simp[List.drop_eq_getElem_cons,Y]
  have:=hQ Z (by rw[show i+(n+1)=i+1+n by omega];exact F) (z.trans U)
  rw[hd,List.take_succ_cons] at this;exact this
theorem kr {Q:List Value->Shared->Prop} (hh:A.handled=none) (ht:s.heap.IsList t items)
  (hQ : ∀h',Heap.ExtBut s.heap.objs.size s.heap h'->Q items.toList { s with heap:=h' }):wpAny (model prog w) A (unpackItems (.ref t) items.size none) Q E s:=by
 have ac:t≠s.heap.objs.size:=by obtain⟨o,ho,_⟩:=ht;exact ne_of_lt (Heap.lt_size ho)
 unfold unpackItems;refine wpAny_bind ?_
 .unfold notIterableAtAll
  refine wpAny_bind (wpAny_specialOf ht.typeIs slot_list_iter.lookup ?_)
  refine wpAny_pure ?_
  simp only[Bool.false_eq_true,if_false];refine wpAny_bind (wpAny_holding (wpAny_pyIter_list ht ?_))
  refine wpAny_bind (wpAny_holding (nS ac items.size 0 _ _ ⟨_,Heap.get?_push_size _ rfl,rfl,rfl⟩ (ht.push _) (by omega) λaa B z=>?_))
  have Y:List.take items.size (List.drop 0 items.toList)=items.toList:=by
   rw[drop_zero];exact take_of_length_le (by simp)
  rw[Y];rw[if_neg (by simp)]
  have F:aa.IsList t items:=(ht.push _).extBut z.extBut ac
  refine wpAny_bind (wpAny_holding (wpAny_pyNext_list_end hh B F (by simp) λZ U=>?_))
  simp only[Option.isSome_none,Bool.false_eq_true,if_false];refine wpAny_pure (hQ Z λb o hb e=>U b o hb (z.extBut b o hb (Heap.get?_push_of_some _ e)))
theorem jx {x1} {pos:Pos} {t:Addr} {items:Array Value} {Q:Unit->Shared->Prop} (B:A.handled=none) (F:s.heap.IsList t items)
  (hn:(assignEach elts env).length=items.size) (z:(assignEach elts env).findIdx? (·.1)=none)
  (h : ∀h',Heap.ExtBut s.heap.objs.size s.heap h'->wpAny (model prog w) A (assignInOrder ((assignEach elts env).map (·.2)) items.toList) Q E { s with heap:=h' }) :
  wpAny (model prog w) A (assign (.Tuple elts x1 pos) env (.ref t)) Q E s:=by
 rw[assign_Tuple];refine wpAny_bind (wpAny_standAt ?_)
 unfold unpack;rw[hn,z];exact wpAny_bind (wpAny_holding (kr B F h))
end PyProof.Rows
namespace L2
open PySem PySem.Spec PyProof.Rows
def CS (n:Nat) (t:TGs):TG:=λv σ H Q=>∃a,v = .ref a/\∃xs,H a=some (.lst xs)/\xs.length=n/\t xs σ H Q
theorem CF {t:TGs} (Z:X.calm=true) (h:PGs X es t)
  (hn:(assignEach es X.env).length=n:=by rfl) (z:(assignEach es X.env).findIdx? (·.1)=none:=by rfl):PG X (.Tuple es k pos) (CS n t):=by
 intro pins s σ H v u Q I r hw;obtain⟨a,e1,xs,hq,hl,hw⟩:=hw;subst e1;cases r;obtain⟨its,B,F,hz⟩:=I.list (SqL.of hq);refine jx (I.ok.hd Z) F.isList (by simp[hn,<- hl,B.length]) z λh' U=>?_
 have Y:Inv X pins σ H { s with heap:=h' }:=I.kept (t':=s.toks) λb o e=>U b o (ne_of_lt (Heap.lt_size e)) e
 exact h pins _ σ H xs _ Q Y (by simpa using B) hw
noncomputable def eP (i:Nat):TE:=λσ H Q=>match σ[i]? with | some (some v)=>Q v H | _=>False
theorem Ay {i:Nat} {Q:VK} (h:eP i σ H Q):BQ i σ H Q:=by
 unfold eP at h
 split at h
 .exact⟨_,by assumption,h⟩
 .exact h.elim
theorem pvM (i:Nat) {x:Str} {pos:Pos} (F:X.N[i]? = some x:=by rfl) (B:Vis X.env.scope x:=by first | exact Or.inl rfl | exact Or.inr (Or.inl rfl) | exact Or.inr (Or.inr rfl)) (U:(x ==("__debug__" : Str))=false:=by decide)
  (z:(x ==("__classdict__" : Str))=false:=by decide):PE X (.Name x pos) (eP i):=λpins s σ H Q I h=>zA F B U z pins s σ H Q I (Ay h)
end L2
namespace PySem
open Sem (wp)
section
variable {o:Obj} {xs:Array Value} {Q:Option Value->Shared->Prop}
theorem kA (hx:s.heap.get? a=some o) (hc:o.cls = .type "tuple") (z:o.data = .seq xs k) (hd:o.dict=none) (U:typeLookup (.type "tuple") name=pure none) (B:(["__module__","__name__","__qualname__","__doc__","__annotations__"]:List Str).contains name=false) (hA:A.handled=none)
  (h : ∀h' tk,(∀b u,s.heap.get? b=some u->h'.get? b=some u)->Q none { s with heap:=h',toks:=tk }) (hsz:name.length+100<=sizeLine:=by size_fits) :
  wpAny (model prog w) A (getAttr? (.ref a) name) Q E s:=by
 obtain⟨c,aa,dat,sl⟩:=o;simp only at hc z hd;subst hc z hd;obtain⟨hp,g,d,tk,os⟩:=s;have hT : ∀Z,(⟨hp,g,d,Z,os⟩:Shared).TypeIs (.ref a) "tuple" := λ_=>⟨_,hx,rfl⟩
 have f1:=sub_AttributeError;have f3:=F.slot_tuple_getattribute.lookup;have f4:=F.slot_tuple_getattribute.bind (.ref a);have f5:=am_tuple_getattr_none;unfold getAttr? getAttrBy? getAttrBy
 repeat (any_goals (first | assumption | exact hT _ | ((with_reducible show wpAny _ _ (call (Value.builtin "tuple.__getattribute__") _ _) _ _ _);refine call_meets F.slot_tuple_getattribute (hT _) am_entry_tuple_getattribute (F.args_tuple_getattribute_2 _ _) (meets_getattribute_miss_tuple a xs k sl name _ U B hsz) ⟨hx,hA,λh' Z e Y=>?_⟩) | wp_step))
 obtain⟨t',u',he⟩:=Y.there
 show wpAny _ _ (getattributeRaised _ _ _ _ _ _ _) _ _ _
 unfold getattributeRaised
 repeat (any_goals (first | assumption | wp_step))
 exact h _ _ Y.keeps
theorem lQ (hx:s.heap.get? a=some o) (hc:o.cls = .type "list") (z:o.data = .seq xs k) (hd:o.dict=none) (U:typeLookup (.type "list") name=pure none) (B:(["__module__","__name__","__qualname__","__doc__","__annotations__"]:List Str).contains name=false) (hA:A.handled=none)
  (h : ∀h' tk,(∀b u,s.heap.get? b=some u->h'.get? b=some u)->Q none { s with heap:=h',toks:=tk }) (hsz:name.length+100<=sizeLine:=by size_fits) :
  wpAny (model prog w) A (getAttr? (.ref a) name) Q E s:=by
 obtain⟨c,aa,dat,sl⟩:=o;simp only at hc z hd;subst hc z hd;obtain⟨hp,g,d,tk,os⟩:=s;have hT : ∀Z,(⟨hp,g,d,Z,os⟩:Shared).TypeIs (.ref a) "list" := λ_=>⟨_,hx,rfl⟩
 have f1:=sub_AttributeError;have f3:=F.slot_list_getattribute.lookup;have f4:=F.slot_list_getattribute.bind (.ref a);have f5:=am_list_getattr_none;unfold getAttr? getAttrBy? getAttrBy
 repeat (any_goals (first | assumption | exact hT _ | ((with_reducible show wpAny _ _ (call (Value.builtin "list.__getattribute__") _ _) _ _ _);refine call_meets F.slot_list_getattribute (hT _) am_entry_list_getattribute (F.args_list_getattribute_2 _ _) (meets_getattribute_miss_list a xs k sl name _ U B hsz) ⟨hx,hA,λh' Z e Y=>?_⟩) | wp_step))
 obtain⟨t',u',he⟩:=Y.there
 show wpAny _ _ (getattributeRaised _ _ _ _ _ _ _) _ _ _
 unfold getattributeRaised
 repeat (any_goals (first | assumption | wp_step))
 exact h _ _ Y.keeps
end
namespace F
theorem entry_dict_update_loop:entryFor table "dict.update.loop" = some Builtin.«dict.update.loop» := entryFor_of_tree (by kernel_rfl)
theorem plain_dict_update_loop:plainId "dict.update.loop" = true:=by decide+kernel
theorem lk_tuple_keys:typeLookup (.type "tuple") "keys" = pure none:=by rw[typeLookup_type,builtinLookup_eq_fast];kernel_rfl
theorem lk_list_keys:typeLookup (.type "list") "keys" = pure none:=by rw[typeLookup_type,builtinLookup_eq_fast];kernel_rfl
end F
section
variable {K:Type} [DecidableEq K] {knd:KeyKind prog w K} {A:Around} {R:Result->Shared->Prop} {I:Addr} {fp wr:List Addr} {G:Array GenState->Array GenState->Prop} {n:Nat} {P:Nat->Value->Prop} {St:Nat->Shared->Prop}
theorem eR (W:WalksS prog w A.in1 I fp wr G n P St) (D:Addr) (ai:D∉fp) (h0:Heap) (key:Nat->K) (val:Nat->Value) (kv:Nat->List (K × Value))
  (aa : ∀i v,i < n->P i v->∃q o k0 m,v = .ref q/\q∉D :: wr/\h0.get? q=some o/\o.cls = .type "tuple" /\ o.data = .seq #[k0,val i] m/\knd.is (key i) k0=true)
  (au : ∀i,i < n->kv (i+1)=stored (kv i) (key i) (val i)) (hsz : ∀i,i<=n->(kv i).length<=sizeLine) :
  ∀ (k i:Nat) (s:Shared) (tok:Tok),n - i=k->i<=n->St i s->s.heap.DictOf knd D (kv i)->(∀b o,b∉D :: wr->h0.get? b=some o->s.heap.get? b=some o) ->
   (∀s',Moved (D :: wr) G s s'->s'.heap.DictOf knd D (kv n)->R (.ok (.ret .none)) s') ->
   codeAny (model prog w) A (.builtin "dict.update.loop" ⟨[.ref D,.ref I,.int i tok,.none],[]⟩) R s:=by
 have aj:D∉wr:=λh=>ai (W.sub _ h)
 have B : ∀b∈wr,b∈D :: wr:=λb U=>mem_cons_of_mem _ U
 intro k
 induction k with
 | zero =>
  intro i s tok hk hi ac hD ad hR;have ao:i=n:=by omega
  subst ao;refine codeAny_builtin F.entry_dict_update_loop ?_
  rw[Around.under_plainId F.plain_dict_update_loop _]
  show wpAny _ A.in1 (pyNext (.ref I) >>= _) _ _ s
  refine wpAny_bind (W.done s _ _ ac λs' Z=>?_)
  show wpAny _ A.in1 (do Builtin.Dict.addKeywords D [];ret Value.none) _ _ s'
  refine wpAny_bind (wpAny_pure (wpAny_pure (hR s' (Z.mono B) ?_)))
  obtain⟨o,es,ep,ho,rest⟩:=hD;exact⟨o,es,ep,Z.heap D _ aj ho,rest⟩
 | succ k ih =>
  intro i s tok hk hi ac hD ad hR;have Y:i < n:=by omega
  refine codeAny_builtin F.entry_dict_update_loop ?_
  rw[Around.under_plainId F.plain_dict_update_loop _]
  show wpAny _ A.in1 (pyNext (.ref I) >>= _) _ _ s
  refine wpAny_bind (W.item i s _ _ Y ac λv s' hP ag Z=>?_)
  obtain⟨q,o,k0,m,rfl,hq,hg,hc,hd,ap⟩:=aa i v Y hP;have aq:s'.heap.DictOf knd D (kv i):=by
   obtain⟨o,es,ep,ho,rest⟩:=hD;exact⟨o,es,ep,Z.heap D _ aj ho,rest⟩
  have af:s'.heap.get? q=some o:=Z.heap q o (λz=>hq (B _ z)) (ad q o hq hg)
  obtain⟨c,av,dat,sl⟩:=o;simp only at hc hd;subst hc hd;have hT:s'.TypeIs (.ref q) "tuple" :=⟨_,af,rfl⟩
  dsimp only;refine wpAny_bind (wpAny_holding (wpAny_bind ?_))
  refine wpAny_tryCatch ?_
  unfold Builtin.Dict.pairItems;refine wpAny_bind (wpAny_typeOf hT ?_)
  rw[if_pos (by decide)]
  refine wpAny_bind (wpAny_seqItems af rfl ?_)
  refine wpAny_pure ?_
  show wpAny _ _ (holding [k0,val i] (dictSet D k0 (val i))) _ _ s'
  refine wpAny_holding (wpAny_dictSet_pairs ap aq (λh' an ae=>?_) (hsz i hi))
  refine wpAny_pure ⟨plainId_quiet F.plain_dict_update_loop _,ih (i+1) _ _ (by omega) Y (W.frame _ s' _ _ ag (le_succ _) λb U o e=>?_) (by rw[au i Y];exact an) (λb o U e=>?_) λar ak ah=>?_⟩
  .rw[ae.2 b (λh:b=D=>ai (by rw[<- h];exact U))];exact e
  .rw[ae.2 b (λh:b=D=>U (by rw[h];exact mem_cons_self))]
   exact Z.heap b o (λz=>U (B _ z)) (ad b o U e)
  .refine hR ar (Moved.trans W.gtrans ((Z.mono B).then_heap (le_succ _) λb o U e=>?_) ak) ah
   rw[ae.2 b (λh:b=D=>U (by rw[h];exact mem_cons_self))];exact e
theorem call_dict_pairs {o:Obj} {m:Nat} {key:Nat->K} {val:Nat->Value} {kv:Nat->List (K × Value)}
  (ak:T = "tuple" \/ T = "list") (hh:A.handled=none) (hl:s.heap.get? l=some o) (hc:o.cls = .type T) (z:o.data = .seq items m) (hd:o.dict=none)
  (ag : ∀i v,items[i]? = some v->∃q o k0 m,v = .ref q/\s.heap.get? q=some o/\o.cls = .type "tuple" /\ o.data = .seq #[k0,val i] m/\knd.is (key i) k0=true)
  (h0:kv 0=[]) (aq : ∀i,i < items.size->kv (i+1)=stored (kv i) (key i) (val i)) (hsz : ∀i,i<=items.size->(kv i).length<=sizeLine)
  (h : ∀h' tk,h'.DictOf knd s.heap.objs.size (kv items.size)->(∀b o,s.heap.get? b=some o->h'.get? b=some o)->Q (.ref s.heap.objs.size) { s with heap:=h',toks:=tk }) :
  wpAny (model prog w) A (call (.type "dict") [.ref l]) Q E s:=by
 refine callType_codes (Q₁:=λai s₁=>ai = .ref s.heap.objs.size/\s₁={ s with heap:=s.heap.push { cls:=.type "dict",data:=.dict #[] } }) F.kt_called_dict (F.kt_typeCall_dict_1 _) F.entry_dict_init (kt_code_dict_new _ ⟨rfl,rfl⟩) ?_
 rintro ai s₁ ⟨rfl,rfl⟩
 have Z:(s.heap.push { cls:=.type "dict",data:=.dict #[] }).DictOf knd s.heap.objs.size []:=Heap.DictOf.new s.heap
 refine⟨Z.typeIs,F.args_dict_init_2 _ _,?_⟩
 unfold Builtin.«dict.__init__»;refine wpAny_bind ?_
 unfold Builtin.Dict.selfAndRest;refine wpAny_bind (wpAny_notOrdered_dict Z.typeIs ?_)
 show wpAny _ _ (pure (s.heap.objs.size,[Value.ref l])) _ _ _
 refine wpAny_pure ?_
 show wpAny _ _ (Builtin.Dict.updateFrom "dict.__init__" s.heap.objs.size (.ref l) [] .none) _ _ _
 unfold Builtin.Dict.updateFrom;have B:(s.heap.push { cls:=.type "dict",data:=.dict #[] }).get? l=some o:=Heap.get?_push_of_some _ hl
 have aj:Shared.TypeIs { s with heap:=s.heap.push { cls:=.type "dict",data:=.dict #[] } } (.ref l) T:=⟨_,B,hc⟩
 refine wpAny_bind (wpAny_typeOf aj ?_)
 have ae : ∀(h1:Heap) (U:Nat),(∀b u,(s.heap.push { cls:=.type "dict",data:=.dict #[] }).get? b=some u->h1.get? b=some u) ->
   ∀(TI:Obj) (St:Nat->Heap->Prop),Walks prog w A.in1.in1 h1.objs.size [h1.objs.size,l] [h1.objs.size] items.size (λi v=>items[i]? = some v) St->St 0 (h1.push TI) ->
   codeAny (model prog w) A.in1 (.builtin "dict.update.loop" ⟨[.ref s.heap.objs.size,.ref h1.objs.size,rawInt 0,.none],[]⟩) (wants (λr ah=>r=Value.none/\Q (Value.ref s.heap.objs.size) ah) E) { s with heap:=h1.push TI,toks:=U }:=by
  intro h1 U Y TI St W ao;obtain⟨od,_,_,ap,_⟩:=Z;have aa:s.heap.objs.size < h1.objs.size:=Heap.lt_size (Y _ _ ap)
  have ar:l < s.heap.objs.size:=Heap.lt_size hl
  have an:s.heap.objs.size∉[h1.objs.size,l]:=by
   simp only[mem_cons,mem_singleton,not_mem_nil,or_false,not_or];exact⟨ne_of_lt aa,ne_of_gt ar⟩
  have ad : ∀b o,s.heap.get? b=some o->(h1.push TI).get? b=some o:=λb o e=>Heap.get?_push_of_some _ (Y b o (Heap.get?_push_of_some _ e))
  refine eR (knd:=knd) W.toS s.heap.objs.size an s.heap key val kv (λi v hi hv=>?_) aq hsz (items.size - 0) 0 _ 0 rfl (zero_le _) ao ?_ (λb o _ e=>ad b o e) λs' hm hD=>?_
  .obtain⟨q,o,k0,m,rfl,hg,r⟩:=ag i v hv
   have hq:=Heap.lt_size hg;exact⟨q,o,k0,m,rfl,by simp only[mem_cons,mem_singleton,not_mem_nil,or_false,not_or];exact⟨ne_of_lt hq,ne_of_lt (lt_trans hq aa)⟩,hg,r⟩
  .rw[h0]
   obtain⟨o,es,ep,ho,rest⟩:=(Heap.DictOf.new (knd:=knd) s.heap);exact⟨o,es,ep,Heap.get?_push_of_some _ (Y _ _ ho),rest⟩
  .obtain⟨h',g',d',tk',os'⟩:=s'
   have eg:g'=s.gens:=hm.gens
   have ed:d'=s.drawn:=hm.drawn
   have eo:os'=s.os:=hm.os
   subst eg;subst ed;subst eo;refine⟨rfl,h h' tk' hD λb o e=>hm.heap b o ?_ (ad b o e)⟩
   have hq:=Heap.lt_size e;simp only[mem_cons,mem_singleton,not_mem_nil,or_false,not_or];exact⟨ne_of_lt hq,ne_of_lt (lt_trans hq aa)⟩
 have ac:A.in1.in1.handled=none:=by simp[hh]
 rcases ak with rfl | rfl
 .rw[if_pos (by decide)]
  refine wpAny_bind (kA B hc z hd F.lk_tuple_keys (by decide+kernel) ac (λh1 U Y=>?_))
  rw[if_pos (show(isNone (none:Option Value))=true from rfl)]
  refine wpAny_bind (wpAny_rule ?_)
  have ht:h1.IsTuple l items:=⟨o,Y _ _ B,hc,m,z⟩
  refine wpAny_bind (wpAny_pyIter_tuple ht ?_)
  have af:l≠h1.objs.size:=ne_of_lt (Heap.lt_size (Y _ _ B))
  refine wpAny_pure ⟨plainId_quiet F.plain_dict_update_loop _,ae h1 U Y _ _ (Walks.tuple ac _ l af items) ⟨⟨_,Heap.get?_push_size _ rfl,rfl,rfl⟩,?_⟩⟩
  exact⟨o,Heap.get?_push_of_some _ (Y _ _ B),hc,m,z⟩
 .rw[if_pos (by decide)]
  refine wpAny_bind (lQ B hc z hd F.lk_list_keys (by decide+kernel) ac (λh1 U Y=>?_))
  rw[if_pos (show(isNone (none:Option Value))=true from rfl)]
  refine wpAny_bind (wpAny_rule ?_)
  have ht:h1.IsList l items:=⟨o,Y _ _ B,hc,m,z⟩
  refine wpAny_bind (wpAny_pyIter_list ht ?_)
  have af:l≠h1.objs.size:=ne_of_lt (Heap.lt_size (Y _ _ B))
  refine wpAny_pure ⟨plainId_quiet F.plain_dict_update_loop _,ae h1 U Y _ _ (Walks.list ac _ l af items) ⟨⟨_,Heap.get?_push_size _ rfl,rfl,rfl⟩,?_⟩⟩
  exact⟨o,Heap.get?_push_of_some _ (Y _ _ B),hc,m,z⟩
end
end PySem
namespace L2
open PySem PySem.Spec PyProof.Rows
structure CZ (w:World) (K:PySem.W.Frag) (a:Addr):Prop where
 ex : ∃es n,K.lookup a=some ⟨.type "dict",none,.dict es n,#[]⟩/\PySem.W.KeysLit w.params es.toList
def FnT (P:Program) (w:World) (K:PySem.W.Frag) (mg:Str->Option Value) (base:Heap) (a:Addr) (x:Str) (k:Nat) (ps:List Str) (sp:Sp):Prop :=
 ∃f fd,ig P w K mg base CX0 k f fd ps sp/\nsIn K a x=some (some (.ref f))/\keepIn K (.ref f)=true/\jB K fd ps []
theorem dt {y:Str} (F:Fn P w K mg base y j ps sp) (B:mg y=some (.ref f)) (hn:nsIn K a x=some (some (.ref f))) (h:j<=k)
  (U : ∀vs H Q E,sp' vs H Q E->sp vs H Q E):FnT P w K mg base a x k ps sp':=by
 obtain⟨Y,fd,F,m,z,b⟩:=F;rw[B] at m;cases m;exact⟨f,fd,(F.mono h).imp U,hn,z,b⟩
noncomputable def dm (names:List Str) (sp:Str->Sp) (tb:TE) (t:TA):TE:=λσ H Q=>tb σ H λy H1=>∃x,y = .str x/\x∈names/\t σ H1 λvs H2=>sp x vs H2 Q E0
section
variable {p:Pos} {b:Expr} {t:TA}
theorem tK {sp:Str->Sp} (TA:CZ X.w X.K a) (F : ∀y∈names,FnT X.prog X.w X.K X.mg X.base a y k ps (sp y)) (hm:X.mg x=some (.ref a)) (hb:PE X b tb) (ha:PA X (e :: es) t) (hr:ci k X.A:=by exact ci.mono (by assumption) (by first | decide | omega)) (hg:Gl X x:=by exact rfl)
  (hs:lR b:=by exact λ_ _=>rfl) (U:(x ==("__debug__" : Str))=false:=by decide)
  (he:starEach (e :: es) X.env=(false,eval e X.env) :: starEach es X.env:=by rfl) (Y:(backTo pos (starEach es X.env)).any (·.1)=false:=by rfl) :
  PE X (.Call (.Subscript (.Name x p) b p1) (e :: es) [] pos) (dm names sp tb t):=by
 intro pins s σ H Q I h
 show wpAny _ _ (do callWith pos (<- eval (.Subscript (.Name x p) b p1) X.env) [] (backTo pos (starEach (e :: es) X.env)) (backToKw pos (keywordEach [] X.env))) _ _ s
 refine wpAny_bind (Subscript_ (md I hg hm (thn (hb pins s σ H _ I h) λu s1 z=>?_) U))
 obtain⟨v,H1,Z,r,y,ey,hy,q⟩:=z;subst ey;obtain⟨tk,rfl⟩:=r;obtain⟨f,fd,F,hn,kp,bd⟩:=F y hy;obtain⟨aa,n,hl,hk⟩:=TA.ex;have B:=PySem.W.mapOf_K (prog:=X.prog) Z.kIn hl hk;refine PyProof.Rows.tail_any B.typeIs PySem.F.slot_dict_getitem.lookup (wpAny_getItem_of (strKind_is X.prog X.w y tk) B (PySem.W.find_K hl hn) ?_) (hs _ _)
 have I2:Inv X pins σ H1 { s1 with toks:=s1.toks+1 }:=Z.tok _
 refine callWith_K (h₀:=X.base) I.ok.mod.kin kp (thn (ha pos pins _ σ H1 _ I2 q) λus s3 ⟨vs,H3,I3,r3,q3⟩=>⟨I3.kIn,?_⟩) he Y
 exact kG F hr bd .nil qv I3 r3 (by rw[append_nil];exact q3)
end
def HZ (H:Hp) (p:Addr) (ys:List V):Prop:=∃o:Obj,o.dict=none/\H p=some (.frz o (.tup ys))
def Gu (H:Hp) (ys:List V) (z:List (Key × V)):Prop:=∃as:List (Addr × Key × V),ys=as.map (λx=>V.ref x.1)/\as.map (·.2)=z/\∀x∈as,H x.1=some (.tup [kV x.2.1,x.2.2])
def vz:List V->Hp->VK->Prop:=λxs H Q=>∃p,xs=[.ref p]/\∃ys z,(HZ H p ys\/H p=some (.lst ys))/\Gu H ys z/\z.length<=sizeLine/\∀d,H d=none->Q (.ref d) (upd H d (.dK (fE [] z)))
theorem oC {pins:List (Addr × Obj)} {σ:St} {H:Hp} {s:Shared} (I:Inv X pins σ H s) : ∀as:List (Addr × Key × V),(∀x∈as,H x.1=some (.tup [kV x.2.1,x.2.2])) ->
  ∃rs:List (Key × Value),KV (as.map (·.2)) rs/\∀(i:Nat) (x:Addr × Key × V),as[i]? = some x->∃(o:Obj) (z:Value) (m:Nat) (r:Value),rs[i]? = some (x.2.1,r)/\s.heap.get? x.1=some o/\o.cls = .type "tuple" /\ o.data = .seq #[z,r] m/\(aU X.prog X.w).is x.2.1 z=true
 | [],_=>⟨[],.nil,λi x h=>by simp at h⟩
 | y :: as,h=>by
  obtain⟨rs,h1,h2⟩:=oC I as λx F=>h x (mem_cons_of_mem _ F)
  obtain⟨its,r,⟨o,B,Y,m,U⟩,_⟩:=I.tuple (.of (h y mem_cons_self));obtain⟨u,v,rfl,r1,Z⟩:=tF r;refine⟨(y.2.1,v) :: rs,.cons ⟨rfl,Z⟩ h1,λi x e=>?_⟩
  cases i with
  | zero =>
   simp at e
   subst e;exact⟨o,u,m,v,rfl,B,Y,U,lc r1⟩
  | succ i=>exact h2 i x (by simpa using e)
theorem tL (rs:List (Key × Value)) (i:Nat) (x:Key × Value) (h:rs[i]? = some x):merged [] (rs.take (i+1))=stored (merged [] (rs.take i)) x.1 x.2:=by
 rw[take_add_one,h];unfold merged;rw[foldl_append];rfl
theorem oP (hc:X.calm=true):bE X (.type "dict") vz:=by
 intro pins s σ H xs us Q I r h;obtain⟨p,rfl,ys,af,hz,⟨as,rfl,rfl,hp⟩,hl,q⟩:=h;obtain⟨u,rfl,rx⟩:=cI r;cases rx;obtain⟨rs,kv,ad⟩:=oC I as hp;have ae:as.length=rs.length:=by have:=Paired.length kv;simpa using this
 obtain⟨its,o,T,m,rv,ho,hT,Y,z,aa⟩ : ∃(its:List Value) (o:Obj) (T:String) (m:Nat),aR (as.map λx=>V.ref x.1) its/\s.heap.get? p=some o/\(T = "tuple" \/ T = "list")/\o.cls = .type T/\o.data = .seq its.toArray m/\o.dict=none:=by
  rcases hz with⟨o,hd,e⟩ | e
  .obtain⟨h1,_,its,r,o',h2,h3,m,h4⟩:=(show be X.prog X.w H s.heap p (.frz o (.tup _)) from I.hok p _ e)
   rw[h1] at h2;cases h2;exact⟨its,o,"tuple",m,r,h1,.inl rfl,h3,h4,hd⟩
  .obtain⟨_,its,m,r,h1⟩:=(show be X.prog X.w H s.heap p (.lst _) from I.hok p _ e)
   exact⟨its,_,"list",m,r,h1,.inr rfl,rfl,rfl,rfl⟩
 have Z:its.toArray.size=rs.length:=by have:=rv.length;simp at this ⊢;omega
 refine PySem.call_dict_pairs (knd:=aU X.prog X.w) (key:=λi=>((rs[i]?).map (·.1)).getD (Sum.inl 0)) (val:=λi=>((rs[i]?).map (·.2)).getD .none) (kv:=λi=>merged [] (rs.take i)) hT (I.ok.hd hc) ho Y z aa (λi v U=>?_) rfl (λi hi=>?_) (λi hi=>?_) λh' tk dd kp=>?_
 .have hi:i < its.length:=by
   have:=(Array.getElem?_eq_some_iff.mp U).1
   simpa using this
  have B:i < as.length:=by have:=rv.length;simp at this;omega
  obtain⟨w',hw,F⟩:=rv.get (i:=i) (x:=V.ref (as[i].1)) (by simp[B])
  have ev:v=w':=by
   rw[List.getElem?_toArray,hw] at U;exact(Option.some.inj U).symm
  subst ev;cases F;obtain⟨o',k0,m',rr,e1,e2,e3,e4,e5⟩:=ad i as[i] (by simp[B])
  refine⟨_,o',k0,m',rfl,e2,e3,?_,?_⟩
  .simp only[e1,Option.map_some,getD_some];exact e4
  .simp only[e1,Option.map_some,getD_some];exact e5
 .have hi':i < rs.length:=by omega
  have e:rs[i]? = some rs[i]:=by simp[hi']
  rw[tL rs i _ e];simp only[e,Option.map_some,getD_some]
 .have h1:(merged [] (rs.take i)).length<=(rs.take i).length:=by
   have hg : ∀(ms ks:List (Key × Value)),(merged ks ms).length<=ks.length+ms.length:=by
    intro ms
    induction ms with
    | nil=>intro ks;simp[merged]
    | cons y ms ih =>
     intro ks;have h1:=ih (stored ks y.1 y.2);have h2:(stored ks y.1 y.2).length<=ks.length+1:=by unfold stored;split <;> simp
     show(merged (stored ks y.1 y.2) ms).length<=_
     simp only[length_cons];omega
   simpa using hg (rs.take i) []
  have h2:(rs.take i).length<=rs.length:=by simp;omega
  simp at hl
  omega
 .rw[Z,take_length] at dd
  have ac:=fc (as.map (·.2)) [];simp at hl ac
  refine⟨.ref s.heap.objs.size,_,I.laid (a:=s.heap.objs.size) (o:=.dK (fE [] (as.map (·.2)))) (t':=tk) kp (le_refl _) ⟨by omega,beq_eq_false_iff_ne.mpr (Ne.symm (ne_of_lt I.big)),_,KV.merge kv .nil,dd⟩,rfl,q _ (I.hok.fresh (le_refl _))⟩
end L2
namespace PySem
theorem iM:entryFor table "dict_itemiterator.__iter__" = some Builtin.«dict_keyiterator.__iter__» :=
 entryFor_alias (id' := "dict_keyiterator.__iter__") (by kernel_rfl) rfl (by decide+kernel) (by kernel_rfl)
theorem gH {i:Nat} {ok U:Value} (B:IsItemIter s.heap it d i n ep ok U) (h:Q (.ref it) s):wpAny (model prog w) A (pyIter (.ref it)) Q E s:=by
 have z:s.TypeIs (.ref it) "dict_itemiterator" :=⟨_,B,rfl⟩
 refine wpAny_pyIter_slot z F.slot_dict_itemiterator_iter (wpAny_call_entry F.slot_dict_itemiterator_iter z iM ?_ (F.args_dict_itemiterator_iter_1 _))
 show wpAny _ _ (ret (.ref it)) _ _ s
 exact wpAny_pure ⟨_,rfl,"dict_itemiterator",_,z,F.slot_dict_itemiterator_next.lookup,h⟩
end PySem
namespace L2
open PySem PySem.Spec PyProof.Rows
def Iti (a:Addr) (o:Obj) (kvs:List (Key × V)):It :=
  ⟨λi H=>H a=some (.frz o (.dK kvs))/\i < kvs.length,
   λi H v H'=>∃t k x,H t=none/\v = .ref t/\H'=upd H t (.tup [kV k,x])/\kvs[i]? = some (k,x),
   λi H=>H a=some (.frz o (.dK kvs))/\kvs.length<=i⟩
theorem vn {x1} {pos:Pos} (a it:Addr) (o:Obj) (kvs:List (Key × V)) (ep:Nat) (ae : ∃es,o.data = .dict es ep) :
  uW P w K (.Tuple es x1 pos) (Iti a o kvs) [it] it (λi h=>∃ok Z,IsItemIter h it a i kvs.length ep ok Z) where
 mem:=by simp
 obj:=λi h st b hb=>by
  have e:b=it:=by simpa using hb
  subst e;obtain⟨ok,Z,h⟩:=st;exact⟨_,h,λv z=>by cases z⟩
 keep:=λi h h' st k=>by
  obtain⟨ok,Z,h⟩:=st;exact⟨ok,Z,k it (by simp) _ h⟩
 item:=by
  intro X hP hw hK hc i pins s σ H E In hf st hg;subst hP hw hK;obtain⟨ha,hi⟩:=hg;obtain⟨ho,hz,hd,vs,Y,od,es,F,U,hr⟩:=(show s.heap.get? a=some o/\be X.prog X.w H s.heap a (.dK kvs) from In.hok a _ ha)
  rw[ho] at U;cases U;obtain⟨ak,ac⟩:=ae;have ad:F=ep:=by
   have:=hr.2.1
   rw[ac] at this;cases this;rfl
  subst ad;have B:=Y.length;obtain⟨k,v,ai⟩ : ∃k v,kvs[i]? = some (k,v):=⟨kvs[i].1,kvs[i].2,by simp[hi]⟩
  obtain⟨u,hu,ru⟩:=Y.get ai;obtain⟨ok,Z,st⟩:=st;have aa:IsItemIter s.heap it a i vs.length F ok Z:=by rw[<- B];exact st
  refine wpAny_pyNext_items_item (knd:=aU X.prog X.w) (v:=u) aa ⟨o,es,ho,hr⟩ hu λkey h' hk aj ht ap an=>?_
  refine⟨_,rfl,wpAny_letOwnedTupleGo_items (s:={ s with heap:=h' }) aj λh2 ao s2=>?_⟩
  have ah:it < s.heap.objs.size:=Heap.lt_size st
  have af:H s.heap.objs.size=none:=In.hok.fresh (le_refl _)
  have I2:Inv X pins σ (upd H s.heap.objs.size (.tup [kV k,v])) { s with heap:=h2 }:=In.turnedNew (t':=s.toks) (fp:=[it]) (λc oc hc q=>by
    simp only[mem_cons,not_mem_nil,or_false] at hc;exact(s2.2 c hc).trans (an c oc hc q)) hf (le_refl _)
   ⟨by show 2<=sizeLine;decide,[key,u],.cons (sC hk) (.cons ru .nil),⟨_,(s2.2 _ (ne_of_gt ah)).trans ht,rfl,_,rfl⟩⟩
  refine⟨.ref s.heap.objs.size,_,I2,rfl,⟨_,k,v,af,rfl,rfl,ai⟩,⟨key,u,by rw[B];exact ao⟩,λc hc=>?_⟩
  have e:c=it:=by simpa using hc
  subst e;rw[ag (ne_of_lt ah)];exact(hf _ (by simp)).1
 done:=by
  intro X hP hw hK hc i pins s σ H E In hf st hg;subst hP hw hK;obtain⟨ha,hi⟩:=hg;obtain⟨ho,hz,hd,vs,Y,od,es,F,U,hr⟩:=(show s.heap.get? a=some o/\be X.prog X.w H s.heap a (.dK kvs) from In.hok a _ ha)
  rw[ho] at U;cases U;obtain⟨ak,ac⟩:=ae;have ad:F=ep:=by
   have:=hr.2.1
   rw[ac] at this;cases this;rfl
  subst ad;have B:=Y.length;obtain⟨f0,f1,f2,f3,f4,f5⟩:=hf it (by simp)
  obtain⟨ok,Z,st⟩:=st;have aa:IsItemIter s.heap it a i vs.length F ok Z:=by rw[<- B];exact st
  exact wpAny_pyNext_items_end (knd:=aU X.prog X.w) (In.ok.hd hc) aa ⟨o,es,ho,hr⟩ (List.getElem?_eq_none_iff.mpr (by omega)) λh' eb=>⟨rfl,In.turned (t':=s.toks) (λb ob hb e=>eb b ob hb e) f0 f1 f3 f4 f5⟩
 self:=λ_ _ _ _ _ st h=>by
  obtain⟨ok,Z,st⟩:=st;exact gH st h
def iI (td:TE):TI:=λσ H R=>td σ H λx H1=>∃a,x = .ref a/\∃kvs,H1 a=some (.dK kvs)/\∀o,R (Iti a o kvs) (upd H1 a (.frz o (.dK kvs)))
theorem og {x1} (ho:PE X oe td) (ac:attributeBase oe "items" X.env (eval oe X.env)=eval oe X.env:=by rfl) (Z:(apos.endLine == cpos.line)=true:=by rfl) :
  PI X (.Tuple es x1 pos') (.Call (.Attribute oe "items" apos) [] [] cpos) (iI td):=by
 intro pins s σ H R I h;refine wpAny_Call_method0_late ac Z (thn (ho pins s σ H _ I h) λv B Y=>?_)
 obtain⟨x,H1,I1,r1,a,ex,kvs,hq,q⟩:=Y;subst ex;cases r1;obtain⟨hz,hd,vs,ai,od,aa,ep,ad,hr⟩:=fT I1.hok hq;obtain⟨t1,t2,_⟩:=wz I1 (.inl ⟨_,.inl hq⟩);refine⟨"dict","dict.items",PySem.F.plainAttrs_dict,PySem.F.slot_dict_items,PySem.F.type_dict_items,t1,t2,?_⟩
 refine method_meetsIn PySem.F.slot_dict_items PySem.F.entry_dict_items rfl (PySem.evalArgs_none ⟨rfl,t1,PySem.F.args_dict_items_1 _,_,meets_dict_items (aU X.prog X.w) a hd,⟨vs,od,aa,ep,ad,hr⟩,?_⟩)
 have hm:(B.heap.push { cls:=.type "dict_items",data:=.fields #[.ref a] }).DictAt (aU X.prog X.w) a vs ep:=⟨od,aa,Heap.get?_push_of_some _ ad,hr⟩
 refine wpAny_pyIter_items (knd:=aU X.prog X.w) (s:={ B with heap:=B.heap.push { cls:=.type "dict_items",data:=.fields #[.ref a] } }) (d:=a) (kvs:=vs) (ep:=ep) ⟨_,Heap.get?_push_size _ rfl,rfl,rfl⟩ hm ?_
 have hn : ∀ob u,X.H₀ a≠some (.frz ob u):=λob u e=>by have:=I1.base.frzs a ob u e;rw[hq] at this;cases this
 have I2:Inv X pins σ H1 { B with heap:=(B.heap.push { cls:=.type "dict_items",data:=.fields #[.ref a] }).push { cls:=.type "dict_itemiterator",data:=.fields #[.none,.bool false,.ref a,.int 0 0,.int vs.length 0,.int ep 0,.none,.none] } }:=I1.kept (t':=B.toks) λb o e=>Heap.get?_push_of_some _ (Heap.get?_push_of_some _ e)
 have ah:=I2.hok a _ hq;have I3:=I2.retag (o':=.frz od (.dK kvs)) hq (by intro y z;cases z) (by intro y z;cases z) hn (by intro y z;cases z) ⟨Heap.get?_push_of_some _ (Heap.get?_push_of_some _ ad),ah⟩
 have af:=ai.length;have hsz:(B.heap.push { cls:=.type "dict_items",data:=.fields #[.ref a] }).objs.size=B.heap.objs.size+1:=Heap.size_push ..
 refine⟨_,[(B.heap.push { cls:=.type "dict_items",data:=.fields #[.ref a] }).objs.size],_,_,_,rfl,I3,vn a _ od kvs ep ⟨aa,hr.2.1⟩,⟨.none,.none,by rw[af];exact Heap.get?_push_size _ rfl⟩,λb hb=>?_,q od⟩
 have e:b=(B.heap.push { cls:=.type "dict_items",data:=.fields #[.ref a] }).objs.size:=by simpa using hb
 subst e;have ae:B.heap.objs.size<=(B.heap.push { cls:=.type "dict_items",data:=.fields #[.ref a] }).objs.size:=by rw[hsz];exact le_succ _
 have U:H1 (B.heap.push { cls:=.type "dict_items",data:=.fields #[.ref a] }).objs.size=none:=I1.hok.fresh ae
 obtain⟨f0,f1,f2,f3,f4,f5⟩:=I1.fpOk ae U;exact⟨by rw[ag (λz=>by rw[z,hq] at U;cases U)];exact U,f1,f2,f3,f4,f5⟩
theorem sv {o:Obj} {g:TG} {Q:VK} {D:Addr} (z:Nat->List V->Hp->Prop) (h0:z 0 [] (upd H1 D (.lst []))) (hl : ∀i ys H,z i ys H->H a=some (.frz o (.dK kvs)))
  (hs : ∀(i:Nat) (k:Key) (x:V) (ys:List V) (H:Hp) (t:Addr),kvs[i]? = some (k,x)->z i ys H->H t=none->g (.ref t) σ0 (upd H t (.tup [kV k,x])) λB H3=>tc B H3 λc Z=>if c=true then te B Z λv H5=>H5 D=some (.lst ys)/\ys.length < sizeLine/\z (i+1) (ys++[v]) (upd H5 D (.lst (ys++[v]))) else z (i+1) ys Z)
  (hd : ∀ys H,z kvs.length ys H->Q (.ref D) H):lm (Iti a o kvs) σ0 g tc te Q H1 D:=by
 refine⟨λi m ys H=>z i ys H/\i<=kvs.length/\m=kvs.length - i,⟨_,h0,zero_le _,rfl⟩,?_⟩
 rintro i m ys H ⟨U,hi,rfl⟩
 have sa:=hl i ys H U
 by_cases Y:i=kvs.length
 .left
  subst Y;exact⟨⟨sa,le_refl _⟩,hd ys H U⟩
 .right
  have h1:i < kvs.length:=by omega
  refine⟨⟨sa,h1⟩,λF H'=>z (i+1) F H',λF H' h=>⟨_,by omega,h,by omega,rfl⟩,?_⟩
  rintro v H' ⟨t,k,x,ht,rfl,rfl,e1⟩
  exact hs i k x ys H t e1 U ht
end L2
namespace PySem
open Sem (wp)
open AutoSeq1 (wpAny_loadPart')
theorem oU {Q:List Value->Shared->Prop} {r:Addr} {a b c:Int} {t u v:Tok} (hh:A.handled=none) (hr:IsRange s.heap r a b c t u v) (Y:Builtin.Range.small a b c=true)
  (hn:Builtin.Range.rangeSize a b c=n) (aa:n<=2 ^ 24)
  (hQ : ∀h' tk (acc:Array Value),(∀b o,s.heap.get? b=some o->h'.get? b=some o)->s.heap.objs.size < h'.objs.size->ItemsOf (λi v=>∃t,v = .int (a+i * c) t) acc n->Q acc.toList { s with heap:=h',toks:=tk }) :
  wpAny (model prog w) A (collect (.ref r)) Q E s:=by
 unfold collect;refine wpAny_bind (wpAny_runValue (codeAny_builtin F.entry_proto_collect ?_))
 rw[Around.under_plainId F.plain_proto_collect _]
 show wpAny _ A.in1 (newList [] >>= λl=>again (.builtin "list.__iadd__" ⟨[l,.ref r],[]⟩)) _ _ s
 refine wpAny_bind (wpAny_newObj_type ?_)
 refine wpAny_pure ⟨plainId_quiet F.plain_list_iadd _,codeAny_builtin F.entry_list_iadd ?_⟩
 rw[Around.under_plainId F.plain_list_iadd _]
 show wpAny _ A.in1 (Builtin.List.listExtendWith (.ref s.heap.objs.size) (.ref r) (.ref s.heap.objs.size)) _ _ _
 have hS:(s.heap.push { cls:=.type "list",data:=.seq ([]:List Value).toArray }).get? s.heap.objs.size=some { cls:=.type "list",data:=.seq #[] 0 }:=Heap.get?_push_size _ rfl
 have Z : ∀(s':Shared),(∃h' tk z c',s'={ s with heap:=h',toks:=tk }/\(∀b o,s.heap.get? b=some o->h'.get? b=some o)/\h'.get? s.heap.objs.size=some { cls:=.type "list",dict:=none,data:=.seq z c',slots := #[] }/\ItemsOf (λi v=>∃t,v = .int (a+i * c) t) z n) ->
   wpAny (model prog w) A (match Value.ref s.heap.objs.size with
   | Value.ref a=>do
    match (<- load a).data with
     | Data.seq xs _=>pure xs.toList
     | _=>unsupported "internal:collect"
   | _=>unsupported "internal:collect") Q E s':=by
  rintro s' ⟨h',tk,z,c',rfl,hk,U,B⟩
  show wpAny _ A (load s.heap.objs.size >>= _) _ _ _
  refine wpAny_bind (wpAny_load U ?_)
  exact wpAny_pure (hQ h' tk z hk (Heap.lt_size U) B)
 refine wpAny_mono (wpAny_extend_range (A:=A) (R:=λx s'=>x = .ok (.ret (.ref s.heap.objs.size))/\∃h' tk z c',s'={ s with heap:=h',toks:=tk }/\(∀b o,s.heap.get? b=some o->h'.get? b=some o)/\h'.get? s.heap.objs.size=some { cls:=.type "list",dict:=none,data:=.seq z c',slots := #[] }/\ItemsOf (λi v=>∃t,v = .int (a+i * c) t) z n)
  (s:={ s with heap:=s.heap.push { cls:=.type "list",data:=.seq ([]:List Value).toArray } }) hh (Heap.get?_push_of_some _ hr) Y hn aa _ _ 0 hS λh' tk z c' hk U B=>⟨rfl,h',tk,z,c',rfl,λb o e=>hk b o (ne_of_lt (Heap.lt_size e)) (Heap.get?_push_of_some _ e),U,B⟩) (λac s' h=>?_) (λe s' h=>?_)
 .cases ac with
  | done f =>
   obtain⟨e,q⟩:=h;cases e;exact Z _ q
  | again c'=>exact⟨h.1,codeAny_mono h.2 λr ad hr=>by obtain⟨rfl,q⟩:=hr;exact Z _ q⟩
 .exact absurd h.1 (by simp)
end PySem
namespace L2
open PySem PySem.Spec PyProof.Rows
theorem sM (h:ItemsOf (λi v=>∃t,v=Value.int (0+i * 1) t) acc n):aR (jG 0 n) acc.toList:=by
 have key : ∀(k:Nat) (us:List Value),(∀(j:Nat) v,us[j]? = some v->∃t,v=Value.int ((k:Int)+j) t)->aR ((range' k us.length).map λi:Nat=>V.int (0+(i:Int))) us:=by
  intro k us
  induction us generalizing k with
  | nil=>intro _;exact .nil
  | cons u us B =>
   intro z;rw[length_cons,List.range'_succ,map_cons];refine .cons ?_ (B (k+1) λj v e=>?_)
   .obtain⟨t,rfl⟩:=z 0 u rfl
    exact⟨t,by simp⟩
   .obtain⟨t,rfl⟩:=z (j+1) v (by simpa using e)
    exact⟨t,by congr 1;push_cast;omega⟩
 have:=key 0 acc.toList λj v e=>by
  obtain⟨t,rfl⟩:=h.2 j v (by simpa using e)
  exact⟨t,by simp⟩
 rw[length_toList,h.1,<- List.range_eq_range'] at this;exact this
def zt (z:Bool):R2:=λx y H Q=>∃i,x = .bl i/\∃j,y = .bl j/\Q (.bl (xor z (decide (i=j)))) H
theorem BB:OpR X (compareOp .Is) (zt false):=by
 intro pins s σ H x y v u Q I z B h;obtain⟨i,rfl,j,rfl,q⟩:=h;cases z;cases B;cases i <;> cases j <;> exact wpAny_pure (bf I q rfl)
theorem zB:OpR X (compareOp .IsNot) (zt true):=by
 intro pins s σ H x y v u Q I z B h;obtain⟨i,rfl,j,rfl,q⟩:=h;cases z;cases B;cases i <;> cases j <;> exact wpAny_pure (bf I q rfl)
end L2
namespace PySem.W
open PySem PySem.Calls PyProof.Rows
def KasT.Tru {α:Type} (n:Nat) (lt:Nat->Nat->Bool) (P:α->Prop):KasT α->Prop
 | .ret a=>P a
 | .ask i j k=>i < n/\j < n/\(k (lt i j)).Tru n lt P
theorem KasT.Tru.bind {α β:Type} {n:Nat} {lt:Nat->Nat->Bool} {P:α->Prop} {R:β->Prop} {f:α->KasT β} : ∀{t:KasT α},t.Tru n lt P->(∀a,P a->(f a).Tru n lt R)->(t.bind f).Tru n lt R
 | .ret a,h,hf=>hf a h
 | .ask i j k,h,hf=>⟨h.1,h.2.1,KasT.Tru.bind h.2.2 hf⟩
theorem KasT.Tru.wp {α:Type} {n:Nat} {lt:Nat->Nat->Bool} {P:α->Prop} {Q:α->Shared->Prop} {s:Shared} {cmp:Nat->Nat->(Bool->Shared->Prop)->Shared->Prop}
  (B : ∀i j C,i < n->j < n->C (lt i j) s->cmp i j C s) (z : ∀a,P a->Q a s) : ∀{t:KasT α},t.Tru n lt P->t.kasWp cmp Q s
 | .ret a,h=>z a h
 | .ask i j k,h=>B i j _ h.1 h.2.1 (KasT.Tru.wp B z h.2.2)
structure Ord (lt:Nat->Nat->Bool):Prop where
 asym : ∀{a b},lt a b=true->lt b a=false
 neg : ∀{a b c},lt b a=false->lt c b=false->lt c a=false
theorem Ord.irr {lt:Nat->Nat->Bool} (O:Ord lt) (a:Nat):lt a a=false:=by
 cases h:lt a a with
 | false=>rfl
 | true=>exact absurd (h.symm.trans (O.asym h)) (by decide)
def Srt (lt:Nat->Nat->Bool) (p:Array Nat) (m:Nat):Prop:=∀i j,i < j->j < m->lt (p.getD j 0) (p.getD i 0)=false
def Dsc (lt:Nat->Nat->Bool) (p:Array Nat) (m:Nat):Prop:=∀i j,i < j->j < m->lt (p.getD i 0) (p.getD j 0)=false
def Evn (lt:Nat->Nat->Bool) (p:Array Nat) (l m:Nat):Prop:=∀i j,l<=i->i < m->l<=j->j < m->lt (p.getD i 0) (p.getD j 0)=false
theorem fk {i:Nat} (z:j<=p.size) (k:Nat):(kas_rev p i j).getD k 0=if i<=k/\k < j then p.getD (i+j - 1 - k) 0 else p.getD k 0:=by
 have e:=getElem?_mirror_all (xs:=p) (i:=i) z k;unfold kas_rev;rw[getD_eq_getD_getElem?,e,getD_eq_getD_getElem?,getD_eq_getD_getElem?]
 split <;> rfl
theorem AQ {z d:Nat} (B:z < p.size) (F:d<=z) (k:Nat):(bubble p z d).getD k 0=if k=z - d then p.getD z 0 else if z - d < k/\k<=z then p.getD (k - 1) 0 else p.getD k 0:=by
 have e:=getElem?_bubble B d F k;rw[getD_eq_getD_getElem?,e,getD_eq_getD_getElem?,getD_eq_getD_getElem?,getD_eq_getD_getElem?]
 split
 .rfl
 .split <;> rfl
theorem bg.size {n:Nat} {p:Array Nat} (h:bg n p):p.size=n:=by
 have:=h.length_eq
 simpa using this
section
variable {lt:Nat->Nat->Bool} (hn:0 < n) (O:Ord lt)
include hn O
theorem gQ {p:Array Nat} (h:bg n p) : ∀(f m:Nat),1<=m->Srt lt p m->(kas_asc p f m).Tru n lt λr=>Srt lt p r/\m<=r/\r<=m+f/\(r=m+f\/lt (p.getD r 0) (p.getD (r - 1) 0)=true)
 | 0,m,h1,hs=>⟨hs,le_refl _,le_refl _,.inl rfl⟩
 | f + 1,m,h1,hs=>by
  refine⟨h.lt hn _,h.lt hn _,?_⟩
  cases c:lt (p.getD m 0) (p.getD (m - 1) 0) with
  | true =>
   simp only[if_true];exact⟨hs,le_refl _,by omega,.inr c⟩
  | false =>
   simp only[Bool.false_eq_true,if_false];have F:Srt lt p (m+1):=λi j Y Z=>by
    by_cases B:j < m
    .exact hs i j Y B
    .have ej:j=m:=by omega
     subst ej
     by_cases hi:i=j - 1
     .rw[hi];exact c
     .exact O.neg (hs i (j - 1) (by omega) (by omega)) c
   have U:=gQ h f (m+1) (by omega) F
   have mono : ∀{t:KasT Nat} {P R:Nat->Prop},t.Tru n lt P->(∀a,P a->R a)->t.Tru n lt R:=by
    intro t
    induction t with
    | ret a=>intro P R x y;exact y a x
    | ask i j k U=>intro P R x y;exact⟨x.1,x.2.1,U _ x.2.2 y⟩
   exact mono U λr z=>by obtain⟨a,b,c,d⟩:=z;exact(⟨a,by omega,by omega,by rcases d with d | d;exact .inl (by omega);exact .inr d⟩)
theorem xz {l m:Nat} (h:bg n p) (Z:m<=n) (F:Dsc lt p m) (U:Evn lt p l m):Dsc lt (kas_rev p l m) m/\∀k,m<=k->(kas_rev p l m).getD k 0=p.getD k 0:=by
 have hz:=h.size;refine⟨λi j z B=>?_,λk Y=>by rw[fk (by omega),if_neg (by omega)]⟩
 rw[fk (by omega),fk (by omega)]
 by_cases a:l<=i/\i < m
 .rw[if_pos a]
  have b:l<=j/\j < m:=⟨by omega,B⟩
  rw[if_pos b];exact U _ _ (by omega) (by omega) (by omega) (by omega)
 .rw[if_neg a]
  by_cases b:l<=j/\j < m
  .rw[if_pos b]
   exact F _ _ (by omega) (by omega)
  .rw[if_neg b]
   exact F _ _ z B
theorem nT {m:Nat} (F:Dsc lt p m) (hl : ∀i,i < m->lt (p.getD i 0) (p.getD m 0)=false):Dsc lt p (m+1):=λi j z U=>by
 by_cases B:j < m
 .exact F i j z B
 .have:j=m:=by omega
  subst this;exact hl i z
theorem oD {m:Nat} (h1:1<=m) (z:Dsc lt p m) (c:lt (p.getD (m - 1) 0) (p.getD m 0)=false):Dsc lt p (m+1):=nT hn O z λi hi=>by
 by_cases e:i=m - 1
 .rw[e];exact c
 .exact O.neg c (z i (m - 1) (by omega) (by omega))
theorem eC : ∀(f:Nat) (p:Array Nat) (m q:Nat),bg n p->q+1<=m->m+f<=n->Dsc lt p m->Evn lt p (m - (q+1)) m ->
  (kas_desc f p m q).Tru n lt λr=>bg n r.1/\r.2.2+1<=r.2.1/\r.2.1<=n/\Dsc lt r.1 r.2.1/\Evn lt r.1 (r.2.1 - (r.2.2+1)) r.2.1
 | 0,p,m,q,h,h1,h2,hd,he=>⟨h,h1,by simpa using h2,hd,he⟩
 | f + 1,p,m,q,h,h1,h2,hd,he=>by
  refine⟨h.lt hn _,h.lt hn _,?_⟩
  have one : ∀B:Array Nat,Evn lt B (m+1 - (0+1)) (m+1):=λB i j a b c d=>by
   have e1:i=m:=by omega
   have e2:j=m:=by omega
   rw[e1,e2];exact O.irr _
  cases c:lt (p.getD m 0) (p.getD (m - 1) 0) with
  | true =>
   simp only[if_true]
   split
   .obtain⟨d1,k1⟩:=xz hn O h (by omega) hd he
    refine eC f _ _ _ (h.rev _ _) (by omega) (by omega) (oD hn O (by omega) d1 ?_) (one _)
    rw[k1 m (le_refl _)];rw[fk (by rw[h.size];omega),if_pos (by omega)]
    have e1:=he (m - 1) (m - (q+1)+m - 1 - (m - 1)) (by omega) (by omega) (by omega) (by omega)
    exact O.neg (O.asym c) (he _ (m - 1) (by omega) (by omega) (by omega) (by omega))
   .exact eC f _ _ _ h (by omega) (by omega) (oD hn O (by omega) hd (O.asym c)) (one _)
  | false =>
   simp only[Bool.false_eq_true,if_false];refine⟨h.lt hn _,h.lt hn _,?_⟩
   cases d:lt (p.getD (m - 1) 0) (p.getD m 0) with
   | true=>simp only[if_true];exact⟨h,h1,by show m<=n;omega,hd,he⟩
   | false =>
    simp only[Bool.false_eq_true,if_false];refine eC f _ _ _ h (by omega) (by omega) (oD hn O (by omega) hd d) λi j a b F U=>?_
    by_cases hi:i < m
    .by_cases z:j < m
     .exact he i j (by omega) hi (by omega) z
     .have ej:j=m:=by omega
      subst ej;exact O.neg d (he i (j - 1) (by omega) hi (by omega) (by omega))
    .have ei:i=m:=by omega
     subst ei
     by_cases z:j < i
     .exact O.neg (he (i - 1) j (by omega) (by omega) (by omega) z) c
     .have ej:j=i:=by omega
      rw[ej];exact O.irr _
theorem iU {m:Nat} (h:bg n p) (h1:1<=m) (h2:m<=n) (F:Dsc lt p m):(kas_tail3 m n p).Tru n lt λr=>bg n r.2/\Srt lt r.2 r.1/\r.1<=n/\1<=r.1:=by
 refine(gQ hn O (h.rev 0 m) _ _ h1 λi j B U=>?_).bind λr z=>by obtain⟨a,b,c,_⟩:=z;exact(⟨h.rev 0 m,a,by omega,by show 1<=r;omega⟩)
 rw[fk (by rw[h.size];omega),fk (by rw[h.size];omega),if_pos (by omega),if_pos (by omega)]
 exact F _ _ (by omega) (by omega)
theorem fM {m:Nat} (h:bg n p) (h1:1<=m) (h2:m < n) (z:Dsc lt p (m+1)):(kas_descPart m n p).Tru n lt λr=>bg n r.2/\Srt lt r.2 r.1/\r.1<=n/\1<=r.1:=by
 refine(eC hn O _ p _ _ h (by omega) (by omega) z λi j a b c d=>?_).bind λr ⟨a,b,c,d,e⟩=>?_
 .have e1:i=m:=by omega
  have e2:j=m:=by omega
  rw[e1,e2];exact O.irr _
 .split
  .exact iU hn O (bg.rev a _ _) (by omega) c (xz hn O a c d e).1
  .exact iU hn O a (by omega) c d
theorem pB (h:bg n p):(kas_count n p).Tru n lt λr=>bg n r.2/\Srt lt r.2 r.1/\r.1<=n/\1<=r.1:=by
  refine(gQ hn O h _ _ (le_refl _) λi j a b=>by omega).bind λm z=>?_
  obtain⟨a,b,c,d⟩:=z
  split
  . exact⟨h,a,by show m<=n;omega,b⟩
  . rename_i B
    have B:m≠n:=λe=>B (by simp[e])
    have F:lt (p.getD m 0) (p.getD (m - 1) 0)=true:=by
      rcases d with d | d
      . omega
      . exact d
    split
    . refine⟨h.lt hn _,h.lt hn _,?_⟩
      cases e:lt (p.getD 0 0) (p.getD (m - 1) 0) with
      | true=>simp only[if_true];exact⟨h,a,by show m<=n;omega,b⟩
      | false =>
        simp only[Bool.false_eq_true,if_false];have U : ∀i j,i < m->j < m->lt (p.getD i 0) (p.getD j 0)=false:=λi j hi Z=>by
          have Y:lt (p.getD (m - 1) 0) (p.getD j 0)=false:=by
            by_cases q:j=m - 1
            . rw[q];exact O.irr _
            . exact a j (m - 1) (by omega) (by omega)
          have u2:lt (p.getD i 0) (p.getD 0 0)=false:=by
            by_cases q:i=0
            . rw[q];exact O.irr _
            . exact a 0 i (by omega) hi
          exact O.neg (O.neg Y e) u2
        refine fM hn O (h.rev _ _) b (by omega) (nT hn O (λi j aa Z=>?_) λi hi=>?_)
        . rw[fk (by rw[h.size];omega),fk (by rw[h.size];omega),if_pos (by omega),if_pos (by omega)]
          exact U _ _ (by omega) (by omega)
        . rw[fk (by rw[h.size];omega),fk (by rw[h.size];omega),if_pos (by omega),if_neg (by omega)]
          exact O.neg (O.asym F) (U _ (m - 1) (by omega) (by omega))
    . have e1:m=1:=by omega
      subst e1;refine fM hn O h b (by omega) (nT hn O (λi j a b=>by omega) λi hi=>?_)
      have:i=1 - 1:=by omega
      rw[this];exact O.asym F
theorem fF {p:Array Nat} {k:Nat} (h:bg n p) (F:Srt lt p k) : ∀(f l r:Nat),r - l<=f->l<=r->r<=k->(∀i,i < l->lt (p.getD k 0) (p.getD i 0)=false)->(∀i,r<=i->i < k->lt (p.getD k 0) (p.getD i 0)=true) ->
  (kas_place p k f l r).Tru n lt λa=>a<=k/\(∀i,i < a->lt (p.getD k 0) (p.getD i 0)=false)/\∀i,a<=i->i < k->lt (p.getD k 0) (p.getD i 0)=true
 | 0,l,r,hf,hlr,hrk,h1,h2=>⟨by show l<=k;omega,h1,λi hi B=>h2 i (by omega) B⟩
 | f + 1,l,r,hf,hlr,hrk,h1,h2=>by
  unfold kas_place
  split
  .exact⟨by show l<=k;omega,h1,λi hi B=>h2 i (by omega) B⟩
  .refine⟨h.lt hn _,h.lt hn _,?_⟩
   cases c:lt (p.getD k 0) (p.getD ((l+r) / 2) 0) with
   | true =>
    simp only[if_true];refine fF h F f _ _ (by omega) (by omega) (by omega) h1 λi hi B=>?_
    by_cases e:i=(l+r) / 2
    .rw[e];exact c
    .cases z:lt (p.getD k 0) (p.getD i 0) with
     | true=>rfl
     | false=>exact absurd ((O.neg (F _ i (show(l+r) / 2 < i by omega) B) z).symm.trans c) (by decide)
   | false =>
    simp only[Bool.false_eq_true,if_false];refine fF h F f _ _ (by omega) (by omega) (by omega) (λi hi=>?_) h2
    by_cases e:i=(l+r) / 2
    .rw[e];exact c
    .exact O.neg (F i _ (show i < (l+r) / 2 by omega) (by omega)) c
theorem lg : ∀(f:Nat) (p:Array Nat) (k:Nat),bg n p->k+f=n->Srt lt p k->(kas_bin f p k).Tru n lt λr=>bg n r/\Srt lt r n
 | 0,p,k,h,e,hs=>⟨h,(show k=n by omega) ▸ hs⟩
 | f + 1,p,k,h,e,hs=>(fF hn O h hs k 0 k (by omega) (by omega) (le_refl _) (λi hi=>by omega) (λi a b=>by omega)).bind λl ⟨a,b,c⟩=>by
  refine lg f _ _ (h.bub _ _) (by omega) λi j Z hj=>?_
  have hz:=h.size;rw[AQ (by omega) (by omega),AQ (by omega) (by omega)]
  have Y:k - (k - l)=l:=by omega
  rw[Y]
  by_cases U:j=l
  .rw[if_pos U,if_neg (by omega),if_neg (by omega)]
   exact b i (by omega)
  .rw[if_neg U]
   by_cases B:l < j/\j<=k
   .rw[if_pos B]
    by_cases F:i=l
    .rw[if_pos F]
     exact O.asym (c (j - 1) (by omega) (by omega))
    .rw[if_neg F]
     by_cases z:l < i/\i<=k
     .rw[if_pos z]
      exact hs _ _ (by omega) (by omega)
     .rw[if_neg z]
      by_cases q:i=j - 1
      .omega
      .exact hs _ _ (by omega) (by omega)
   .rw[if_neg B,if_neg (by omega),if_neg (by omega)]
    exact hs _ _ Z (by omega)
theorem rT:(kas_sort n).Tru n lt λr=>bg n r/\Srt lt r n:=by
 refine(pB hn O (p:=List.toArray (range n)) (by show(range n).toArray.toList.Perm _;simp)).bind λr ⟨a,b,c,d⟩=>?_
 have e:max r.1 1=r.1:=by omega
 rw[e]
 split
 .exact lg hn O _ _ _ a (by omega) b
 .have:r.1=n:=by omega
  rw[this] at b;exact⟨a,b⟩
end
inductive Ky where
 | s (x:Str) | i (n:Int) | r (l:List Int)
def Ky.tag:Ky->Nat | .s _=>0 | .i _=>1 | .r _=>2
def Ky.lt:Ky->Ky->Bool
 | .s x,.s y=>decide (x.cps.toList < y.cps.toList)
 | .i a,.i b=>decide (a < b)
 | .r l,.r m=>decide (l < m)
 | .s _,.i _=>true
 | .s _,.r _=>true
 | .i _,.r _=>true
 | _,_=>false
def Ky.le (a b:Ky):Prop:=b.lt a=false
theorem Ky.asym : ∀{a b:Ky},a.lt b=true->b.lt a=false
 | .s x,.s y,h=>by simp only[Ky.lt,decide_eq_true_eq,decide_eq_false_iff_not] at h ⊢;exact λz=>List.lt_irrefl _ (List.lt_trans h z)
 | .i x,.i y,h=>by simp only[Ky.lt,decide_eq_true_eq,decide_eq_false_iff_not] at h ⊢;omega
 | .r x,.r y,h=>by simp only[Ky.lt,decide_eq_true_eq,decide_eq_false_iff_not] at h ⊢;exact λz=>List.lt_irrefl _ (List.lt_trans h z)
 | .s _,.i _,_=>rfl
 | .s _,.r _,_=>rfl
 | .i _,.r _,_=>rfl
 | .i _,.s _,h=>by cases h
 | .r _,.s _,h=>by cases h
 | .r _,.i _,h=>by cases h
theorem Ky.le_trans : ∀{a b c:Ky},a.le b->b.le c->a.le c
 | .s x,.s y,.s z,h,g=>by simp only[Ky.le,Ky.lt,decide_eq_false_iff_not] at h g ⊢;exact List.le_trans (show x.cps.toList<=y.cps.toList from h) (show y.cps.toList<=z.cps.toList from g)
 | .i x,.i y,.i z,h,g=>by simp only[Ky.le,Ky.lt,decide_eq_false_iff_not] at h g ⊢;omega
 | .r x,.r y,.r z,h,g=>by simp only[Ky.le,Ky.lt,decide_eq_false_iff_not] at h g ⊢;exact List.le_trans (show x<=y from h) (show y<=z from g)
 | .s _,_,.i _,_,_=>rfl
 | .s _,_,.r _,_,_=>rfl
 | .i _,_,.r _,_,_=>rfl
 | .i _,.s _,_,h,_=>by cases h
 | .r _,.s _,_,h,_=>by cases h
 | .r _,.i _,_,h,_=>by cases h
 | _,.i _,.s _,_,g=>by cases g
 | _,.r _,.s _,_,g=>by cases g
 | _,.r _,.i _,_,g=>by cases g
theorem Ky.le_antisymm : ∀{a b:Ky},a.le b->b.le a->a=b
 | .s x,.s y,h,g=>by
  simp only[Ky.le,Ky.lt,decide_eq_false_iff_not] at h g;have:=List.le_antisymm (show x.cps.toList<=y.cps.toList from h) (show y.cps.toList<=x.cps.toList from g)
  cases x;cases y
  congr 1
  congr 1
  exact toList_inj.mp this
 | .i x,.i y,h,g=>by simp only[Ky.le,Ky.lt,decide_eq_false_iff_not] at h g;congr 1;omega
 | .r x,.r y,h,g=>by simp only[Ky.le,Ky.lt,decide_eq_false_iff_not] at h g;congr 1;exact List.le_antisymm (show x<=y from h) (show y<=x from g)
 | .s _,.i _,_,g=>by cases g
 | .s _,.r _,_,g=>by cases g
 | .i _,.r _,_,g=>by cases g
 | .i _,.s _,h,_=>by cases h
 | .r _,.s _,h,_=>by cases h
 | .r _,.i _,h,_=>by cases h
theorem Ky.le_of_not {a b:Ky} (h : ¬ a.le b):b.le a:=by
 unfold Ky.le at *;cases e:b.lt a with
 | false=>exact absurd e h
 | true=>exact Ky.asym e
def ltK (ks:List Ky) (i j:Nat):Bool:=(ks.getD i (.i 0)).lt (ks.getD j (.i 0))
theorem CG (ks:List Ky):Ord (ltK ks):=⟨λh=>Ky.asym h,λh g=>Ky.le_trans h g⟩
def VKy (h:Heap) (v:Value):Ky->Prop
 | .s x=>∃t,v = .str x t
 | .i n=>∃t,v = .int n t
 | .r l=>∃a its,v = .ref a/\IsTup h a its.toArray/\IntsAre its l
theorem VKy.keep : ∀{k:Ky},VKy h v k->(∀b o,h.get? b=some o->h'.get? b=some o)->VKy h' v k
 | .s _,x,_=>x
 | .i _,x,_=>x
 | .r _,⟨a,its,e,⟨o,q,c⟩,z⟩,k=>⟨a,its,e,⟨o,k _ _ q,c⟩,z⟩
def kc:List Int->List Int->Bool->Bool
 | a :: l,b :: m,f=>if a == b then kc l m f else decide (a < b)
 | _,_,f=>f
theorem qK : ∀(l m:List Int),kc l m (decide (l.length < m.length))=decide (l < m)
 | [],[]=>by simp[kc]
 | [],b :: m=>by simp[kc]
 | a :: l,[]=>by simp[kc]
 | a :: l,b :: m=>by
  have z:=qK l m;unfold kc;have e:decide ((a :: l).length < (b :: m).length)=decide (l.length < m.length):=by simp
  rw[e]
  by_cases h:a=b
  .subst h
   rw[if_pos (by simp),z]
   exact decide_eq_decide.mpr (by rw[cons_lt_cons_iff];simp)
  .rw[if_neg (by simpa using h)]
   exact decide_eq_decide.mpr (by rw[cons_lt_cons_iff];simp[h])
theorem uE {z:Bool} {Q:Bool->Shared->Prop} : ∀{us vs:List Value} {l m:List Int} (i:Nat),IntsAre us l->IntsAre vs m->Q (kc l m z) s->KatLex prog w A true z Q (us.zip vs) i s
 | _,_,_,_,i,.nil,_,h=>kat_nil (by simpa [kc] using h)
 | _,_,_,_,i,.cons _ _ _,.nil,h=>kat_nil (by simpa [kc] using h)
 | _,_,_,_,i,.cons a t (vs:=us) (ns:=l) hu,.cons b t' (vs:=vs) (ns:=m) hv,h=>by
  unfold kc at h;refine kat_cons (wpAny_eqBool_int ?_)
  cases e:a == b with
  | true =>
   rw[e] at h;exact kat_yes (uE (i+1) hu hv (by simpa using h))
  | false =>
   rw[e] at h;have h':Q (decide (a < b)) s:=by simpa using h
   refine kat_no ?_
   cases i with
   | zero=>exact oneLt_int h'
   | succ i=>exact kat_one _ _ (lt_int h')
def su (t:Nat):SortKind:=if t=2 then tuples' true else oneType'
theorem GJ {x y:Value} {a b:Ky} {Q:Bool->Shared->Prop} (Y:VKy s.heap x a) (Z:VKy s.heap y b) (U:a.tag=b.tag) (h:Q (a.lt b) s):wpAny (model prog w) A (keyLt' (su a.tag) x y) Q E s:=by
 cases a with
 | s p =>
  cases b <;> first | cases U | skip
  obtain⟨t,rfl⟩:=Y;obtain⟨t',rfl⟩:=Z
  show wpAny _ _ (keyLt' oneType' _ _) _ _ _
  rw[keyLt'_oneType];exact oneLt_str h
 | i p =>
  cases b <;> first | cases U | skip
  obtain⟨t,rfl⟩:=Y;obtain⟨t',rfl⟩:=Z
  show wpAny _ _ (keyLt' oneType' _ _) _ _ _
  rw[keyLt'_oneType];exact oneLt_int h
 | r p =>
  cases b <;> first | cases U | skip
  obtain⟨c,us,rfl,⟨o,e,ec,n,ed⟩,hu⟩:=Y;obtain⟨c',F,rfl,⟨o',e',aa,n',B⟩,z⟩:=Z
  show wpAny _ _ (keyLt' (tuples' true) _ _) _ _ _
  refine kat_lt e ed e' B (uE 0 hu z ?_)
  have e1:us.toArray.size=p.length:=by rw[size_toArray,hu.length]
  have e2:F.toArray.size=_:=(by rw[size_toArray,z.length])
  rw[e1,e2,qK];exact h
theorem wG {h:Heap} : ∀{vs:List Value} {ks:List Ky},PySem.Paired (VKy h) vs ks->(∀k∈ks,k.tag=0/\k≠.r [])->∃z,StrsAre vs z
 | _,_,.nil,_=>⟨[],.nil⟩
 | _,_,.cons (a:=v) (b:=k) r t,hk=>by
  obtain⟨z,e⟩:=wG t λk h=>hk k (mem_cons_of_mem _ h)
  have:=(hk k mem_cons_self).1
  cases k with
  | s x=>obtain⟨t,rfl⟩:=r;exact⟨x :: z,.cons x t e⟩
  | i x=>cases this
  | r x=>cases this
theorem wI {h:Heap} : ∀{vs:List Value} {ks:List Ky},PySem.Paired (VKy h) vs ks->(∀k∈ks,k.tag=1/\k≠.r [])->∃z,IntsAre vs z
 | _,_,.nil,_=>⟨[],.nil⟩
 | _,_,.cons (a:=v) (b:=k) r t,hk=>by
  obtain⟨z,e⟩:=wI t λk h=>hk k (mem_cons_of_mem _ h)
  have:=(hk k mem_cons_self).1
  cases k with
  | i x=>obtain⟨t,rfl⟩:=r;exact⟨x :: z,.cons x t e⟩
  | s x=>cases this
  | r x=>cases this
theorem xK {h:Heap} : ∀{vs:List Value} {ks:List Ky},PySem.Paired (VKy h) vs ks->(∀k∈ks,k.tag=2/\k≠.r [])->∃fs,fs.length=vs.length/\KatTups h vs fs/\∀f∈fs,∃n t,f=Value.int n t
 | _,_,.nil,_=>⟨[],rfl,.nil,λ_ h=>by simp at h⟩
 | _,_,.cons (a:=v) (b:=k) r t,hk=>by
  obtain⟨fs,Y,e,F⟩:=xK t λk h=>hk k (mem_cons_of_mem _ h)
  have:=hk k mem_cons_self
  cases k with
  | i x=>cases this.1
  | s x=>cases this.1
  | r x =>
   obtain⟨a,its,rfl,⟨o,e1,B,n,U⟩,z⟩:=r;cases z with
   | nil=>exact absurd rfl this.2
   | cons m t z =>
    refine⟨.int m t :: fs,by simp[Y],.cons e1 B U (by simp) e,λf h=>?_⟩
    rcases mem_cons.mp h with q | q
    .exact⟨m,t,q⟩
    .exact F f q
theorem wY {vs:List Value} {ks:List Ky} {t:Nat} {Q:SortKind->Shared->Prop} (z:PySem.Paired (VKy s.heap) vs ks) (B : ∀k∈ks,k.tag=t/\k≠.r []) (h2:2<=vs.length) (h:Q (su t) s):wpAny (model prog w) A (keyKind' vs.toArray) Q E s:=by
 have hl:vs.length=ks.length:=PySem.Paired.length z
 obtain⟨U,F,rest,rfl⟩ : ∃U F rest,vs=U :: F :: rest:=by
  match vs,h2 with
  | U :: F :: rest,_=>exact⟨U,F,rest,rfl⟩
 match t with
 | 0 =>
  obtain⟨Z,e⟩:=wG z B;rw[keyKind_strs e];exact wpAny_pure h
 | 1 =>
  obtain⟨Z,e⟩:=wI z B;rw[keyKind_ints e];exact wpAny_pure h
 | 2 =>
  obtain⟨fs,e0,e,hf⟩:=xK z B;refine kat_kind (T:=.type "int") e (by rw[e0];simp) (λv Y=>?_) (by decide) h
  obtain⟨x,t,rfl⟩:=hf v Y;exact Looks.of_pure rfl
 | t + 3 =>
  cases z with
  | cons r _ =>
   rename_i k _ _
   have:=(B k mem_cons_self).1
   cases k <;> simp[Ky.tag] at this
theorem kL {α β:Type} {R:α->β->Prop} {d:α} {e:β} : ∀{l:List α} {m:List β} (i:Nat),PySem.Paired R l m->i < l.length->R (l.getD i d) (m.getD i e)
 | _,_,i,.nil,h=>by simp at h
 | _,_,0,.cons r _,_=>by simpa using r
 | _,_,i+1,.cons _ t,h=>by simpa using kL (d:=d) (e:=e) i t (by simpa using h)
theorem uH {kvs vs:List Value} {ks:List Ky} {t:Nat} {Q:SortSt->Shared->Prop} (z:PySem.Paired (VKy s.heap) kvs ks) (hl:kvs.length=vs.length) (U : ∀k∈ks,k.tag=t/\k≠.r []) (h2:2<=vs.length) (F:vs.length < 64)
  (h : ∀(p:Array Nat) (st:SortSt),p.size=vs.length->arrOf st=p.map (kas_item (kvs.toArray.zip vs.toArray))->failedOf st=none->bg vs.length p->Srt (ltK ks) p vs.length->Q st s) :
  wpAny (model prog w) A ((sortRuns').run (SortSt.mk' (su t) (kvs.toArray.zip vs.toArray) #[] 7 none)) (λr s'=>Q r.2 s') E s:=by
 refine kat_run (G:=λp s'=>bg vs.length p/\Srt (ltK ks) p vs.length/\s'=s) hl h2 F (λp st s' a b c B=>by obtain⟨d,e,f⟩:=B;exact(by rw[f];exact h p st a b c d e)) ?_
 refine KasT.Tru.wp (n:=vs.length) (P:=λp=>bg vs.length p/\Srt (ltK ks) p vs.length) (λi j C hi hj hC=>?_) (λp z=>⟨z.1,z.2,rfl⟩) (rT (by omega) (CG ks))
 unfold kas_ask;have aa:kvs.length=ks.length:=PySem.Paired.length z
 have Y:(ks.getD i (.i 0)).tag=t:=(U _ (by rw[getD_eq_getElem?_getD,List.getElem?_eq_getElem (by omega)];simp)).1
 have Z:(ks.getD j (.i 0)).tag=t:=(U _ (by rw[getD_eq_getElem?_getD,List.getElem?_eq_getElem (by omega)];simp)).1
 have:=GJ (prog:=prog) (w:=w) (A:=A) (E:=λ_ _=>False) (Q:=C) (s:=s) (kL (d:=Value.none) (e:=Ky.i 0) i z (by omega)) (kL (d:=Value.none) (e:=Ky.i 0) j z (by omega)) (Y.trans Z.symm) hC
 rw[Y] at this;exact this
theorem _root_.PySem.Paired.mapP' {α β:Type} {F G:α->β->Prop} : ∀{l₁:List α} {z:List β},Paired F l₁ z->(∀a b,F a b->G a b)->Paired G l₁ z
 | _,_,.nil,_=>.nil
 | _,_,.cons r t,f=>.cons (f _ _ r) (PySem.Paired.mapP' t f)
theorem qS {vs:List Value} {ks:List Ky} {t:Nat} {P:PySem.Fin->Shared->Prop} (ho:s.heap.get? a=some (seqObj "list" vs.toArray n)) (ae:vs.length < 64)
  (hp : ∀h':Heap,(∀b o,b≠a->s.heap.get? b=some o->h'.get? b=some o)->Paired (VKy h') vs ks) (ht : ∀k∈ks,k.tag=t/\k≠.r [])
  (h : ∀p:Array Nat,bg vs.length p->Srt (ltK ks) p vs.length->P (.done (.ret .none)) { s with heap:=sortedHeap s.heap a vs (List.toArray (p.toList.map λi=>vs.getD i Value.none)) }) :
  wpAny (model prog w) A (Builtin.«list.sort» ⟨[.ref a],[]⟩) P E s:=by
 rw[list_sort_plain];have ha:a < s.heap.objs.size:=Heap.lt_size ho
 refine wpAny_bind (listItems_at ho rfl ?_)
 refine wpAny_bind (listUpdate_at ho rfl ?_ (by rw[size_toArray,sizeLine_eq];omega) (zero_le _))
 obtain⟨e1,ac⟩ : ∃e1,(s.heap.update a (Obj.mapSeq λ_=>(#[]:Array Value))).get? a=some (seqObj "list" #[] e1):=⟨_,get?_update_seq ho (λ_ => #[])⟩
 refine wpAny_bind (seqEpoch_at ac rfl ?_)
 refine wpAny_bind (wpAny_newTuple ?_ (by show vs.length<=_;rw[sizeLine_eq];omega))
 refine wpAny_bind (wpAny_newList ?_ (zero_le _))
 refine wpAny_holding ?_
 have z:(((s.heap.update a (Obj.mapSeq λ_=>(#[]:Array Value))).push (seqObj "tuple" vs.toArray 0)).push (seqObj "list" #[] 0)).get? a=some (seqObj "list" #[] e1):=by
  rw[Heap.get?_push_ne _ _ _ (by rw[size_push',Heap.size_update];exact ne_of_lt (lt_succ_of_lt ha)),Heap.get?_push_ne _ _ _ (by rw[Heap.size_update];exact ne_of_lt ha)]
  exact ac
 have U : ∀b o,b≠a->s.heap.get? b=some o->(((s.heap.update a (Obj.mapSeq λ_=>(#[]:Array Value))).push (seqObj "tuple" vs.toArray 0)).push (seqObj "list" #[] 0)).get? b=some o:=λb o hb e =>
  Heap.get?_push_of_some _ (Heap.get?_push_of_some _ (by rw[Heap.get?_update_ne _ _ _ _ hb];exact e))
 show wpAny (model prog w) A _ P E { s with heap:=((s.heap.update a (Obj.mapSeq λ_=>(#[]:Array Value))).push (seqObj "tuple" vs.toArray 0)).push (seqObj "list" #[] 0) }
 dsimp only
 by_cases h2:vs.toArray.size < 2
 .rw[if_pos h2,if_pos h2]
  refine wpAny_bind (wpAny_pure ?_)
  rw[StateT.run_pure];refine wpAny_bind (wpAny_pure ?_)
  dsimp only;refine wpAny_bind (seqEpoch_at z rfl ?_)
  refine wpAny_bind (listUpdate_at z rfl ?_ (hsz2:=by rw[Array.size_map];show(pairsOf vs).size<=_;rw[pairsOf_size,sizeLine_eq];omega))
  simp only[bne_self_eq_false,Bool.false_eq_true,if_false];have e:Array.map (λ(x:Value × Value)=>x.2) (vs.toArray.zip vs.toArray)=List.toArray ((List.toArray (range vs.length)).toList.map λi=>vs.getD i Value.none):=by
   apply toList_inj.mp
   rw[Array.toList_map,Array.toList_zip]
   show List.map _ (List.zip vs vs)=_
   rw[map_snd_zip (le_refl _)]
   apply ext_getElem?
   intro i
   by_cases hi:i < vs.length
   .simp[hi]
   .simp[hi]
  have:=h (List.toArray (range vs.length)) (by show(range _).toArray.toList.Perm _;simp) λi j a b=>by rw[size_toArray] at h2;omega
  rw[<- e] at this;exact wpAny_pure this
 .rw[if_neg h2,if_neg h2]
  have Z:2<=vs.length:=by rw[size_toArray] at h2;omega
  have aa:=hp _ U;refine wpAny_bind (wY (t:=t) (s:={ s with heap:=((s.heap.update a (Obj.mapSeq λ_=>(#[]:Array Value))).push (seqObj "tuple" vs.toArray 0)).push (seqObj "list" #[] 0) }) aa ht Z ?_)
  refine wpAny_bind (wpAny_mono (uH (kvs:=vs) (vs:=vs) (s:={ s with heap:=((s.heap.update a (Obj.mapSeq λ_=>(#[]:Array Value))).push (seqObj "tuple" vs.toArray 0)).push (seqObj "list" #[] 0) })
   (Q:=λst s'=>∃p:Array Nat,p.size=vs.length/\arrOf st=p.map (kas_item (vs.toArray.zip vs.toArray))/\failedOf st=none/\bg vs.length p/\Srt (ltK ks) p vs.length/\s'={ s with heap:=((s.heap.update a (Obj.mapSeq λ_=>(#[]:Array Value))).push (seqObj "tuple" vs.toArray 0)).push (seqObj "list" #[] 0) })
   aa rfl ht Z ae λp st a1 a2 a3 a4 a5=>⟨p,a1,a2,a3,a4,a5,rfl⟩) ?_ λ_ _ e=>e)
  rintro⟨⟨⟩,ag⟩ s' ⟨p,ad,af,hf,B,Y,rfl⟩
  dsimp only;have F:=kat_snds (ks:=vs) (vs:=vs) rfl af;have hsz:(List.toArray (p.toList.map λi=>vs.getD i Value.none)).size=vs.length:=by rw[size_toArray,length_map,length_toList,ad]
  rw[F];refine wpAny_bind (seqEpoch_at z rfl ?_)
  refine wpAny_bind (listUpdate_at z rfl ?_ (zero_le _) (le_trans (le_of_eq hsz) (by rw[sizeLine_eq];omega)))
  rw[hf];simp only[bne_self_eq_false,Bool.false_eq_true,if_false];exact wpAny_pure (h p B Y)
theorem lD {vs kvs:List Value} {ks:List Ky} {t:Nat} {P:PySem.Fin->Shared->Prop} (ho:s.heap.get? a=some (seqObj "list" vs.toArray n)) (av:vs.length < 64) (hl:kvs.length=vs.length)
  (hp : ∀h':Heap,(∀b o,b≠a->s.heap.get? b=some o->h'.get? b=some o)->Paired (VKy h') kvs ks) (ht : ∀k∈ks,k.tag=t/\k≠.r [])
  (ad : ∀(i:Nat) x k,vs[i]? = some x->kvs[i]? = some k->∀(h':Heap) (tk:Nat) (Q:Value->Shared->Prop),(∀b o,b≠a->s.heap.get? b=some o->h'.get? b=some o)->s.heap.objs.size<=h'.objs.size ->
   (∀(z:Heap) (F:Nat),(∀b o,h'.get? b=some o->z.get? b=some o)->Q k { s with heap:=z,toks:=F })->wpAny (model prog w) A (call (.ref f) [x]) Q (λ_ _=>False) { s with heap:=h',toks:=tk })
  (h : ∀(h':Heap) (tk c:Nat) (p:Array Nat),bg vs.length p->Srt (ltK ks) p vs.length->(∀b o,b≠a->s.heap.get? b=some o->h'.get? b=some o)->h'.get? a=some (seqObj "list" (List.toArray (p.toList.map λi=>vs.getD i Value.none)) c)->P (.done (.ret .none)) { s with heap:=h',toks:=tk }) :
  wpAny (model prog w) A (Builtin.«list.sort» ⟨[.ref a],[(Str.ofString "key",.ref f)]⟩) P E s:=by
 rw[ksk_t1];have ha:a < s.heap.objs.size:=Heap.lt_size ho
 unfold ksk_tree;refine wpAny_bind (listItems_at ho rfl ?_)
 refine wpAny_bind (listUpdate_at ho rfl ?_ (by rw[size_toArray,sizeLine_eq];omega) (zero_le _))
 obtain⟨e1,ah⟩ : ∃e1,(s.heap.update a (Obj.mapSeq λ_=>(#[]:Array Value))).get? a=some (seqObj "list" #[] e1):=⟨_,get?_update_seq ho (λ_ => #[])⟩
 refine wpAny_bind (seqEpoch_at ah rfl ?_)
 refine wpAny_bind (wpAny_newTuple ?_ (by show vs.length<=_;rw[sizeLine_eq];omega))
 refine wpAny_bind (wpAny_newList ?_ (zero_le _))
 refine wpAny_holding ?_
 have ai:((s.heap.update a (Obj.mapSeq λ_=>(#[]:Array Value))).push (seqObj "tuple" vs.toArray 0)).objs.size=s.heap.objs.size+1:=by rw[size_push',Heap.size_update]
 obtain⟨h1,Z⟩ : ∃h1,h1=((s.heap.update a (Obj.mapSeq λ_=>(#[]:Array Value))).push (seqObj "tuple" vs.toArray 0)).push (seqObj "list" #[] 0):=⟨_,rfl⟩
 have au:h1.get? a=some (seqObj "list" #[] e1):=by
  rw[Z,Heap.get?_push_ne _ _ _ (by rw[size_push',Heap.size_update];exact ne_of_lt (lt_succ_of_lt ha)),Heap.get?_push_ne _ _ _ (by rw[Heap.size_update];exact ne_of_lt ha)]
  exact ah
 have ak : ∀b o,b≠a->s.heap.get? b=some o->h1.get? b=some o:=λb o hb e=>by
  rw[Z];exact Heap.get?_push_of_some _ (Heap.get?_push_of_some _ (by rw[Heap.get?_update_ne _ _ _ _ hb];exact e))
 have ag:h1.get? (s.heap.objs.size+1)=some (seqObj "list" #[] 0):=by rw[Z,<- ai];exact Heap.get?_push_size _ rfl
 have an:s.heap.objs.size<=h1.objs.size:=le_trans (le_succ _) (le_of_lt (Heap.lt_size ag))
 have ap:s.heap.objs.size+1≠a:=ne_of_gt (lt_succ_of_lt ha)
 rw[ai]
 show wpAny (model prog w) A _ P E { s with heap:=((s.heap.update a (Obj.mapSeq λ_=>(#[]:Array Value))).push (seqObj "tuple" vs.toArray 0)).push (seqObj "list" #[] 0) }
 rw[<- Z];unfold ksk_rest;refine wpAny_bind (wpAny_rule ?_)
 rw[List.forIn_toArray];refine wpAny_bind (ksk_fold (λi s'=>∃(h':Heap) (tk e:Nat),s'={ s with heap:=h',toks:=tk }/\(∀b o,b≠a->s.heap.get? b=some o->h'.get? b=some o)/\s.heap.objs.size<=h'.objs.size/\h'.get? a=some (seqObj "list" #[] e1)/\h'.get? (s.heap.objs.size+1)=some (seqObj "list" (kvs.take i).toArray e)) vs 0 _
  ⟨h1,s.toks,0,rfl,ak,an,au,by simpa using ag⟩ (λj x s' hx hI=>?_) λs' hI=>?_)
 .obtain⟨h',tk,e,rfl,k1,k2,k3,k4⟩:=hI
  simp only[Nat.zero_add] at k4 ⊢;have hj:j < vs.length:=(List.getElem?_eq_some_iff.mp hx).1
  obtain⟨k,aj⟩ : ∃k,kvs[j]? = some k:=⟨_,List.getElem?_eq_getElem (by omega)⟩
  refine wpAny_bind (wpAny_attempt (wpAny_mono (ad j x k hx aj h' tk (λv ao=>∃z F,v=k/\ao={ s with heap:=z,toks:=F }/\∀b o,h'.get? b=some o->z.get? b=some o) k1 k2 λz F hk=>⟨z,F,rfl,rfl,hk⟩) (λv ao he=>?_) λ_ _ hF=>hF.elim))
  obtain⟨z,F,rfl,rfl,hk⟩:=he;dsimp only;have nk:=hk _ _ k4;have na:=hk _ _ k3;obtain⟨c2,aq⟩ : ∃c2,(z.update (s.heap.objs.size+1) (Obj.mapSeq (·.push v))).get? (s.heap.objs.size+1)=some (seqObj "list" ((kvs.take j).toArray.push v) c2):=⟨_,get?_update_seq nk (·.push v)⟩;have Y:(kvs.take j).toArray.size<=64:=by rw[size_toArray,length_take];omega
  have ax:(65:Nat)<=sizeLine:=by rw[sizeLine_eq];omega
  refine wpAny_bind (listUpdate_at nk rfl ?_ (le_trans Y (by omega)) (le_trans (le_of_eq (Array.size_push ..)) (by omega)))
  refine wpAny_pure ⟨rfl,_,F,c2,rfl,λb o hb e=>?_,?_,?_,?_⟩
  .have Y:=Heap.lt_size e
   rw[Heap.get?_update_ne _ _ _ _ (ne_of_lt (lt_succ_of_lt Y))];exact hk _ _ (k1 b o hb e)
  .rw[Heap.size_update]
   exact le_trans (le_succ _) (le_of_lt (Heap.lt_size nk))
  .rw[Heap.get?_update_ne _ _ _ _ (Ne.symm ap)]
   exact na
  .rw[aq]
   congr 2
   have ek:kvs.take (j+1)=kvs.take j++[v]:=by rw[take_add_one,aj];simp
   rw[ek];simp
 .obtain⟨h',tk,e,rfl,k1,k2,k3,k4⟩:=hI
  have e3:kvs.take (0+vs.length)=kvs:=take_of_length_le (by omega)
  rw[e3] at k4
  try dsimp only
  refine wpAny_bind (listItems_at k4 rfl ?_)
  have af:=hp h' k1;have aa : ∀(st:SortSt) (p:Array Nat),(arrOf st).map (·.2)=List.toArray (p.toList.map λi=>vs.getD i Value.none)->failedOf st=none->bg vs.length p->Srt (ltK ks) p vs.length->wpAny (model prog w) A (ksk_tail a false e1 (.ref (s.heap.objs.size+1)) st) P E { s with heap:=h',toks:=tk }:=by
   intro st p ac hf B U;unfold ksk_tail;dsimp only;have hsz:(List.toArray (p.toList.map λi=>vs.getD i Value.none)).size=vs.length:=by rw[size_toArray,length_map,length_toList,B.size]
   have ax:(65:Nat)<=sizeLine:=by rw[sizeLine_eq];omega
   refine wpAny_bind (listUpdate_at k4 rfl ?_ (by rw[size_toArray];omega) (zero_le _))
   refine wpAny_bind (wpAny_letGo ?_)
   have ae:(h'.update (s.heap.objs.size+1) (Obj.mapSeq λ_=>(#[]:Array Value))).get? a=some (seqObj "list" #[] e1):=by
    rw[Heap.get?_update_ne _ _ _ _ (Ne.symm ap)];exact k3
   refine wpAny_bind (seqEpoch_at ae rfl ?_)
   rw[ac];refine wpAny_bind (listUpdate_at ae rfl ?_ (zero_le _) (le_trans (le_of_eq hsz) (by omega)))
   rw[hf];simp only[bne_self_eq_false,Bool.false_eq_true,if_false];refine wpAny_pure (h _ tk _ p B U (λb o hb eb=>?_) (get?_update_seq ae λ_=>List.toArray (p.toList.map λi=>vs.getD i Value.none)))
   have Y:=Heap.lt_size eb;rw[Heap.get?_update_ne _ _ _ _ hb,Heap.get?_update_ne _ _ _ _ (ne_of_lt (lt_succ_of_lt Y))];exact k1 b o hb eb
  unfold ksk_end;dsimp only;simp only[Bool.false_eq_true,if_false]
  by_cases h2:vs.toArray.size < 2
  .rw[if_pos h2,if_pos h2]
   refine wpAny_bind (wpAny_pure ?_)
   rw[StateT.run_pure];refine wpAny_bind (wpAny_pure ?_)
   dsimp only;refine aa _ (List.toArray (range vs.length)) ?_ rfl (by show(range _).toArray.toList.Perm _;simp) λi j a b=>by rw[size_toArray] at h2;omega
   show Array.map _ (kvs.toArray.zip vs.toArray)=_
   apply toList_inj.mp
   rw[Array.toList_map,Array.toList_zip]
   show List.map _ (List.zip kvs vs)=_
   rw[map_snd_zip (by omega)]
   apply ext_getElem?
   intro i
   by_cases hi:i < vs.length
   .simp[hi]
   .simp[hi]
  .rw[if_neg h2,if_neg h2]
   have aw:2<=vs.length:=by rw[size_toArray] at h2;omega
   refine wpAny_bind (wY (t:=t) (s:={ s with heap:=h',toks:=tk }) af ht (by omega) ?_)
   refine wpAny_bind (wpAny_mono (uH (kvs:=kvs) (vs:=vs) (s:={ s with heap:=h',toks:=tk })
    (Q:=λst s'=>∃p:Array Nat,arrOf st=p.map (kas_item (kvs.toArray.zip vs.toArray))/\failedOf st=none/\bg vs.length p/\Srt (ltK ks) p vs.length/\s'={ s with heap:=h',toks:=tk })
    af hl ht aw av λp st a1 a2 a3 a4 a5=>⟨p,a2,a3,a4,a5,rfl⟩) ?_ λ_ _ e=>e)
   rintro⟨⟨⟩,ar⟩ s' ⟨p,ac,hf,B,U,rfl⟩
   exact aa ar p (kat_snds hl ac) hf B U
theorem sorted_ky {vs:List Value} {ks:List Ky} {t:Nat}
  (U : ∀Q':List Value->Shared->Prop,(∀(h':Heap) (tk:Nat),(∀b o,s.heap.get? b=some o->h'.get? b=some o)->s.heap.objs.size<=h'.objs.size->Q' vs { s with heap:=h',toks:=tk })->wpAny (model prog w) A.in1 (collect u) Q' E s)
  (Y:vs.length < 64) (hp:Paired (VKy s.heap) vs ks) (ht : ∀k∈ks,k.tag=t/\k≠.r [])
  (h : ∀(h':Heap) (q tk c:Nat) (p:Array Nat),bg vs.length p->Srt (ltK ks) p vs.length->s.heap.objs.size<=q->(∀b o,s.heap.get? b=some o->h'.get? b=some o)->h'.get? q=some (seqObj "list" (List.toArray (p.toList.map λi=>vs.getD i Value.none)) c)->Q (.ref q) { s with heap:=h',toks:=tk }) :
  wpAny (model prog w) A (call (.builtin "sorted") [u]) Q E s:=by
 refine Calls.call_function_entry kind_sorted plain_sorted entry_sorted (args_sorted1 _) ?_
 unfold Builtin.«sorted»;refine wpAny_bind (m:=checkCount "sorted" 1 1 _) (wpAny_pure ?_)
 refine wpAny_bind (U _ λh1 tk Z hz=>?_)
 refine wpAny_bind (wpAny_newList ?_ (by rw[sizeLine_eq];omega))
 have B:(h1.push (seqObj "list" vs.toArray 0)).get? h1.objs.size=some (seqObj "list" vs.toArray 0):=Heap.get?_push_size _ rfl
 have keep : ∀b o,s.heap.get? b=some o->(h1.push (seqObj "list" vs.toArray 0)).get? b=some o:=λb o q=>Heap.get?_push_of_some _ (Z b o q)
 show wpAny _ _ _ _ _ { s with heap:=h1.push (seqObj "list" vs.toArray 0),toks:=tk }
 refine wpAny_bind (wpAny_holding (wpAny_call_entry slot_list_sort ⟨_,B,rfl⟩ entry_list_sort (qS (t:=t) (ks:=ks) B Y (λh' F=>Paired.mapP' hp λv k z=>z.keep λb o e=>F b o (ne_of_lt (lt_of_lt_of_le (Heap.lt_size e) hz)) (keep b o e)) ht λp a1 a2=>⟨_,rfl,?_⟩) (args_list_sort _)))
 obtain⟨e,he⟩:=sortedHeap_at (vs:=vs) (out:=List.toArray (p.toList.map λi=>vs.getD i Value.none)) B
 refine wpAny_pure ⟨_,rfl,h _ _ tk e p a1 a2 hz (λb o eb=>?_) he⟩
 have hb:=Heap.lt_size (Z b o eb);rw[sortedHeap_old (ne_of_lt hb) (by rw[size_push'];exact lt_succ_of_lt hb)]
 exact keep b o eb
theorem sorted_keyed {ks:List Ky} {t:Nat}
  (Z : ∀Q':List Value->Shared->Prop,(∀(vs:List Value) (h':Heap) (tk:Nat),G vs->(∀b o,s.heap.get? b=some o->h'.get? b=some o)->s.heap.objs.size<=h'.objs.size->Q' vs { s with heap:=h',toks:=tk })->wpAny (model prog w) A.in1 (collect u) Q' E s)
  (ht : ∀k∈ks,k.tag=t/\k≠.r [])
  (hG : ∀vs,G vs->vs.length < 64/\∃kvs:List Value,kvs.length=vs.length/\Paired (VKy s.heap) kvs ks/\∀(i:Nat) x k,vs[i]? = some x->kvs[i]? = some k->∀(h':Heap) (tk:Nat) (Q:Value->Shared->Prop),(∀b o,s.heap.get? b=some o->h'.get? b=some o) ->
   (∀(Y:Heap) (F:Nat),(∀b o,h'.get? b=some o->Y.get? b=some o)->Q k { s with heap:=Y,toks:=F })->wpAny (model prog w) A.in1.in1 (call (.ref f) [x]) Q (λ_ _=>False) { s with heap:=h',toks:=tk })
  (h : ∀(vs:List Value) (h':Heap) (q tk c:Nat) (p:Array Nat),G vs->bg vs.length p->Srt (ltK ks) p vs.length->s.heap.objs.size<=q->(∀b o,s.heap.get? b=some o->h'.get? b=some o)->h'.get? q=some (seqObj "list" (List.toArray (p.toList.map λi=>vs.getD i Value.none)) c)->Q (.ref q) { s with heap:=h',toks:=tk }) :
  wpAny (model prog w) A (call (.builtin "sorted") [u] [(Str.ofString "key",.ref f)]) Q E s:=by
 refine call_function_entry_kw kind_sorted plain_sorted entry_sorted (ksk_s1 _ _) ?_
 unfold Builtin.«sorted»;refine wpAny_bind (m:=checkCount "sorted" 1 1 _) (wpAny_pure ?_)
 refine wpAny_bind (Z _ λvs h1 tk hg hk hz=>?_)
 obtain⟨ac,kvs,hl,hp,U⟩:=hG vs hg;refine wpAny_bind (wpAny_newList ?_ (by rw[sizeLine_eq];omega))
 have aa:(h1.push (seqObj "list" vs.toArray 0)).get? h1.objs.size=some (seqObj "list" vs.toArray 0):=Heap.get?_push_size _ rfl
 have keep : ∀b o,s.heap.get? b=some o->(h1.push (seqObj "list" vs.toArray 0)).get? b=some o:=λb o q=>Heap.get?_push_of_some _ (hk b o q)
 have ne : ∀b o,s.heap.get? b=some o->b≠h1.objs.size:=λb o e=>ne_of_lt (lt_of_lt_of_le (Heap.lt_size e) hz)
 show wpAny _ _ _ _ _ { s with heap:=h1.push (seqObj "list" vs.toArray 0),toks:=tk }
 refine wpAny_bind (wpAny_holding (wpAny_call_entry_kw slot_list_sort ⟨_,aa,rfl⟩ entry_list_sort (lD (t:=t) (ks:=ks) (kvs:=kvs) aa ac hl (λh' B=>Paired.mapP' hp λv k z=>z.keep λb o e=>B b o (ne b o e) (keep b o e)) ht
  (λi x k hx ad h' F Q' B _ hq=>U i x k hx ad h' F Q' (λb o e=>B b o (ne b o e) (keep b o e)) hq) λh' F c p a1 a2 B he=>⟨_,rfl,?_⟩) (ksk_l1 _ _)))
 exact wpAny_pure ⟨_,rfl,h vs h' _ F c p hg a1 a2 hz (λb o e=>B b o (ne b o e) (keep b o e)) he⟩
theorem among_app {r:List Value} (l:List Value) (h:TriplesOk l):codeAmong pos (l++r)=(codeAmong pos l).or (codeAmong pos r):=by
 fun_induction TriplesOk l with
 | case1=>simp[codeAmong]
 | case2 a t b u x rest z =>
  simp only[cons_append,codeAmong]
  split
  .rfl
  .exact z h
 | case3 l h1 h2=>exact h.elim
theorem triples_app {r:List Value} (l:List Value) (h:TriplesOk l) (g:TriplesOk r):TriplesOk (l++r):=by
 fun_induction TriplesOk l with
 | case1=>simpa using g
 | case2 a t b u x rest z=>exact z h
 | case3 l h1 h2=>exact h.elim
def LamEv (prog:Program) (w:World) (qual:Str) (scope:Scope) (clos:List (Str × Addr)) (body:Expr) (x:Str) (h:Heap) (u k:Value):Prop :=
 ∀ (A:Around) (L f:Addr) (cdv:Value) (s:Shared) (m:Str->Option Value) (Q:Value->Shared->Prop) (E:Value->Shared->Prop),(∀b o,h.get? b=some o->s.heap.get? b=some o)->s.heap.Ns L m->m x=some u ->
  (∀tk,Q k { s with toks:=tk })->wpAny (model prog w) A (eval body (envX qual scope L f cdv clos)) Q E s
section
variable {body:Expr}
theorem lam_call {k:Value} (ho:s.heap.get? f=some (kla_obj name qual params body scope clos pm c' ctv)) (ah:s.heap.CodeRec (.ref c') qual) (U:A.depth < recursionLimit) (ac:s.heap.NoLimit)
  (B:bindArgs (kla_fn name qual params body scope clos pm (.ref c') ctv) ⟨[u],[]⟩=pure [(x,u)]) (hx:scope.names.lookup x=some .local) (hk:scope.kind = .function) (ag:scope.isCoroutine=false) (Z:scope.isGenerator=false) (F : ∀y∈scope.names,y.2≠.cell)
  (af:LamEv prog w qual scope clos body x h u k) (hh : ∀b o,h.get? b=some o->s.heap.get? b=some o) (hq : ∀(Y:Heap) (ai:Nat),(∀b o,s.heap.get? b=some o->Y.get? b=some o)->Q k { s with heap:=Y,toks:=ai }) :
  wpAny (model prog w) A (call (.ref f) [u]) Q E s:=by
 refine wpAny_call (kla_callFunE U ho rfl ag Z rfl ah ?_)
 rw[B];refine wpAny_pure (wpAny_newFunctionEnv F (λy hy=>by rw[mem_singleton.mp hy];exact hx) (λaa ae ad=>⟨ac.fresh _ ad,kla_codeExpr ?_⟩) hk)
 have z : ∀b o,s.heap.get? b=some o->aa.get? b=some o:=λb o e=>ad.extBut b o (ne_of_lt (Heap.lt_size e)) (Heap.get?_push_of_some _ e)
 exact af _ _ _ _ _ _ _ _ (λb o e=>z b o (hh b o e)) ae (by simp) λtk=>hq _ _ z
theorem mB {t:Tok} (z:IsTup s.heap a its.toArray) (Y:its.length<=sizeLine) (F:L2.atI its i=some v) (h:Q v s)
  (B:subscripted slice false (.ref a) (.int i t)=operate [.ref a,.int i t] (getItem (.ref a) (.int i t))):wpAny (model prog w) A (subscriptTail value slice (.ref a) (.int i t)) Q E s:=by
 obtain⟨j,h1,h2,U,h4,Z⟩:=L2.lX F;have hn:=L2.jv;exact subscriptTail_builtinR (x:=v) z.typeIs slot_tuple_getitem.lookup
  (getItem_tuple (j:=j) (Q:=λr s'=>r=v/\Q r s') z (by omega) (by omega) (by rw[size_toArray];exact h1) (by simpa using h2) ⟨rfl,h⟩) B
theorem ev_item (B:scope.kind = .function) (hx:scope.names.lookup x=some .local) (U:IsTup h a its.toArray) (hz:its.length<=sizeLine) (he:L2.atI its i=some v)
  (hd:(x ==("__debug__" : Str))=false) (Z : ∀o u,subscripted (.Constant (.int i) kk p2) false o u=operate [o,u] (getItem o u)) :
  LamEv prog w qual scope clos (.Subscript (.Name x p1) (.Constant (.int i) kk p2) p3) x h (.ref a) v:=by
 intro A L f cdv s m Q E Y z F hq;refine Subscript_ (wpAny_Name (wpAny_loadName_local B hx z F ?_) hd)
 refine wpAny_Constant_int ?_
 exact mB (U.keeps Y) hz he (hq _) (Z _ _)
theorem ev_place {y:Str} {F:List Value} {j:Int} {t:Tok} {p4 p5:Pos} (hk:scope.kind = .function) (hx:scope.names.lookup x=some .local) (hy:scope.names.lookup y=some .free) (hc:clos.lookup y=some c)
  (B:h.IsCell c (some (.ref a))) (hp:IsTup h a its.toArray) (hz:its.length<=sizeLine) (he:L2.atI its i=some (.ref b)) (af:IsTup h b F.toArray) (ac:F.length<=sizeLine) (aa:L2.atI F j=some v)
  (hd:(x ==("__debug__" : Str))=false) (Z:(y ==("__debug__" : Str))=false) (ae:(y ==("__classdict__" : Str))=false)
  (hs : ∀o u,subscripted (.Constant (.int i) kk p2) false o u=operate [o,u] (getItem o u)) (ad : ∀o u,subscripted (.Name x p4) false o u=operate [o,u] (getItem o u)) :
  LamEv prog w qual scope clos (.Subscript (.Subscript (.Name y p1) (.Constant (.int i) kk p2) p3) (.Name x p4) p5) x h (.int j t) v:=by
 intro A L f cdv s m Q E Y U hm hq;have z:s.heap.IsCell c (some (.ref a)):=let ⟨o,e,d⟩:=B;⟨o,Y _ _ e,d⟩
 refine Subscript_ (Subscript_ (wpAny_Name (wpAny_loadName_free hk hy hc z ?_ ae) Z))
 refine wpAny_Constant_int ?_
 refine mB (hp.keeps Y) hz he ?_ (hs _ _)
 refine wpAny_Name (wpAny_loadName_local hk hx U hm ?_) hd
 exact mB (af.keeps Y) ac aa (hq _) (ad _ _)
end
end PySem.W
variable {ks:List PySem.W.Ky} {zs:List (L2.V × PySem.W.Ky)}
namespace L2
open PySem PySem.Spec PyProof.Rows
def iV (mg:Str->Option Value) (base:Heap):Prop:=∃z ob,mg "__builtins__" = some (.ref z)/\z≠builtinsNs/\base.get? z=some ob/\ob.cls = .type "module" /\ ob.dict=some builtinsNs/\ob.data = .plain
def sP (K:PySem.W.Frag) (mg:Str->Option Value) (x:Str) (st:Stmt) (ps:List Str) (P:Addr):Prop :=
 ∃f fd c,Fun K x x st f fd/\fd.code = .ref c/\codeHdIn K c P=true/\mg x=some (.ref f)/\jB K fd ps []
section
variable {P:Program} {w:World} {K:PySem.W.Frag} {mg:Str->Option Value} {base:Heap}
theorem sP.ok {pt:Addr} (F:sP K mg x st ps pt) (S:aG N ps (ak st)) (len : ∀vs H Q E,sp vs H Q E->vs.length=ps.length)
  (z : ∀(f c:Addr) (Z:codeHdIn K c pt=true) (A:Around) (outer:List Env) (s:Shared) (H:Hp) (vs:List V) (Q:VK) (E:XK),ci k (A.deeper (envOfC x (ak st) s.heap.objs.size f (.ref c)))->sp vs H Q E ->
   ∃t,PSs (sB CX0 P w K mg base N x (ak st) f (.ref c) A outer s H E).nox (bT st) t/\t { nx:=λ_ H'=>Q .non H',rt:=Q } (gh N vs) H):Fn P w K mg base x (k+1) ps sp:=by
 obtain⟨f,fd,c,F,Y,Z,m,b⟩:=F;refine⟨f,fd,?_,m,F.kp,b⟩
 obtain⟨oc,od,kV,doc,pm,an,cdv,ct,osl,rfl,lk,B⟩:=F.ex;have e:cdv = .ref c:=Y
 subst e;refine CU lk B S len λA outer s H vs Q E hr U=>?_
 obtain⟨t,h,q⟩:=z f c Z A outer s H vs Q E hr U;exact⟨t,h.nox,q⟩
theorem xx {pt:Addr} {z:Option Addr} {kV:Value} (X:K.In h) (G:h.Ns mainGlobals mg)
  (a:nsIn K mainGlobals x=some (some (.ref f)))
  (l:K.lookup f=some ⟨oc,od,.func (fnOf x x (cN st) (bT st) (ak st) .none kV doc pm z cdv ct),osl⟩)
  (c':codeIn K cdv x=true) (k:keepIn K (.ref f)=true) (B:cdv = .ref c) (F:codeHdIn K c pt=true)
  (U : ∀(kV doc pm:Value) (z:Option Addr) (cdv ct:Value) (us:List Value),us.length=ps.length->bindArgs (fnOf x x (cN st) (bT st) (ak st) .none kV doc pm z cdv ct) ⟨us,[]⟩=pure (ps.zip us)):sP K mg x st ps pt :=
 ⟨f,_,c,mr l c' k,B,F,mg_of X G a,(mr l c' k).binds U⟩
end
theorem tf {pt:Addr} {q:Str} {body:Expr} (I:Inv X pins σ H s) (hP:H pt=some (.tab q)) (hq:X.env.qual ++ "<lambda>" = q) (U:X.env.code = .ref c)
  (hc:codeHdIn X.K c pt=true) (bm:iV X.mg X.base) (af:defaultsOf params X.env=([],[])) (ah:closureFor scope X.env=pure clos)
  (h : ∀(f c':Addr) (pm ctv:Value) (s':Shared) (H':Hp),Inv X pins σ H' s'->am H H'->(∀b u,s.heap.get? b=some u->H b=none->s'.heap.get? b=some u)->s.heap.objs.size<=s'.heap.objs.size->s'.heap.get? f=some (PySem.W.kla_obj "<lambda>" q params body scope clos pm c' ctv)->s'.heap.CodeRec (.ref c') q->Q (.ref f) s') :
  wpAny (model X.prog X.w) X.A (eval (.Lambda params body scope pos) X.env) Q E s:=by
 obtain⟨ps,e,ht,ak⟩:=(show be X.prog X.w H s.heap pt (.tab q) from I.hok pt _ hP)
 have C:PySem.W.CodeHd s.heap c pt:=(codeHd_of_K I.mod.kin hc).keeps I.bk
 obtain⟨b,ob,b1,b2,b3,b4,b5,b6⟩:=bm;have ac:s.heap.Ns mainGlobals X.mg:=I.mod.glob.keeps I.bk
 have aw:mainGlobals≠pt:=λz=>by
  obtain⟨o,es,ep,e',Z,_⟩:=ac;rw[z,e] at e';cases e';cases Z
 have ar:b≠pt:=λz=>by
  have:=(I.bs _ _ b3).2
  rw[z,hP] at this;cases this
 have av:b≠mainGlobals:=λz=>by
  obtain⟨o,es,ep,e',Z,_⟩:=I.mod.glob;rw[z,e'] at b3;cases b3;rw[Z] at b6;cases b6
 have hB:s.heap.BuiltinsAt X.mg pt:=⟨b,ob,b1,b2,av,ar,I.bk _ _ b3,b4,b5,b6⟩
 refine PySem.W.kla_eval af ?_
 rw[hq];cases hf:codeAmong pos ps.toList with
 | some cv =>
  obtain⟨c',oc,rfl,ne,hw,ad⟩:=ak pos cv hf;have F:s.heap.CodeRec (.ref c') q:=let ⟨vs,t,e3,e4⟩:=ad;⟨c',oc,vs,t,rfl,(I.hok c' _ hw).1,e3,e4⟩
  refine PySem.W.kla_makeFunctionHit ah I.ok.glob ac U C e ht hf hB λctv h' tk hk hsz=>?_
  have k2 : ∀b o,s.heap.get? b=some o->(h'.push (PySem.W.kla_obj "<lambda>" q params body scope clos ((X.mg "__name__").getD .none) c' ctv)).get? b=some o:=λb o e=>Heap.get?_push_of_some _ (hk b o e)
  exact h _ c' _ ctv _ H (I.kept (t':=tk) k2) (am.refl H) (λb u e _=>k2 b u e) (by show _<=(h'.push _).objs.size;rw[Heap.size_push];omega) (Heap.get?_push_size _ rfl) (F.keeps k2)
 | none =>
  refine PySem.W.kla_makeFunction ah I.ok.glob ac U C e ht hf aw hB λc' ctv h' tk hx ae ay F aq=>?_
  have aa:H c'=none:=I.hok.fresh ae
  have au:c'≠pt:=λz=>by rw[z,hP] at aa;cases aa
  have k1 : ∀b o,b≠pt->s.heap.get? b=some o->(h'.push (PySem.W.kla_obj "<lambda>" q params body scope clos ((X.mg "__name__").getD .none) c' ctv)).get? b=some o:=λb o hb e=>Heap.get?_push_of_some _ (hx b o hb e)
  have nP : ∀b,H b=none->b≠pt:=λb n z=>by rw[z,hP] at n;cases n
  have nc : ∀b o,s.heap.get? b=some o->b≠c':=λb o e=>ne_of_lt (lt_of_lt_of_le (Heap.lt_size e) ae)
  have Y:(h'.push (PySem.W.kla_obj "<lambda>" q params body scope clos ((X.mg "__name__").getD .none) c' ctv)).get? pt=some (tabObj (ps ++ #[rawInt pos.line,rawInt pos.col,.ref c'])):=Heap.get?_push_of_some _ aq
  have B:=F.push (PySem.W.kla_obj "<lambda>" q params body scope clos ((X.mg "__name__").getD .none) c' ctv);obtain⟨cc,oc,vc,tc,ap,an,ax⟩:=id B;cases ap;have S:am H (upd H c' (.frz oc (.own pt))):=λb o e=>by rw[ag (aj e aa)];exact e
  have un:Un X.fs [] H (upd H c' (.frz oc (.own pt))) s.heap (h'.push (PySem.W.kla_obj "<lambda>" q params body scope clos ((X.mg "__name__").getD .none) c' ctv)) :=
   ⟨λb o e n _ _=>k1 b o (nP b n) e,λb o e n _ _=>⟨o.slots,k1 b o (nP b n) e⟩,λb o e n _=>by rw[ag (nc b o e)];exact n,
    λb o e _=>by
     by_cases hb:b=pt
     .subst hb;exact⟨_,Y⟩
     .exact⟨o,k1 b o hb e⟩,
    λb xs e=>S _ _ e,λb o u e=>S _ _ e,λb ps e=>⟨#[],by rw[S _ _ e];simp⟩⟩
  have hok:HOk X.prog X.w (upd H c' (.frz oc (.own pt))) (h'.push (PySem.W.kla_obj "<lambda>" q params body scope clos ((X.mg "__name__").getD .none) c' ctv)):=λb u eb=>by
   by_cases ao:b=c'
   .subst ao
    rw[ab] at eb;cases eb;exact⟨an,oc,an⟩
   .rw[ag ao] at eb
    by_cases hb:b=pt
    .subst hb
     rw[hP] at eb;cases eb;refine⟨ps ++ #[rawInt pos.line,rawInt pos.col,.ref c'],Y,?_,λpos' cv z=>?_⟩
     .rw[Array.toList_append]
      exact PySem.W.triples_app _ ht trivial
     .rw[Array.toList_append,PySem.W.among_app _ ht] at z
      cases z1:codeAmong pos' ps.toList with
      | some ai =>
       rw[z1] at z;have z':ai=cv:=by simpa using z
       subst z';obtain⟨d,od,rfl,ne,hw,ad⟩:=ak pos' ai z1;exact⟨d,od,rfl,ne,S _ _ hw,ad⟩
      | none =>
       rw[z1] at z;have z':Value.ref c'=cv:=by
        simp only[Option.none_or,rawInt,codeAmong] at z
        split at z
        .exact Option.some.inj z
        .cases z
       subst z';exact⟨c',oc,rfl,au,ab,vc,tc,ax⟩
    .refine(I.hok b u eb).stay (λd v Z r=>k1 d v ?_ r) (λd r=>S _ _ r) (λd xs r=>S _ _ r) λd _ _ r=>S _ _ r
     rcases Z with rfl | Z
     .exact hb
     .exact λz=>by rw[z,hP] at Z;cases Z
  exact h _ c' _ ctv _ _ (I.un (t':=tk) un hok) S (λb u e n=>k1 b u (nP b n) e) (by show _<=(h'.push _).objs.size;rw[Heap.size_push];omega) (Heap.get?_push_size _ rfl) B
open PySem.W (Ky VKy bg Srt ltK)
def KyV (H:Hp) (v:V):Ky->Prop
 | .s x=>v = .str x
 | .i n=>v = .int n
 | .r l=>∃a,v = .ref a/\H a=some (.tup (l.map V.int))
theorem KyV.same {v:V} (e:am H H') : ∀{k:Ky},KyV H v k->KyV H' v k
 | .s _,h=>h
 | .i _,h=>h
 | .r _,⟨a,h1,h2⟩=>⟨a,h1,e _ _ h2⟩
theorem jA (s:Shared) (us:List Value):(∀b o,s.heap.get? b=some o->((s.heap.push (seqObj "list" #[] 0)).update s.heap.objs.size (Obj.mapSeq (· ++ us.toArray))).get? b=some o)/\s.heap.objs.size<=((s.heap.push (seqObj "list" #[] 0)).update s.heap.objs.size (Obj.mapSeq (· ++ us.toArray))).objs.size:=by
 refine⟨λb o e=>?_,?_⟩
 .have hlt:b < s.heap.objs.size:=Heap.lt_size e
  rw[Heap.get?_update_ne _ _ _ _ (ne_of_lt hlt),Heap.get?_push_ne _ _ _ (ne_of_lt hlt)];exact e
 .rw[Heap.size_update,size_push'];omega
theorem xI (B:s.heap.IsTuple t us.toArray) (hn:us.length<=1000) (z:List Value->Shared->Prop)
  (k : ∀(h':Heap) (tk:Nat),(∀b o,s.heap.get? b=some o->h'.get? b=some o)->s.heap.objs.size<=h'.objs.size->z us { s with heap:=h',toks:=tk }):wpAny (model prog w) A (collect (.ref t)) z E s :=
 lf B hn (k _ s.toks (jA s us).1 (jA s us).2)
theorem Ce (B:s.heap.IsList t us.toArray) (hn:us.length<=1000) (z:List Value->Shared->Prop)
  (k : ∀(h':Heap) (tk:Nat),(∀b o,s.heap.get? b=some o->h'.get? b=some o)->s.heap.objs.size<=h'.objs.size->z us { s with heap:=h',toks:=tk }):wpAny (model prog w) A (collect (.ref t)) z E s :=
 collect_list B (k _ s.toks (jA s us).1 (jA s us).2) (by rw[sizeLine_eq];omega)
theorem xa : ∀{xs:List V} {us:List Value} (i:Nat),aR xs us->i < xs.length->aY (xs.getD i .non) (us.getD i .none)
 | _,_,i,.nil,h=>by simp at h
 | _,_,0,.cons r _,_=>by simpa using r
 | _,_,i+1,.cons _ t,h=>by simpa using xa i t (by simpa using h)
theorem kQ {xs:List V} {us:List Value} (r:aR xs us) : ∀{l:List Nat},(∀i∈l,i < xs.length)->aR (l.map λi=>xs.getD i .non) (l.map λi=>us.getD i .none)
 | [],_=>.nil
 | i :: l,h=>.cons (xa i r (h i mem_cons_self)) (kQ r λj z=>h j (mem_cons_of_mem _ z))
theorem eD (h:bg n p) : ∀i∈p.toList,i < n:=λi hi=>mem_range.mp (h.mem_iff.mp hi)
theorem nI {zs:List α} {d:α} (h:bg zs.length p):(p.toList.map λi=>zs.getD i d).Perm zs:=by
 have e:((range zs.length).map λi=>zs.getD i d)=zs:=by
  apply ext_getElem?
  intro i
  by_cases hi:i < zs.length
  .simp[hi]
  .simp[hi]
 have:=h.map λi=>zs.getD i d
 rwa [e] at this
theorem uX {f:α->Ky} {zs:List α} {d:α} (z:bg zs.length p) (h:Srt (ltK (zs.map f)) p zs.length):((p.toList.map λi=>zs.getD i d).map f).Pairwise Ky.le:=by
 rw[map_map,pairwise_map,List.pairwise_iff_getElem];intro i j hi hj U;have hz:=z.size;have F:i < p.size:=by simpa using hi
 have B:j < p.size:=by simpa using hj
 have q:=h i j U (by omega)
 have e1:p.getD i 0=p[i]:=by simp[Array.getD,F]
 have e2:p.getD j 0=p[j]:=by simp[Array.getD,B]
 have Z:p[i] < zs.length:=eD z _ (by simp)
 have Y:p[j] < zs.length:=eD z _ (by simp)
 unfold ltK at q;rw[e1,e2] at q;simp only[getD_eq_getElem?_getD,List.getElem?_map,List.getElem?_eq_getElem Z,List.getElem?_eq_getElem Y,Option.map_some,getD_some] at q;unfold Ky.le;simp only[Function.comp,Array.getElem_toList,getD_eq_getElem?_getD,List.getElem?_eq_getElem Z,List.getElem?_eq_getElem Y,getD_some];exact q
def Ad:List V->Hp->VK->Prop:=λxs H Q=>∃p,xs=[.ref p]/\∃zs:List (V × Ky),(H p=some (.lst (zs.map (·.1)))\/H p=some (.tup (zs.map (·.1))))/\zs.length < 64/\(∀z∈zs,KyV H z.1 z.2)/\(∃t:Nat,∀z∈zs,z.2.tag=t/\z.2≠.r []) /\
 ∀(q:Addr) (B:List (V × Ky)),H q=none->B.Perm zs->(B.map (·.2)).Pairwise Ky.le->Q (.ref q) (upd H q (.lst (B.map (·.1))))
theorem uU {pins:List (Addr × Obj)} {σ:St} {H:Hp} {s:Shared} (I:Inv X pins σ H s) : ∀{zs:List (V × Ky)} {us:List Value},aR (zs.map (·.1)) us->(∀z∈zs,KyV H z.1 z.2)->Paired (VKy s.heap) us (zs.map (·.2))
 | [],_,r,_=>by cases r;exact .nil
 | (v, k) :: zs,_,r,h=>by
  cases r with
  | cons F Z =>
   refine .cons ?_ (uU I Z λz hz=>h z (mem_cons_of_mem _ hz))
   have B:=h (v,k) mem_cons_self;cases k with
   | s x=>cases (show v = .str x from B);exact F
   | i x=>cases (show v = .int x from B);exact F
   | r l =>
    obtain⟨a,e,U⟩:=B;have e:v = .ref a:=e
    subst e;obtain⟨its,Y,pl,_⟩:=I.tuple (SqT.of U);exact⟨a,its,F,pl,cQ Y⟩
theorem jf:bE X (.builtin "sorted") Ad:=by
 intro pins s σ H xs us Q I r h;obtain⟨p,rfl,zs,hp,hl,hk,⟨t,ht⟩,q⟩:=h;obtain⟨u,rfl,ru⟩:=cI r;cases ru;have Y : ∀its:List Value,aR (zs.map (·.1)) its->(∀Q':List Value->Shared->Prop,(∀(h':Heap) (tk:Nat),(∀b o,s.heap.get? b=some o->h'.get? b=some o)->s.heap.objs.size<=h'.objs.size->Q' its { s with heap:=h',toks:=tk })->wpAny (model X.prog X.w) X.A.in1 (collect (.ref p)) Q' X.xe s) ->
   wpAny (model X.prog X.w) X.A (call (.builtin "sorted") [.ref p]) (EP X pins σ Q) X.xe s:=by
  intro its U ac;have B:=U.length;rw[length_map] at B;refine PySem.W.sorted_ky (t:=t) (ks:=zs.map (·.2)) ac (by omega) (uU I U hk) (λk hm=>?_) λh' a tk c pm Z ad hz aa he=>?_
  .obtain⟨z,hz,rfl⟩:=mem_map.mp hm
   exact ht z hz
  .rw[<- B] at Z ad
   have F:bg zs.length pm:=Z
   have ae:bg (zs.map (·.1)).length pm:=by rw[length_map];exact Z
   have e1:(pm.toList.map λi=>zs.getD i (V.non,Ky.i 0)).map (·.1)=pm.toList.map λi=>(zs.map (·.1)).getD i .non:=by
    rw[map_map];refine map_congr_left λi hi=>?_
    have:=eD F i hi
    simp[getD_eq_getElem?_getD,this]
   have new:be X.prog X.w (upd H a (.lst ((pm.toList.map λi=>zs.getD i (V.non,Ky.i 0)).map (·.1)))) h' a (.lst ((pm.toList.map λi=>zs.getD i (V.non,Ky.i 0)).map (·.1))):=by
    refine⟨?_,_,c,?_,he⟩
    .rw[length_map,length_map,length_toList,F.size];exact le_of_lt (ax (by omega))
    .rw[e1];exact kQ U (eD ae)
   exact⟨.ref a,_,I.laid (t':=tk) aa hz new,rfl,q a _ (I.hok.fresh hz) (nI F) (uX F ad)⟩
 rcases hp with hp | hp
 .obtain⟨its,U,pl,_⟩:=I.list (SqL.of hp)
  have B:=U.length;rw[length_map] at B;exact Y its U λQ' k=>Ce pl.isList (by omega) Q' k
 .obtain⟨its,U,pl,_⟩:=I.tuple (SqT.of hp)
  have B:=U.length;rw[length_map] at B;exact Y its U λQ' k=>xI (show s.heap.IsTuple p its.toArray from pl) (by omega) Q' k
theorem uB {Ev:Value->Value->Prop} {h:Heap} : ∀{zs:List (V × Str)} {us:List Value},aR (zs.map (·.1)) us->(∀z∈zs,∀u,aY z.1 u->∃t,Ev u (.str z.2 t))->∃kvs:List Value,kvs.length=us.length/\Paired (VKy h) kvs (zs.map λz=>Ky.s z.2)/\∀(i:Nat) x k,us[i]? = some x->kvs[i]? = some k->Ev x k
 | [],_,r,_=>by cases r;exact⟨[],rfl,.nil,λi x k e=>by simp at e⟩
 | (v, x) :: zs,_,r,hE=>by
  cases r with
  | cons U F =>
   obtain⟨kvs,a,b,c⟩:=uB (h:=h) F λz Y=>hE z (mem_cons_of_mem _ Y)
   obtain⟨t,B⟩:=hE (v,x) mem_cons_self _ U;refine⟨.str x t :: kvs,by simp[a],.cons ⟨t,rfl⟩ b,λi y k e1 e2=>?_⟩
   cases i with
   | zero =>
    simp only[List.getElem?_cons_zero,Option.some.injEq] at e1 e2;rw[<- e1,<- e2];exact B
   | succ i=>exact c i y k (by simpa using e1) (by simpa using e2)
theorem tX {Q:VK} {zs:List (V × Str)} {q:Str} {body:Expr}
  (I:Inv X pins σ H s) (hr:ci k X.A) (hl:zs.length < 64)
  (aa : ∀Q':List Value->Shared->Prop,(∀(its:List Value) (h':Heap) (tk:Nat),aR (zs.map (·.1)) its->(∀b o,s.heap.get? b=some o->h'.get? b=some o)->s.heap.objs.size<=h'.objs.size->Q' its { s with heap:=h',toks:=tk })->wpAny (model X.prog X.w) X.A.in1 (collect u) Q' X.xe s)
  (ho:s.heap.get? f=some (PySem.W.kla_obj "<lambda>" q params body scope clos pm c' ctv)) (ah:s.heap.CodeRec (.ref c') q)
  (U : ∀u,bindArgs (PySem.W.kla_fn "<lambda>" q params body scope clos pm (.ref c') ctv) ⟨[u],[]⟩=pure [(x,u)]) (hx:scope.names.lookup x=some .local) (hk:scope.kind = .function) (ag:scope.isCoroutine=false) (ad:scope.isGenerator=false) (Y : ∀y∈scope.names,y.2≠.cell)
  (af : ∀z∈zs,∀u,aY z.1 u->∃t,PySem.W.LamEv X.prog X.w q scope clos body x s.heap u (.str z.2 t))
  (h : ∀(a:Addr) (Z:List (V × Str)),H a=none->Z.Perm zs->(Z.map λz=>Ky.s z.2).Pairwise Ky.le->Q (.ref a) (upd H a (.lst (Z.map (·.1))))) :
  wpAny (model X.prog X.w) X.A (call (.builtin "sorted") [u] [(Str.ofString "key",.ref f)]) (EP X pins σ Q) X.xe s:=by
 refine PySem.W.sorted_keyed (t:=0) (ks:=zs.map λz=>Ky.s z.2) (G:=λits=>aR (zs.map (·.1)) its) aa (λk hm=>?_) (λits rv=>?_) λits h' a tk c p rv F ac hz B he=>?_
 .obtain⟨z,_,rfl⟩:=mem_map.mp hm
  exact⟨rfl,λz=>nomatch z⟩
 .have hlen:=rv.length
  rw[length_map] at hlen;obtain⟨kvs,k1,k2,k3⟩:=uB (h:=s.heap) rv af;refine⟨by omega,kvs,k1,k2,λi y k e1 e2 h' tk Q' B hq=>?_⟩
  exact PySem.W.lam_call (s:={ s with heap:=h',toks:=tk }) (B _ _ ho) (ah.keeps B) hr.depth (I.nolimit.keeps B) (U y) hx hk ag ad Y (k3 i y k e1 e2) B hq
 .have hlen:=rv.length
  rw[length_map] at hlen;rw[<- hlen] at F ac;have ae:bg (zs.map (·.1)).length p:=by rw[length_map];exact F
  have e1:(p.toList.map λi=>zs.getD i (V.non,"")).map (·.1)=p.toList.map λi=>(zs.map (·.1)).getD i .non:=by
   rw[map_map];refine map_congr_left λi hi=>?_
   have:=eD F i hi
   simp[getD_eq_getElem?_getD,this]
  have new:be X.prog X.w (upd H a (.lst ((p.toList.map λi=>zs.getD i (V.non,"")).map (·.1)))) h' a (.lst ((p.toList.map λi=>zs.getD i (V.non,"")).map (·.1))):=by
   refine⟨?_,_,c,?_,he⟩
   .rw[length_map,length_map,length_toList,F.size];exact le_of_lt (ax (by omega))
   .rw[e1];exact kQ rv (eD ae)
  exact⟨.ref a,_,I.laid (t':=tk) B hz new,rfl,h a _ (I.hok.fresh hz) (nI F) (uX (f:=λz:V × Str=>Ky.s z.2) F ac)⟩
theorem qR {v:V} (r:aR xs us) (h:atI xs i=some v) : ∃u,atI us i=some u/\aY v u:=by
 unfold atI at h ⊢;rw[<- r.length];obtain⟨j,h1,h2⟩:=Option.bind_eq_some_iff.mp h;obtain⟨u,e,q⟩:=r.get h2;exact⟨u,by rw[h1];exact e,q⟩
def zI (pt:Addr) (q:Str) (i:Int) (te:TE):TE:=λσ H Q=>te σ H λx H1=>∃p,x = .ref p/\∃zs:List (V × Str),H1 p=some (.tup (zs.map (·.1)))/\zs.length < 64/\H1 pt=some (.tab q)/\(∀z∈zs,∃b ys,z.1 = .ref b/\H1 b=some (.tup ys)/\atI ys i=some (.str z.2)) /\
 ∀(H2:Hp) (r:Addr) (B:List (V × Str)),am H1 H2->H2 r=none->B.Perm zs->(B.map λz=>Ky.s z.2).Pairwise Ky.le->Q (.ref r) (upd H2 r (.lst (B.map (·.1))))
theorem Aa {e0:Expr} {p aa kp:Pos} {pt:Addr} {q:Str}
  (hr:ci k X.A) (hg:Gl X "sorted") (hm:X.mg "sorted" = none) (ha:PE X e0 te) (U:X.env.code = .ref c) (hc:codeHdIn X.K c pt=true) (bm:iV X.mg X.base)
  (hq:X.env.qual ++ "<lambda>" = q) (Y:defaultsOf params X.env=([],[])) (ad:closureFor scope X.env=pure clos)
  (B : ∀pm c' ctv u,bindArgs (PySem.W.kla_fn "<lambda>" q params (.Subscript (.Name x p1) (.Constant (.int i) kk p2) p3) scope clos pm (.ref c') ctv) ⟨[u],[]⟩=pure [(x,u)]) (hx:scope.names.lookup x=some .local) (hk:scope.kind = .function) (ai:scope.isCoroutine=false) (Z:scope.isGenerator=false) (F : ∀y∈scope.names,y.2≠.cell)
  (hd:(x ==("__debug__" : Str))=false) (hs : ∀o u,subscripted (.Constant (.int i) kk p2) false o u=operate [o,u] (getItem o u))
  (he:starEach [e0] X.env=[(false,eval e0 X.env)]:=by rfl) :
  PE X (.Call (.Name "sorted" p) [e0] [⟨some "key",.Lambda params (.Subscript (.Name x p1) (.Constant (.int i) kk p2) p3) scope aa,kp⟩] pos) (zI pt q i te):=by
 intro pins s σ H Q I h;refine wpAny_Call_Name_kw (dU I hg hm (by decide+kernel:bootBuiltins "sorted" = some (.builtin "sorted")) ?_)
 refine callWith_kw ?_ (by show backTo pos (starEach [e0] X.env)=_;rw[he];rfl) (by rw[he];rfl)
 rw[he];refine Calls.spliced_cons (thn (ha pins s σ H _ I h) λu s1 ⟨v,H1,I1,r1,p0,ev,zs,hp,hl,hP,hz,hQ⟩=>Calls.spliced_nil ?_)
 subst ev;cases r1;refine kws_cons (tf (q:=q) I1 hP hq U hc bm Y ad λf c' pm ctv s2 H2 I2 sm _ _ ho aj=>kws_nil ?_)
 obtain⟨its,rv,pl,_⟩:=I2.tuple (SqT.of (sm _ _ hp));have ac:=rv.length;rw[length_map] at ac;refine tX (x:=x) (zs:=zs) I2 hr hl (λQ' k=>xI (show s2.heap.IsTuple p0 its.toArray from pl) (by omega) Q' λh' tk=>k its h' tk rv) ho aj (B pm c' ctv) hx hk ai Z F (λz an u ru=>?_) λa ap hf ah ae=>hQ H2 a ap sm hf ah ae
 obtain⟨b,ys,ez,hb,ag⟩:=hz z an;rw[ez] at ru;cases ru;obtain⟨aq,rj,pj,ao⟩:=I2.tuple (SqT.of (sm _ _ hb));obtain⟨w',af,t,ak⟩:=qR rj ag;subst ak;exact⟨t,PySem.W.ev_item hk hx pj (by rw[<- rj.length];exact ao) af hd hs⟩
def zX (pt:Addr) (q:Str) (i:Int) (j:Nat) (ta:TA):TE:=λσ H Q=>ta σ H λvs H1=>∃n:Int,vs=[.int n]/\∃(U:Addr) (xs:List V) (F:Addr) (ys:List Str),σ[j]? = some (some (.ref U))/\H1 U=some (.tup xs)/\atI xs i=some (.ref F)/\H1 F=some (.tup (ys.map V.str))/\n=ys.length/\ys.length < 64/\H1 pt=some (.tab q) /\
 ∀(H2:Hp) (r:Addr) (B:List (Nat × Str)),am H1 H2->H2 r=none->B.Perm ((range ys.length).zip ys)->(B.map λz=>Ky.s z.2).Pairwise Ky.le->Q (.ref r) (upd H2 r (.lst (B.map λz=>V.int z.1)))
theorem Ae {ta:TA} {y:Str} {p p' p4 p5 ak kp:Pos} {cy pt:Addr} {q:Str}
    (hr:ci k X.A) (a7:X.calm=true) (hg:Gl X "sorted") (hm:X.mg "sorted" = none) (aF:Gl X "range") (az:X.mg "range" = none) (ha:PA X [e1] ta) (Z:X.env.code = .ref c) (hc:codeHdIn X.K c pt=true) (bm:iV X.mg X.base)
    (hq:X.env.qual ++ "<lambda>" = q) (ae:defaultsOf params X.env=([],[])) (au:closureFor scope X.env=pure clos)
    (hN:X.N[j]? = some y) (hv:X.env.kindOf y=some .cell) (aB:X.env.cells.lookup y=some cy) (an:clos.lookup y=some cy)
    (ac : ∀pm c' ctv u,bindArgs (PySem.W.kla_fn "<lambda>" q params (.Subscript (.Subscript (.Name y p1) (.Constant (.int i) kk p2) p3) (.Name x p4) p5) scope clos pm (.ref c') ctv) ⟨[u],[]⟩=pure [(x,u)]) (hx:scope.names.lookup x=some .local) (hy:scope.names.lookup y=some .free) (hk:scope.kind = .function) (a3:scope.isCoroutine=false) (ao:scope.isGenerator=false) (ad : ∀y∈scope.names,y.2≠.cell)
    (hd:(x ==("__debug__" : Str))=false) (av:(y ==("__debug__" : Str))=false) (ax:(y ==("__classdict__" : Str))=false) (hs : ∀o u,subscripted (.Constant (.int i) kk p2) false o u=operate [o,u] (getItem o u)) (aw : ∀o u,subscripted (.Name x p4) false o u=operate [o,u] (getItem o u))
    (he:starEach [e1] X.env=[(false,eval e1 X.env)]:=by rfl) :
    PE X (.Call (.Name "sorted" p) [.Call (.Name "range" p') [e1] [] pos2] [⟨some "key",.Lambda params (.Subscript (.Subscript (.Name y p1) (.Constant (.int i) kk p2) p3) (.Name x p4) p5) scope ak,kp⟩] pos) (zX pt q i j ta):=by
  intro pins s σ H Q I h;refine wpAny_Call_Name_kw (dU I hg hm (by decide+kernel:bootBuiltins "sorted" = some (.builtin "sorted")) ?_)
  refine callWith_kw (Calls.spliced_cons ?_) rfl rfl
  refine wpAny_Call_Name_kw (dU I aF az boot_range ?_)
  refine PyProof.Rows.callWith_type1 (thn (ha pos2 pins s σ H _ I h) λus s1 F=>?_) he rfl
  obtain⟨vs,H1,I1,r1,n,ev,pw,xs,pn,ys,a5,ar,a1,a4,hn,hl,hP,hQ⟩:=F;subst ev;obtain⟨u,rfl,ru⟩:=cI r1;obtain⟨t,rfl⟩:=ru;refine call_range_1 (Calls.spliced_nil ?_)
  have hsz:Builtin.Range.rangeSize 0 n 1=((ys.length:Nat):Int):=by rw[rangeSize_one];split <;> omega
  refine kws_cons (tf (q:=q) (I1.kept λb o e=>Heap.get?_push_of_some _ e) hP hq Z hc bm ae au λf c' pm ctv s2 H2 I2 sm aI _ ho aj=>kws_nil ?_)
  have a8:=aI _ _ (IsRange.new ..) (I1.hok.fresh (le_refl _));obtain⟨zs,B⟩ : ∃zs:List (V × Str),zs=((range ys.length).zip ys).map λz=>(V.int z.1,z.2):=⟨_,rfl⟩
  have aK:zs.length=ys.length:=by rw[B];simp
  have a2:zs.map (·.1)=jG 0 ys.length:=by
    rw[B,map_map];unfold jG;have:((λx:V × Str=>x.1) ∘ λz:Nat × Str=>(V.int z.1,z.2))=(λn:Nat=>V.int n) ∘ Prod.fst:=rfl
    rw[this,<- map_map,map_fst_zip (by simp)]
    exact map_congr_left λi _=>by simp
  obtain⟨m,_,af⟩:=I2.loc;obtain⟨uw,aC,lw⟩:=af j y (.ref pw) hN a5 (.inr (.inl hv));cases aC;have Y:s2.heap.IsCell cy (some (.ref pw)):=by
    rcases lw with⟨z,_⟩ | ⟨_,c0,z,hz⟩
    . rw[hv] at z;cases z
    . rw[aB] at z;cases z;exact hz
  obtain⟨its,rv,pl,hz⟩:=I2.tuple (SqT.of (sm _ _ ar));obtain⟨ub,aE,aH⟩:=qR rv a1;cases aH;obtain⟨aJ,rj,pj,aG⟩:=I2.tuple (SqT.of (sm _ _ a4));exact
    tX (x := x) (zs:=zs) I2 hr (by omega) (λQ' k=>oU (A:=X.A.in1) (I2.ok.hd a7) a8 (small_one (by decide) (by decide) (by omega) (by omega)) hsz (by omega) λh' tk acc hk aq ai=>k acc.toList h' tk (by rw[a2];exact sM ai) hk (le_of_lt aq)) ho aj (ac pm c' ctv) hx hk a3 ao ad (λz U u ru=>by
      rw[B] at U;obtain⟨z',a9,rfl⟩:=mem_map.mp U;obtain⟨t',rfl⟩:=ru;obtain⟨k',ay,aA⟩:=List.getElem_of_mem a9;have aD:k' < ys.length:=by simpa using ay
      have ez:z'=(k',ys[k']):=by rw[<- aA];simp
      subst ez;have ag:atI (ys.map V.str) ((k':Nat):Int)=some (.str ys[k']):=by
        unfold atI ixN;simp[aD]
      obtain⟨uk,a6,t2,rfl⟩:=qR rj ag;exact⟨t2,PySem.W.ev_place hk hx hy an Y pl (by rw[<- rv.length];exact hz) aE pj (by rw[<- rj.length];exact aG) a6 hd av ax hs aw⟩) λa aa hf ah a0=>by
      have ap:(aa.map λz=>((match z.1 with | .int n=>n.toNat | _=>0:Nat),z.2)).Perm ((range ys.length).zip ys):=by
        have:=ah.map λz:V × Str=>((match z.1 with | .int n=>n.toNat | _=>0:Nat),z.2)
        rw[B,map_map] at this;have e:((λz:V × Str=>((match z.1 with | .int n=>n.toNat | _=>0:Nat),z.2)) ∘ λz:Nat × Str=>(V.int z.1,z.2))=id:=by
          funext z
          simp
        rw[e,map_id] at this;exact this
      have:=hQ H2 a _ sm hf ap (by rw[map_map];exact a0)
      rw[map_map] at this;have e2:aa.map ((λz:Nat × Str=>V.int z.1) ∘ λz:V × Str=>((match z.1 with | .int n=>n.toNat | _=>0:Nat),z.2))=aa.map (·.1):=by
        refine map_congr_left λz U=>?_
        have:=ah.mem_iff.mp U
        rw[B] at this;obtain⟨z',_,rfl⟩:=mem_map.mp this;simp
      rw[e2] at this;exact this
end L2
namespace PySem.W
open PySem PySem.Calls PyProof.Rows
def leB:List Int->List Int->Bool->Bool
 | a :: l,b :: m,f=>if a == b then leB l m f else decide (a<=b)
 | _,_,f=>f
theorem xA : ∀(l m:List Int) (f:Bool),leB l m f = !(kc m l (!f))
 | [],m,f=>by cases m <;> simp[leB,kc]
 | a :: l,[],f=>by simp[leB,kc]
 | a :: l,b :: m,f=>by
  have B:=xA l m f;unfold leB kc
  by_cases h:a=b
  .subst h
   rw[if_pos (by simp),if_pos (by simp),B]
  .rw[if_neg (by simpa using h),if_neg (by simpa using λz=>h z.symm)]
   by_cases g:a<=b
   .rw[decide_eq_true g,decide_eq_false (by omega)];rfl
   .rw[decide_eq_false g,decide_eq_true (by omega)];rfl
theorem EQ (l m:List Int):leB l m (decide (l.length<=m.length)) = !decide (m < l):=by
 rw[xA,<- qK]
 congr 2
 by_cases h:l.length<=m.length
 .rw[decide_eq_true h,decide_eq_false (by omega)];rfl
 .rw[decide_eq_false h,decide_eq_true (by omega)];rfl
theorem pv {vs:List Value} {l m:List Int} {P:PySem.Fin->Shared->Prop} (hx:IsTup s.heap a us.toArray) (hy:IsTup s.heap b vs.toArray) (hu:IntsAre us l) (hv:IntsAre vs m) (h:P (.done (.ret (.bool (!decide (m < l))))) s) :
  wpAny (model prog w) A (Builtin.«tuple.__le__» ⟨[.ref a,.ref b],[]⟩) P E s:=by
 have af:=hy.typeIs;obtain⟨oa,aa,_,na,ad⟩:=hx;obtain⟨ob,ae,_,nb,ac⟩:=hy
 show wpAny _ _ (isInstance (.ref b) (.type "tuple") >>= _) _ _ s
 refine wpAny_bind (wpAny_isInstance af isSubtype_tuple_tuple ?_)
 simp only[Bool.not_true,Bool.false_eq_true,if_false];refine wpAny_bind (wpAny_tupleItemsOf aa ad ?_)
 refine wpAny_bind (wpAny_tupleItemsOf ae ac ?_)
 refine wpAny_bind ?_
 refine wpAny_forIn_list _
  (λrest r s'=>r.1=none/\s'=s/\∃B z Z F,rest=List.zip B z/\IntsAre B Z/\IntsAre z F/\leB Z F (decide (l.length<=m.length)) = !decide (m < l))
  _ ?_ ?_ _ _ ⟨rfl,rfl,us,vs,l,m,by simp,hu,hv,EQ l m⟩
 .rintro⟨x,y⟩ rest r s' ⟨hr,rfl,B,z,Z,F,hz,hx',hy',hdec⟩
  cases hx' with
  | nil=>simp at hz
  | cons p t U =>
   cases hy' with
   | nil=>simp at hz
   | cons q t' Y =>
    simp only[List.zip_cons_cons,List.cons.injEq,Prod.mk.injEq] at hz;obtain⟨⟨rfl,rfl⟩,rfl⟩:=hz;refine wpAny_bind (wpAny_eqBool_int ?_)
    unfold leB at hdec
    by_cases hk:p=q
    .subst hk
     rw[if_pos (by simp)] at hdec
     have e:(p == p)=true:=by simp
     rw[e];simp only[Bool.not_true,Bool.false_eq_true,if_false];exact wpAny_pure ⟨rfl,rfl,_,_,_,_,rfl,U,Y,hdec⟩
    .rw[if_neg (by simpa using hk)] at hdec
     have e:(p == q)=false:=by simpa using hk
     rw[e];simp only[Bool.not_false,if_true];rw[<- hdec] at h;refine wpAny_bind (wpAny_rule ?_)
     refine wpAny_bind (show wpAny (model prog w) A (compareOp .LtE (.int p t) (.int q t')) _ E _ from le_int ?_)
     exact wpAny_bind (wpAny_pure (wpAny_pure (wpAny_pure h)))
 .rintro⟨r1,r2⟩ s' ⟨hr,rfl,B,z,Z,F,hz,hx',hy',hdec⟩
  simp only at hr;subst hr;refine wpAny_pure ?_
  have e:leB Z F (decide (l.length<=m.length))=decide (l.length<=m.length):=by
   cases hx' with
   | nil=>cases F <;> simp[leB]
   | cons _ _ _ =>
    cases hy' with
    | nil=>simp[leB]
    | cons _ _ _=>simp at hz
  rw[<- hdec,e] at h;have e1:us.toArray.size=l.length:=by rw[size_toArray,hu.length]
  have e2:vs.toArray.size=m.length:=by rw[size_toArray,hv.length]
  rw[e1,e2];exact h
theorem le_rows {vs:List Value} {l m:List Int} (Y:A.units < cLine) (z:IsTup s.heap a us.toArray) (B:IsTup s.heap b vs.toArray) (Z:IntsAre us l) (U:IntsAre vs m) (h:Q (.bool (!decide (m < l))) s) :
  wpAny (model prog w) A (compareOp .LtE (.ref a) (.ref b)) Q E s :=
 wpAny_richCompare_same_room (op:=.LtE) z.typeIs B.typeIs F.slot_tuple_le
  (wpAny_call_entry F.slot_tuple_le z.typeIs F.entry_tuple_le (pv z B Z U ⟨_,rfl,(λe=>nomatch e),h⟩) (F.args_tuple_le_2 _ _)) Y
end PySem.W
namespace L2
open PySem PySem.Spec PyProof.Rows
open PySem.W (Ky VKy bg Srt ltK)
def GK:R2:=λx y H Q=>∃a b:Ky,KyV H x a/\KyV H y b/\a.tag=b.tag/\Q (.bl (!(b.lt a))) H
theorem EC (hu:X.A.units+1 < cLine):OpR X (compareOp .LtE) GK:=by
 intro pins s σ H x y v u Q I U Z h;obtain⟨a,b,F,Y,B,q⟩:=h;cases a with
 | s p =>
  cases b <;> first | cases B | skip
  cases (show x = .str p from F)
  rename_i z
  cases (show y = .str z from Y)
  exact vR pins s σ H _ _ v u Q I U Z ⟨p,rfl,z,rfl,q⟩
 | i p =>
  cases b <;> first | cases B | skip
  cases (show x = .int p from F)
  rename_i z
  cases (show y = .int z from Y)
  obtain⟨t,rfl⟩:=U;obtain⟨t',rfl⟩:=Z;refine le_int ⟨.bl _,H,I,rfl,?_⟩
  have e:decide (p<=z) = !(Ky.i z).lt (Ky.i p):=by
   show _ = !decide (z < p)
   by_cases g:p<=z
   .rw[decide_eq_true g,decide_eq_false (by omega)];rfl
   .rw[decide_eq_false g,decide_eq_true (by omega)];rfl
  rw[e];exact q
 | r l =>
  cases b <;> first | cases B | skip
  obtain⟨c,rfl,hc⟩:=F;obtain⟨d,rfl,hd⟩:=Y;cases U;cases Z;obtain⟨its,rv,pl,_⟩:=I.tuple (SqT.of hc);obtain⟨aa,rj,pj,_⟩:=I.tuple (SqT.of hd);exact PySem.W.le_rows (by omega) pl pj (cQ rv) (cQ rj) ⟨.bl _,H,I,rfl,q⟩
def lq (tabs:List (Addr × Addr × Str)) (H:Hp):Prop:=∀t∈tabs,H t.2.1=some (.tab t.2.2)
theorem Ai {α:Type} {f:α->Addr} {t t':α} : ∀{l:List α},(l.map f).Nodup->t∈l->t'∈l->f t=f t'->t=t'
 | [],_,h,_,_=>by simp at h
 | x :: l,hn,h,h',e=>by
  have hn:(f x :: l.map f).Nodup:=hn
  obtain⟨h1,h2⟩:=nodup_cons.mp hn;rcases mem_cons.mp h with rfl | h
  .rcases mem_cons.mp h' with rfl | h'
   .rfl
   .exact absurd (mem_map.mpr ⟨t',h',e.symm⟩) h1
  .rcases mem_cons.mp h' with h' | h'
   .exact absurd (mem_map.mpr ⟨t,h,by rw[<- h'];exact e⟩:f x∈l.map f) h1
   .exact Ai h2 h h' e
theorem yG {vs:List Value} {tabs:List (Addr × Addr × Str)}
  (KX:K.In s₁.heap) (ae:s₁.heap.Ns mainGlobals mg) (Z:s₁.heap.Ns builtinsNs mb) (an : ∀x:Str,x ≠ "__name__" -> mb x=bootBuiltins x) (ag:s₁.heap.NoLimit) (hg:s₁.gens = #[]) (ay:iV mg s₁.heap)
  (hT : ∀t∈tabs,s₁.heap.get? t.2.1=some (tabObj #[])) (hC : ∀t∈tabs,codeHdIn K t.1 t.2.1=true) (av : ∀t∈tabs,K.lookup t.2.1=none) (ar:(tabs.map (·.2.1)).Nodup)
  (ha:s₁.heap.get? a=some { cls:=.type "list",data:=.seq vs.toArray }) (hi:IntsAre vs ns) (hl:ns.length<=sizeLine) (hr:ci k callerA)
  (F : ∀base:Heap,K.In base->base.Ns mainGlobals mg->iV mg base->ig P w K mg base CX0 k fa fd [x] sp) (ad : ∀(s:Shared) (u:Value),BindsTo s fd ⟨[u],[]⟩ [(x,u)])
  (ap : ∀H:Hp,lq tabs H->SqL K H a (ns.map V.int)->sp [.ref a] H (λv H'=>v = .bl true/\lq tabs H') λ_ _ _=>False) :
  codeAny (model P w) callerA (.call (.ref fa) ⟨[.ref a],[]⟩) (λr s'=>r = .ok (.ret (.bool true))/\OldK s₁.heap s'.heap/\s'.os=s₁.os/\AllBare s'.gens) s₁:=by
 have rv:=iB hi;have ah:=hi.length;have ao : ∀t∈tabs,t.2.1≠a:=λt U z=>by
  have:=hT t U
  rw[z,ha] at this;cases this
 obtain⟨S,hS1,hS2⟩ : ∃S:Hp,(∀b u,S b=some u->b=a/\K.lookup a=none/\u = .frz { cls:=.type "list",data:=.seq vs.toArray } (.lst (ns.map V.int)))/\∀H:Hp,(∀b u,S b=some u->H b=some u)->SqL K H a (ns.map V.int):=by
  cases hk:K.lookup a with
  | some o =>
   have e:=KX a o hk;rw[ha] at e;cases e;refine⟨λ_=>none,λb u z=>(nomatch (show(none:Option HO)=some u from z)),λH _=>?_⟩
   exact .inr ⟨_,vs.toArray,_,hk,rfl,rfl,rfl,by rw[size_toArray,ah];exact hl,by simpa using rv⟩
  | none =>
   refine⟨λb=>if b=a then some (.frz { cls:=.type "list",data:=.seq vs.toArray } (.lst (ns.map V.int))) else none,λb u z=>?_,λH z=>.inl (.inr ⟨_,z a _ (if_pos rfl)⟩)⟩
   by_cases Z:b=a
   .have z':=(if_pos Z).symm.trans z
    cases z';exact⟨Z,rfl,rfl⟩
   .have z':=(if_neg Z).symm.trans z
    cases z'
 obtain⟨H,Y,aw,ai⟩ : ∃H:Hp,(∀b u,H b=some u->S b=some u\/∃t∈tabs,b=t.2.1/\u = .tab t.2.2)/\lq tabs H/\∀b u,S b=some u->H b=some u:=by
  refine⟨λb=>match tabs.find? (λt=>t.2.1 == b) with | some t=>some (.tab t.2.2) | none=>S b,λb u z=>?_,λt U=>?_,λb u z=>?_⟩
  .cases q:tabs.find? (λt=>t.2.1 == b) with
   | some t =>
    simp only[q] at z;have e:=find?_some q;exact .inr ⟨t,mem_of_find?_eq_some q,(eq_of_beq e).symm,(Option.some.inj z).symm⟩
   | none =>
    simp only[q] at z;exact .inl z
  .cases q:tabs.find? (λt'=>t'.2.1 == t.2.1) with
   | some t' =>
    simp only[q];have e0:=find?_some q;have e:t'.2.1=t.2.1:=by simpa using e0
    have:t'=t:=by
     have hm:=mem_of_find?_eq_some q;exact Ai ar hm U e
    rw[this]
   | none =>
    have:=find?_eq_none.mp q t U
    simp at this
  .have Z:=(hS1 b u z).1
   cases q:tabs.find? (λt=>t.2.1 == b) with
   | some t =>
    have e0:=find?_some q;have e:t.2.1=b:=by simpa using e0
    exact absurd (e.trans Z) (ao t (mem_of_find?_eq_some q))
   | none =>
    simp only[q];exact z
 have ak:HOk P w H s₁.heap:=λb u z=>by
  rcases Y b u z with z | ⟨t,U,rfl,rfl⟩
  .obtain⟨rfl,_,rfl⟩:=hS1 b u z
   exact⟨ha,by rw[length_map];exact hl,vs,_,rv,ha⟩
  .exact⟨#[],hT t U,trivial,λpos cv z=>by simp[codeAmong] at z⟩
 have B : ∀{b:Addr} {o:Obj},s₁.heap.get? b=some o->H b=none->(pd s₁.heap H).get? b=some o:=λe n=>A0 e n
 have ax : ∀{b:Addr} {o:Obj},s₁.heap.get? b=some o->o.cls≠.type "list" -> o.cls≠.none->H b=none:=λ{b o} e d d2=>by
  cases q:H b with
  | none=>rfl
  | some u =>
   rcases Y b u q with z | ⟨t,U,rfl,rfl⟩
   .obtain⟨rfl,_,_⟩:=hS1 b u z
    rw[ha] at e;cases e;exact absurd rfl d
   .rw[hT t U] at e;cases e
    exact absurd rfl d2
 have aq : ∀{b:Addr} {o:Obj} {es:Array DictEntry} {ep:Nat},s₁.heap.get? b=some o->o.data = .dict es ep->H b=none:=λ{b o es ep} e d=>by
  cases q:H b with
  | none=>rfl
  | some u =>
   rcases Y b u q with z | ⟨t,U,rfl,rfl⟩
   .obtain⟨rfl,_,_⟩:=hS1 b u z
    rw[ha] at e;cases e;have d':Data.seq vs.toArray _=Data.dict es ep:=d
    cases d'
   .rw[hT t U] at e;cases e
    have d':Data.fields #[]=Data.dict es ep:=d
    cases d'
 have aa : ∀{b:Addr} {m:Str->Option Value},s₁.heap.Ns b m->(pd s₁.heap H).Ns b m:=λ{b m} zq34=>by obtain⟨o,es,ep,e,d,r⟩:=zq34;exact(⟨o,es,ep,B e (aq e d),d,r⟩)
 have af:K.In (pd s₁.heap H):=λb o e=>B (KX b o e) (by
  cases q:H b with
  | none=>rfl
  | some u =>
   rcases Y b u q with z | ⟨t,U,rfl,rfl⟩
   .obtain⟨rfl,z2,_⟩:=hS1 b u z
    rw[z2] at e;cases e
   .rw[av t U] at e;cases e)
 have au:iV mg (pd s₁.heap H):=by
  obtain⟨bm,ob,h1,h2,h3,h4,h5,h6⟩:=ay;exact⟨bm,ob,h1,h2,B h3 (ax h3 (by rw[h4];decide) (by rw[h4];decide)),h4,h5,h6⟩
 have hM:Mod K mg (pd s₁.heap H):=⟨af,aa ae,⟨mb,aa Z,an⟩,let ⟨mc,h1,h2⟩:=ag;⟨mc,aa h1,h2⟩⟩
 have e0:Bk P w K mg (pd s₁.heap H) callerA [] s₁ H:=⟨rfl,hM,λb o e=>Bo e,le_of_eq (xW _ _),trivial,λb Z=>absurd (show b∈([]:List Addr) from Z) (by simp),ak,.of_eq hg⟩
 refine codeAny_mono ((F _ af (aa ae) au).run callerA [] s₁ H ⟨[.ref a],[]⟩ [.ref a] [.ref a] _ _ hr e0 (ad s₁ (.ref a)) (.cons rfl .nil) (ap H aw (hS2 H ai))) λr s' h=>?_
 cases r with
 | error e=>exact h.elim
 | ok fl =>
  cases fl with
  | next=>exact False.elim h
  | brk=>exact False.elim h
  | cont=>exact False.elim h
  | ret u =>
   obtain⟨v,H',os,aj,un,ac,r',q⟩:=h;obtain⟨q',qT⟩:=q;subst q';obtain rfl:u=Value.bool true:=r'
   have frz : ∀b u,S b=some u->∀o,s₁.heap.get? b=some o->s'.heap.get? b=some o:=λb u z o e=>by
    obtain⟨rfl,_,rfl⟩:=hS1 b u z;have z2:=un.frzs b _ _ (ai _ _ z);obtain⟨e2,_⟩:=ac b _ z2;rw[ha] at e;cases e;exact e2
   refine⟨rfl,⟨λb o e=>?_,λb o e=>un.there b o e (by simp)⟩,os,aj⟩
   cases q:H b with
   | none=>exact .inl (un.keep b o e q (by intro z;exact absurd (show b∈([]:List Addr) from z) (by simp)) (by simp))
   | some u =>
    rcases Y b u q with z | ⟨t,U,rfl,rfl⟩
    .exact .inl (frz b u z o e)
    .obtain⟨ps,e2,_⟩:=ac _ _ (qT t U)
     rw[hT t U] at e;cases e;exact .inr (.inl ⟨((codeHd_of_K KX (hC t U)).tab (hT t U)).isCodeTable,rfl,#[],ps,rfl,by rw[Array.empty_append];exact e2⟩)
theorem A7 {l:PySem.W.OpenLaw} {d:DefRec} {K:Params->PySem.W.Frag} {sp:World->Sp} {tabs:List (Addr × Addr × Str)}
  (hn:l.most=some n) (af:n<=sizeLine) (Z:d.params.defaults=[]) (hr:ci k callerA)
  (hY : ∀(w:World) (h:Heap),YP w h->(K w.params).In h) (hT : ∀(w:World) (h:Heap),YP w h->∀t∈tabs,h.get? t.2.1=some (tabObj #[]))
  (hC : ∀w:World,∀t∈tabs,codeHdIn (K w.params) t.1 t.2.1=true) (ad : ∀w:World,∀t∈tabs,(K w.params).lookup t.2.1=none) (ae:(tabs.map (·.2.1)).Nodup)
  (F : ∀(w:World) (mg:Str->Option Value) (fa:Addr) (h:Heap),(K w.params).In h->h.Ns mainGlobals mg->mg d.name=some (.ref fa) ->
   ∃ fd:FuncData,(∀(s:Shared) (u:Value),BindsTo s fd ⟨[u],[]⟩ [(x,u)]) /\
    ∀base:Heap,(K w.params).In base->base.Ns mainGlobals mg->iV mg base->ig l.prog w (K w.params) mg base CX0 k fa fd [x] (sp w))
  (ac : ∀(w:World) (H:Hp) (a:Addr) (ns:List Int),ns.length<=n->lq tabs H->SqL (K w.params) H a (ns.map V.int)->sp w [.ref a] H (λv H'=>v = .bl true/\lq tabs H') λ_ _ _=>False) :
  PySem.W.WalkO q loose XP YP l.row.toRowW d [] (λf vs=>PySem.call f vs):=by
 refine Att.attach_call hn Z λw ag s₁ mg mb fa o pm cd doc a vs ns G Y ho hd ah aa U B z hg=>?_
 have KX:=hY w _ Y;obtain⟨fd,hb,hF⟩:=F w mg fa _ KX G.T.g aa;exact yG KX G.T.g G.T.b G.T.builtins G.T.nolimit hg G.T.bmain (hT w _ Y) (hC w) (ad w) ae U B (le_trans z af) hr hF hb λH hO hS=>ac w H a ns z hO hS
def re (ta:TA):TE:=λσ H Q=>ta σ H λvs H1=>∃j:Int,vs=[.int j]/\0<=j/\j<=1000/\∀l,H1 l=none->Q (.ref l) (upd H1 l (.lst (jG 0 j.toNat)))
section
variable {ta:TA} {p:Pos}
theorem uC (hc:X.calm=true) (hg:Gl X "list") (hm:X.mg "list" = none) (aa:Gl X "range") (U:X.mg "range" = none) (ha:PA X [e1] ta) (hs:starEach [e1] X.env=[(false,eval e1 X.env)]:=by rfl) :
  PE X (.Call (.Name "list" p) [.Call (.Name "range" p2) [e1] [] pos2] [] pos) (re ta):=by
 intro pins s σ H Q I h;refine wpAny_Call_Name_kw (dU I hg hm (by decide+kernel:bootBuiltins "list" = some (.type "list")) ?_)
 refine PyProof.Rows.callWith_type1 (Calls.spliced_cons ?_) rfl rfl
 refine wpAny_Call_Name_kw (dU I aa U boot_range ?_)
 refine PyProof.Rows.callWith_type1 (thn (ha pos2 pins s σ H _ I h) λus B z=>?_) hs rfl
 obtain⟨vs,H1,I1,r1,q1⟩:=z;obtain⟨j,e,q1,q2,q⟩:=q1;subst e;obtain⟨u,rfl,ru⟩:=cI r1;obtain⟨t,rfl⟩:=ru;refine call_range_1 ?_
 refine Calls.spliced_nil ?_
 have hsz:Builtin.Range.rangeSize 0 j 1=((j.toNat:Nat):Int):=by rw[rangeSize_one];split <;> omega
 refine call_list_range (I.ok.hd hc) (IsRange.new ..) (small_one (by decide) (by decide) (by omega) (by omega)) hsz (by omega) λh' tk acc c hk Z F=>?_
 obtain⟨h1,ac⟩ : ∃h1:Heap,h1=B.heap.push { cls:=.type "range",data:=.fields #[.int 0 B.toks,.int j t,.int 1 (B.toks+1)] }:=⟨_,rfl⟩;have Y : ∀b o,B.heap.get? b=some o->h'.get? b=some o:=λb o e=>hk b o (Heap.get?_push_of_some _ e)
 have hz:B.heap.objs.size<=(B.heap.push { cls:=.type "range",data:=.fields #[.int 0 B.toks,.int j t,.int 1 (B.toks+1)] }).objs.size:=by rw[Heap.size_push];omega
 exact⟨.ref _,_,I1.laid (t':=tk) Y hz (show be X.prog X.w _ _ _ (.lst (jG 0 j.toNat)) from⟨by rw[aJ];exact le_of_lt (ax (by omega)),acc.toList,c,sM F,by rw[toArray_toList];exact Z⟩),rfl,q _ (I1.hok.fresh hz)⟩
end
end L2
namespace PySem
open L2 PyProof.Rows PySem.Calls
def b01 (b:Bool):Int:=if b then 1 else 0
theorem uA {b:Bool} {Q:Int->Shared->Prop} (h:Q (hashInt (b01 b)) { s with toks:=s.toks+1 }):wpAny (model prog w) A (pyHash (.bool b)) Q E s:=by
 have B:s.TypeIs (.bool b) "bool" := rfl
 show wpAny _ _ (pyHashByItsType (.bool b)) Q E s
 unfold pyHashByItsType;refine wpAny_bind ?_
 rw[cRoomFor,if_neg (by rw[show[Value.bool b].any Value.onHeap=false from rfl];exact Bool.false_ne_true)]
 refine wpAny_pure (wpAny_bind (wpAny_specialOf B PySem.F.slot_bool_hash.lookup ?_))
 refine wpAny_ite_split (λz=>by cases z) λ_=>?_
 refine wpAny_bind (wpAny_specialOf B PySem.F.slot_bool_hash.lookup ?_)
 refine wpAny_ite_split (λz=>by cases z) λ_=>?_
 refine wpAny_bind (wpAny_callSpecialIfBoundUnlessNone?_slot B PySem.F.slot_bool_hash (wpAny_call_entry PySem.F.slot_bool_hash B PySem.F.entry_int_hash ?_ (PySem.F.args_int_hash_1 _)))
 have U:=rawHash_range (b01 b);cases b with
 | true =>
  refine(show wpAny _ _ (do ret (<- mkInt (rawHash 1))) _ _ s from wpAny_ret_mkInt ?_)
  show wpAny _ _ (if (decide (-(2:Int) ^ 63<=rawHash 1) && decide (rawHash 1 < 2 ^ 63))=true then _ else _) Q E _
  rw[if_pos (by decide)]
  exact wpAny_pure h
 | false =>
  refine(show wpAny _ _ (do ret (<- mkInt (rawHash 0))) _ _ s from wpAny_ret_mkInt ?_)
  show wpAny _ _ (if (decide (-(2:Int) ^ 63<=rawHash 0) && decide (rawHash 0 < 2 ^ 63))=true then _ else _) Q E _
  rw[if_pos (by decide)]
  exact wpAny_pure h
def oK:Option Key->Value->Bool
 | none,.none=>true
 | some (.inl i),.bool b=>b01 b == i
 | some k,v=>kZ k v
 | _,_=>false
theorem cp {k:Option Key} (h:oK k v=true):(k=none/\v = .none)\/(∃i t,k=some (.inl i)/\v = .int i t)\/(∃x t,k=some (.inr x)/\v = .str x t)\/∃b,k=some (.inl (b01 b))/\v = .bool b:=by
 cases k with
 | none=>cases v <;> first | exact .inl ⟨rfl,rfl⟩ | cases h
 | some k =>
  have z:kZ k v=true->(some k=none/\v = .none)\/(∃i t,some k=some (.inl i)/\v = .int i t)\/(∃x t,some k=some (.inr x)/\v = .str x t)\/∃b,some k=some (.inl (b01 b))/\v = .bool b:=λh=>by
   rcases bA h with⟨i,t,rfl,rfl⟩ | ⟨x,t,rfl,rfl⟩
   .exact .inr (.inl ⟨i,t,rfl,rfl⟩)
   .exact .inr (.inr (.inl ⟨x,t,rfl,rfl⟩))
  cases v with
  | bool b =>
   cases k with
   | inl i=>exact .inr (.inr (.inr ⟨b,by rw[eq_of_beq (show(b01 b == i)=true from h)],rfl⟩))
   | inr x=>exact z h
  | _=>exact z (by cases k <;> exact h)
def HG (w:World):Option Key->Int | none=>hJ | some k=>Gj w k
theorem GW {a b:Option Key} {Q:Bool->Shared->Prop} (F:oK a u=true) (B:oK b v=true) (h:Q (decide (a=b)) s):wpAny (model prog w) A (eqBool u v) Q E s:=by
 have z : ∀i j:Int,decide (some (Sum.inl i:Key)=some (.inl j))=(i == j):=λi j=>by rw[Bool.eq_iff_iff];simp
 rcases cp F with⟨rfl,rfl⟩ | ⟨i,t,rfl,rfl⟩ | ⟨x,t,rfl,rfl⟩ | ⟨c,rfl,rfl⟩ <;> rcases cp B with⟨rfl,rfl⟩ | ⟨j,t',rfl,rfl⟩ | ⟨y,t',rfl,rfl⟩ | ⟨d,rfl,rfl⟩
 .exact uG (by simpa using h)
 .exact SeqAt.EqAt.none_int j t' _ _ _ _ (by simpa using h)
 .exact SeqAt.EqAt.none_str y t' _ _ _ _ (by simpa using h)
 .exact SeqAt.EqAt.none_bool d _ _ _ _ (by simpa using h)
 .exact SeqAt.EqAt.int_none i t _ _ _ _ (by simpa using h)
 .rw[z] at h;exact wpAny_eqBool_int h
 .exact SeqAt.EqAt.int_str i t y t' _ _ _ _ (by simpa using h)
 .rw[z] at h;exact SeqAt.EqAt.int_bool i t d _ _ _ _ h
 .exact SeqAt.EqAt.str_none x t _ _ _ _ (by simpa using h)
 .exact SeqAt.EqAt.str_int x t j t' _ _ _ _ (by simpa using h)
 .refine wpAny_eqBool_str ?_
  have e:decide (x=y)=decide (some (Sum.inr x:Key)=some (.inr y)):=decide_eq_decide.mpr ⟨λe=>by rw[e],λe=>Sum.inr.inj (Option.some.inj e)⟩
  rw[e];exact h
 .exact SeqAt.EqAt.str_bool x t d _ _ _ _ (by simpa using h)
 .exact SeqAt.EqAt.bool_none c _ _ _ _ (by simpa using h)
 .rw[z] at h;exact SeqAt.EqAt.bool_int c j t' _ _ _ _ h
 .exact SeqAt.EqAt.bool_str c y t' _ _ _ _ (by simpa using h)
 .rw[z] at h
  refine SeqAt.EqAt.bool_bool c d _ _ _ _ ?_
  have e:(c == d)=(b01 c == b01 d):=by cases c <;> cases d <;> rfl
  rw[e];exact h
def iF (prog:Program) (w:World):KeyKind prog w (Option Key) where
 is:=oK
 hash:=HG w
 inj:=λv a b B U=>by
  rcases cp B with⟨rfl,rfl⟩ | ⟨i,t,rfl,rfl⟩ | ⟨x,t,rfl,rfl⟩ | ⟨c,rfl,rfl⟩ <;> rcases cp U with⟨rfl,e⟩ | ⟨j,u,rfl,e⟩ | ⟨y,u,rfl,e⟩ | ⟨d,rfl,e⟩ <;> first | rfl | (cases e;rfl) | cases e
 byValue:=λk v h=>by
  rcases cp h with⟨rfl,rfl⟩ | ⟨i,t,rfl,rfl⟩ | ⟨x,t,rfl,rfl⟩ | ⟨c,rfl,rfl⟩ <;> rfl
 pyHash:=λz h=>by
  rcases cp z with⟨rfl,rfl⟩ | ⟨i,t,rfl,rfl⟩ | ⟨x,t,rfl,rfl⟩ | ⟨c,rfl,rfl⟩
  .exact uP h
  .exact wpAny_pyHash_int h
  .exact wpAny_pyHash_str h
  .exact uA h
 eqBool:=λF z h=>GW F z h
 «strs» := λk x t v h=>by
  rcases cp h with⟨rfl,e⟩ | ⟨i,u,rfl,e⟩ | ⟨y,u,rfl,e⟩ | ⟨c,rfl,e⟩
  .cases e
  .cases e
  .cases e
   show oK (some (.inr x)) v=v.isStr x
   cases v <;> rfl
  .cases e
end PySem
namespace L2
open PySem PySem.Spec PyProof.Rows
section
variable {ie:Expr}
def AX:List V->Hp->VK->Prop:=λxs H Q=>∃p,xs=[.ref p]/\∃kvs,H p=some (.dK kvs)/\∀l,H l=none->Q (.ref l) (upd H l (.lst (kvs.map λx=>kV x.1)))
theorem qo {κ:Type} {R:κ->V->Prop} {is:κ->Value->Prop} (f:κ->V) (z : ∀k u,is k u->aY (f k) u) : ∀{kvs:List (κ × V)} {vs:List (κ × Value)} {acc:List Value},KV kvs vs->acc.length=vs.length->(∀(j:Nat) u,acc[j]? = some u->∃k x,vs[j]? = some (k,x)/\is k u)->aR (kvs.map λx=>f x.1) acc
 | [],_,acc,r,hl,_=>by
  unfold KV at r;cases r;cases acc with
  | nil=>exact .nil
  | cons _ _=>simp at hl
 | x :: kvs,_,acc,r,hl,h=>by
  unfold KV at r;cases r with
  | cons B F =>
   cases acc with
   | nil=>simp at hl
   | cons u acc =>
    obtain⟨k,y,e1,e2⟩:=h 0 u rfl;simp only[List.getElem?_cons_zero,Option.some.injEq] at e1;subst e1;refine .cons ?_ (qo (R:=R) f z F (by simpa using hl) λj u e=>by simpa using h (j+1) u (by simpa using e))
    have e:x.1=k:=B.1
    show aY (f x.1) u
    rw[e];exact z k u e2
theorem jg (hc:X.calm=true):bE X (.type "list") AX:=by
 intro pins s σ H xs us Q I r h;obtain⟨p,rfl,kvs,hp,q⟩:=h;obtain⟨u,rfl,ru⟩:=cI r;cases ru;obtain⟨U,hd,vs,B,dd⟩:=fT I.hok hp;obtain⟨ep,Z⟩:=dd.dictAt;have F:=B.length;refine kdl_call (PySem.W.kdl_dict (knd:=aU X.prog X.w) (kvs:=vs) (ep:=ep) hd) (I.ok.hd hc) Z (by rw[<- F];exact U) λh' tk acc c Y hD z=>?_
 have hv:aR (kvs.map λx=>kV x.1) acc.toList:=qo (R:=λ_ _=>True) kV (is:=λk u=>(aU X.prog X.w).is k u=true) (λk u e=>sC e) B (by rw[length_toList];exact z.1) λj u e=>z.2 j u (by rw[<- Array.getElem?_toList];exact e)
 exact⟨.ref _,_,I.laid (t':=tk) Y (le_refl _) (show be X.prog X.w _ _ _ (.lst (kvs.map λx=>kV x.1)) from⟨by rw[length_map];exact U,acc.toList,c,hv,by rw[toArray_toList];exact hD⟩),rfl,q _ (I.hok.fresh (le_refl _))⟩
def AZ (td:TE):TE:=λσ H Q=>td σ H λx H1=>∃p,x = .ref p/\∃kvs,H1 p=some (.dK kvs)/\∀l,H1 l=none->Q (.ref l) (upd H1 l (.lst (kvs.map (·.2))))
theorem uD {κ:Type} : ∀{kvs:List (κ × V)} {vs:List (κ × Value)} {acc:List Value},KV kvs vs->acc.length=vs.length->(∀(j:Nat) u,acc[j]? = some u->∃k,vs[j]? = some (k,u))->aR (kvs.map (·.2)) acc
 | [],_,acc,r,hl,_=>by
  unfold KV at r;cases r;cases acc with
  | nil=>exact .nil
  | cons _ _=>simp at hl
 | x :: kvs,_,acc,r,hl,h=>by
  unfold KV at r;cases r with
  | cons B z =>
   cases acc with
   | nil=>simp at hl
   | cons u acc =>
    obtain⟨k,e1⟩:=h 0 u rfl;simp only[List.getElem?_cons_zero,Option.some.injEq] at e1;subst e1;exact .cons B.2 (uD z (by simpa using hl) λj u e=>by simpa using h (j+1) u (by simpa using e))
theorem sR {knd:Type} [DecidableEq knd] {Y:KeyKind X.prog X.w knd} {pins:List (Addr × Obj)} {σ:St} {H:Hp} {s:Shared} {Q:VK} {a:Addr} {kvs:List (knd × V)} {vs:List (knd × Value)} (hc:X.calm=true) (I:Inv X pins σ H s) (B:KV kvs vs) (hz:kvs.length<=sizeLine) (dd:s.heap.DictOf Y a vs)
  (q : ∀l,H l=none->Q (.ref l) (upd H l (.lst (kvs.map (·.2))))):wpAny (model X.prog X.w) X.A (call (.type "list") [.ref s.heap.objs.size]) (EP X pins σ Q) X.xe { s with heap:=s.heap.push { cls:=.type "dict_values",data:=.fields #[.ref a] } }:=by
 have U:=dd.push { cls:=.type "dict_values",data:=.fields #[.ref a] };obtain⟨ep,da⟩:=U.dictAt;have F:=B.length;have Z:Inv X pins σ H { s with heap:=s.heap.push { cls:=.type "dict_values",data:=.fields #[.ref a] } }:=I.kept (t':=s.toks) λb o e=>Heap.get?_push_of_some _ e
 refine kdl_call (s:={ s with heap:=s.heap.push { cls:=.type "dict_values",data:=.fields #[.ref a] } }) (PySem.W.kdl_values (knd:=Y) (d:=a) (kvs:=vs) (ep:=ep)) (I.ok.hd hc) ⟨⟨_,Heap.get?_push_size _ rfl,rfl,rfl⟩,da⟩ (by rw[<- F];exact hz) λh' tk acc c hk hD z=>?_
 have hv:aR (kvs.map (·.2)) acc.toList:=uD B (by rw[length_toList];exact z.1) λj u e=>z.2 j u (by rw[<- Array.getElem?_toList];exact e)
 exact⟨.ref _,_,Z.laid (t':=tk) hk (le_refl _) (show be X.prog X.w _ _ _ (.lst (kvs.map (·.2))) from⟨by rw[length_map];exact hz,acc.toList,c,hv,by rw[toArray_toList];exact hD⟩),rfl,q _ (Z.hok.fresh (le_refl _))⟩
theorem yS {p:Pos} (hc:X.calm=true) (hg:Gl X "list") (hm:X.mg "list" = none) (ho:PE X oe td) (U:attributeBase oe "values" X.env (eval oe X.env)=eval oe X.env:=by rfl) (B:(apos.endLine == cpos.line)=true:=by rfl) :
  PE X (.Call (.Name "list" p) [.Call (.Attribute oe "values" apos) [] [] cpos] [] pos) (AZ td):=by
 intro pins s σ H Q I h;refine wpAny_Call_Name_kw (dU I hg hm (by decide+kernel:bootBuiltins "list" = some (.type "list")) ?_)
 refine PyProof.Rows.callWith_type1 (Calls.spliced_cons ?_) rfl rfl
 refine wpAny_Call_method0_late U B (thn (ho pins s σ H _ I h) λv s1 z=>?_)
 obtain⟨x,H1,Y,r1,a,ex,kvs,e,q⟩:=z;subst ex;cases r1;obtain⟨hz,hd,vs,Z,dd⟩:=fT Y.hok e;obtain⟨t1,t2,_⟩:=wz Y (.inl ⟨_,.inl e⟩);refine⟨"dict","dict.values",PySem.F.plainAttrs_dict,PySem.F.slot_dict_values,PySem.F.type_dict_values,t1,t2,?_⟩
 refine method_meetsIn PySem.F.slot_dict_values PySem.F.entry_dict_values rfl (PySem.evalArgs_none ⟨rfl,t1,PySem.F.args_dict_values_1 _,_,meets_dict_values (aU X.prog X.w) a hd,⟨vs,dd⟩,Calls.spliced_nil ?_⟩)
 exact sR hc Y Z hz dd q
def An (mg:Str->Option Value) (i:Nat) (y z:Str) (sp sp2:Sp) (t:TA):TE:=λσ H Q=>∃f,σ[i]? = some (some (.ref f))/\((mg y=some (.ref f)/\t σ H λvs H1=>sp vs H1 Q E0)\/(mg z=some (.ref f)/\t σ H λvs H1=>sp2 vs H1 Q E0))
theorem A2 (hM:X.mg=mg) {i:Nat} {x:Str} {p pos:Pos} {e:Expr} {es:List Expr} {t:TA} {k k2:Nat} {y z:Str} {ps ps2:List Str} {sp sp2:Sp} (F:Fn X.prog X.w X.K X.mg X.base y k ps sp) (G:Fn X.prog X.w X.K X.mg X.base z k2 ps2 sp2) (hr:ci k X.A) (af:ci k2 X.A)
  (hN:X.N[i]? = some x) (hv:Vis X.env.scope x) (ha:PA X (e :: es) t) (hd:(x ==("__debug__" : Str))=false:=by decide) (ae:(x ==("__classdict__" : Str))=false:=by decide)
  (he:starEach (e :: es) X.env=(false,eval e X.env) :: starEach es X.env:=by rfl) (aa:(backTo pos (starEach es X.env)).any (·.1)=false:=by rfl) :
  PE X (.Call (.Name x p) (e :: es) [] pos) (An mg i y z sp sp2 t):=by
 subst hM;intro pins s σ H Q I h;obtain⟨f,hf,h⟩:=h;obtain⟨f1,ah,F,m1,ac,b1⟩:=F;obtain⟨f2,ag,G,m2,ad,b2⟩:=G;refine wpAny_Call_Name_kw (thn (zA hN hv hd ae pins s σ H (λv H'=>v = .ref f/\H'=H) I ⟨_,hf,rfl,rfl⟩) λv s1 B=>?_)
 obtain⟨x1,H1,I1,r1,ex,eH⟩:=B;subst ex eH;cases (show v=Value.ref f from r1)
 rcases h with⟨U,h⟩ | ⟨U,h⟩
 .rw[m1] at U
  cases U;exact callWith_K (h₀:=X.base) I.ok.mod.kin ac (thn (ha pos pins s1 σ _ _ I1 h) λus s2 Y=>by obtain⟨vs,H2,I2,r,q⟩:=Y;exact(⟨I2.kIn,kG F hr b1 .nil qv I2 r (by rw[append_nil];exact q)⟩)) he aa
 .rw[m2] at U
  cases U;exact callWith_K (h₀:=X.base) I.ok.mod.kin ad (thn (ha pos pins s1 σ _ _ I1 h) λus s2 Z=>by obtain⟨vs,H2,I2,r,q⟩:=Z;exact(⟨I2.kIn,kG G af b2 .nil qv I2 r (by rw[append_nil];exact q)⟩)) he aa
end
theorem jY : ∀{l m:List PySem.W.Ky},l.Perm m->l.Pairwise PySem.W.Ky.le->m.Pairwise PySem.W.Ky.le->l=m
 | [],m,hp,_,_=>(List.Perm.eq_nil hp.symm).symm
 | a :: l,[],hp,_,_=>absurd (List.Perm.eq_nil hp) (by simp)
 | a :: l,b :: m,hp,h1,h2=>by
  rw[pairwise_cons] at h1 h2;have B:a=b:=by
   have z:a∈b :: m:=hp.mem_iff.mp mem_cons_self
   have F:b∈a :: l:=hp.mem_iff.mpr mem_cons_self
   rcases mem_cons.mp z with e | z
   .exact e
   .rcases mem_cons.mp F with e | F
    .exact e.symm
    .exact PySem.W.Ky.le_antisymm (h1.1 b F) (h2.1 a z)
  subst B;rw[jY ((perm_cons a).mp hp) h1.2 h2.2]
open PySem.W PySem.Calls
theorem left_two {p:Program} {U:Shared->α} {F:World->α} {N:Nat} (z:String)
  (h1 : ∀w:World,(fencedOpening treeTable p w N).bind (λB=>(topFrom treeTable p (w.withFollow z false) N B).map (λs=>(openSeen q loose (importedModules p.main.body) Xt true s,U s)))=some (openGood q loose,F (w.withFollow z false)))
  (h2 : ∀w:World,(fencedOpening treeTable p w N).bind (λB=>(topFrom treeTable p (w.withFollow z true) N B).map (λs=>(openSeen q loose (importedModules p.main.body) Xt true s,U s)))=some (openGood q loose,F (w.withFollow z true))):LeftO p q loose Xt U F N:=λw=>by
 have e:=World.withFollow_self w z;unfold openEnds;rw[map_bind];cases Y:w.params.followText z <;> rw[Y] at e
 .have:=h1 w;rw[e] at this;exact this
 .have:=h2 w;rw[e] at this;exact this
section
variable {t:TA}
theorem am.putN {p:Addr} (s:am H H1) (z:H p=none):am H (upd H1 p o):=λb u e=>by
 rw[ag (aj e z)];exact s b u e
end
end L2
namespace PySem
noncomputable instance decPD:DecidableEq PyData:=λa b=>Classical.propDecidable (a=b)
mutual
def eu:PyData->Bool
 | .none=>true
 | .int _=>true
 | .str x=>PyData.strOk x
 | .tuple l=>bM l
 | _=>false
def bM:List PyData->Bool
 | []=>true
 | d :: l=>eu d && bM l
end
mutual
theorem gg : ∀d:PyData,eu d=true->d.canLay0=true
 | .none,_=>rfl
 | .int _,_=>rfl
 | .str x,h=>h
 | .tuple l,h=>by
  unfold PyData.canLay0;exact qz l h
 | .bool _,h | .list _,h | .dict _,h=>by cases h
theorem qz : ∀l:List PyData,bM l=true->PyData.canLayAll0 l=true
 | [],_=>rfl
 | d :: l,h=>by
  simp only[bM,Bool.and_eq_true] at h;simp only[PyData.canLayAll0,gg d h.1,qz l h.2,Bool.and_self]
end
mutual
theorem wW : ∀a b:PyData,eu a=true->eu b=true->(PyData.eqv a b=true↔a=b)
 | .none,b,_,hb=>by cases b <;> simp_all [eu,PyData.eqv]
 | .int i,b,_,hb=>by cases b <;> simp_all [eu,PyData.eqv]
 | .str x,b,_,hb=>by cases b <;> simp_all [eu,PyData.eqv]
 | .tuple l,.tuple m,ha,hb=>by
  simp only[PyData.eqv,PyData.tuple.injEq];exact tU l m ha hb
 | .tuple l,.none,_,_ | .tuple l,.int _,_,_ | .tuple l,.str _,_,_=>by simp[PyData.eqv]
 | .tuple l,.bool _,_,hb | .tuple l,.list _,_,hb | .tuple l,.dict _,_,hb=>by cases hb
 | .bool _,_,h,_ | .list _,_,h,_ | .dict _,_,h,_=>by cases h
theorem tU : ∀a b:List PyData,bM a=true->bM b=true->(PyData.eqvAll a b=true↔a=b)
 | [],[],_,_=>by simp[PyData.eqvAll]
 | [],_ :: _,_,_=>by simp[PyData.eqvAll]
 | _ :: _,[],_,_=>by simp[PyData.eqvAll]
 | x :: a,y :: b,ha,hb=>by
  simp only[bM,Bool.and_eq_true] at ha hb;simp only[PyData.eqvAll,Bool.and_eq_true,wW x y ha.1 hb.1,tU a b ha.2 hb.2,List.cons.injEq]
end
section
variable (prog:Program) (w:World)
mutual
def xG:PyData->Int
 | .none=>(iF prog w).hash none
 | .int i=>(iF prog w).hash (some (.inl i))
 | .str x=>(iF prog w).hash (some (.inr x))
 | .tuple l=>reduceHash (Builtin.Tuple.tupleHashOf (mF l))
 | _=>0
def mF:List PyData->List Int
 | []=>[]
 | d :: l=>xG d :: mF l
end
end
mutual
def xm:PyData->Nat
 | .tuple l=>qH l+1
 | _=>1
def qH:List PyData->Nat
 | []=>0
 | d :: l=>xm d+qH l
end
mutual
theorem wM : ∀(d:PyData) (v:Value) (as:List Addr) (A:Around) (s:Shared) (Q:Int->Shared->Prop),eu d=true->Reads s.heap v d as->A.units+d.depth < cLine ->
  Q (xG prog w d) { s with toks:=s.toks+xm d }->wpAny (model prog w) A (pyHash v) Q E s
 | .none,_,_,A,s,Q,_,r,hu,h=>by
  cases r;exact(iF prog w).pyHash (k:=none) rfl h
 | .int i,_,_,A,s,Q,_,r,hu,h=>by
  cases r
  rename_i t
  exact(iF prog w).pyHash (k:=some (.inl i)) (show oK (some (.inl i)) (.int i t)=true from(by show(i == i)=true;simp)) h
 | .str x,_,_,A,s,Q,_,r,hu,h=>by
  cases r
  rename_i t
  exact(iF prog w).pyHash (k:=some (.inr x)) (show oK (some (.inr x)) (.str x t)=true from(by show(x == x)=true;simp)) h
 | .tuple xs,_,_,A,s,Q,hk,r,hu,h=>by
  cases r with
  | @tuple a o vs n _ as ho hc hd ra =>
   refine W.pyHash_slot (T := "tuple") ⟨_,ho,hc⟩ F.slot_tuple_hash F.entry_tuple_hash (F.args_tuple_hash_1 _) (beq_builtin_none _) (.inr (by omega)) ?_
   show wpAny _ _ (Builtin.Tuple.tupleItemsOf (.ref a) >>= _) _ _ s
   refine wpAny_bind (wpAny_tupleItemsOf ho hd ?_)
   refine wpAny_bind ?_
   rw[<- Array.forIn_toList];refine pY xs vs.toList _ A.in1 s #[] _ hk ra (by simp only[PyData.depth,Around.in1_units] at hu ⊢;omega) λb z=>?_
   show wpAny _ _ (retInt (Builtin.Tuple.tupleHashOf b.toList)) _ _ _
   rw[z];refine wpAny_bind (wpAny_mkInt (wpAny_pure ⟨_,_,rfl,?_⟩))
   simpa [xm,xG,Nat.add_assoc] using h
 | .bool _,_,_,_,_,_,h,_,_,_ | .list _,_,_,_,_,_,h,_,_,_ | .dict _,_,_,_,_,_,h,_,_,_=>by cases h
theorem pY : ∀(xs:List PyData) (vs:List Value) (as:List Addr) (A:Around) (s:Shared) (b:Array Int) (Q:Array Int->Shared->Prop),bM xs=true->ReadsAll s.heap vs xs as->A.units+PyData.depthAll xs < cLine ->
  (∀z,z.toList=b.toList++mF prog w xs->Q z { s with toks:=s.toks+qH xs }) ->
  wpAny (model prog w) A (forIn vs b λx r=>do let h <- pyHash x;pure PUnit.unit;pure (ForInStep.yield (r.push h))) Q E s
 | [],_,_,A,s,b,Q,_,x,_,h=>by cases x;exact wpAny_pure (h b (by simp[mF]))
 | k :: xs,_,_,A,s,b,Q,hk,x,hu,h=>by
  cases x with
  | cons x1 F =>
   simp only[bM,Bool.and_eq_true,PyData.depthAll] at hk hu;rw[forIn_cons];refine wpAny_bind (wpAny_bind (wM k _ _ A s _ hk.1 x1 (by omega) ?_))
   refine wpAny_bind (wpAny_pure (wpAny_pure ?_))
   refine pY xs _ _ A _ _ Q hk.2 F (by omega) λz B=>?_
   have:=h z (by simp[B,mF])
   simpa [qH,Nat.add_assoc] using this
end
mutual
theorem uz : ∀(d:PyData) (v:Value) (as:List Addr) (n:Nat) (A:Around) (s:Shared) (Q:Bool->Shared->Prop),eu d=true->Reads s.heap v d as->d.depth<=n->Q true s->wpAny (model prog w) A (eqIsQuiet n v) Q E s
 | .none,_,_,n,A,s,Q,_,r,_,h=>by cases r;rw[eqIsQuiet_byValue n rfl];exact wpAny_pure h
 | .int i,_,_,n,A,s,Q,_,r,_,h=>by cases r;rw[eqIsQuiet_byValue n rfl];exact wpAny_pure h
 | .str x,_,_,n,A,s,Q,_,r,_,h=>by cases r;rw[eqIsQuiet_byValue n rfl];exact wpAny_pure h
 | .tuple xs,_,_,n,A,s,Q,hk,r,hn,h=>by
  cases r with
  | @tuple a o vs m _ as ho hc hd ra =>
   have z:s.TypeIs (.ref a) "tuple" :=⟨_,ho,hc⟩
   simp only[PyData.depth] at hn;obtain⟨n,rfl⟩ : ∃k,n=k+1:=⟨n - 1,by omega⟩
   unfold eqIsQuiet;refine wpAny_bind (wpAny_specialOf z F.slot_tuple_eq.lookup ?_)
   show wpAny _ _ (isInstance (.ref a) (.type "tuple") >>= _) _ _ s
   refine wpAny_bind (wpAny_isInstance z isSubtype_tuple_tuple ?_)
   simp only[Bool.not_true,Bool.false_eq_true,if_false];refine wpAny_bind (wpAny_seqItems ho hd ?_)
   refine wpAny_bind ?_
   show wpAny _ _ (forIn vs _ _) _ _ s
   rw[<- Array.forIn_toList];refine wpAny_mono (nM xs vs.toList _ n A s (λr s'=>r.1=none/\s'=s) hk ra (by omega) (wpAny_pure ⟨rfl,rfl⟩)) ?_ λ_ _ x=>x
   rintro⟨Y,U⟩ s' ⟨B,rfl⟩
   simp only at B;subst B;exact wpAny_pure h
 | .bool _,_,_,_,_,_,_,h,_,_,_ | .list _,_,_,_,_,_,_,h,_,_,_ | .dict _,_,_,_,_,_,_,h,_,_,_=>by cases h
theorem nM : ∀(xs:List PyData) (vs:List Value) (as:List Addr) (n:Nat) (A:Around) (s:Shared) (Q:Option Bool × Unit->Shared->Prop),bM xs=true->ReadsAll s.heap vs xs as->PyData.depthAll xs<=n ->
  wpAny (model prog w) A (pure (none,())) Q E s ->
  wpAny (model prog w) A (forIn vs (none,()) λy (_:Option Bool × Unit)=>do
   let b <- eqIsQuiet n y
   if (!b)=true then pure (ForInStep.done (some false,())) else pure (ForInStep.yield (none,()))) Q E s
 | [],_,_,n,A,s,Q,_,x,_,h=>by cases x;exact h
 | k :: xs,_,_,n,A,s,Q,hk,x,hn,h=>by
  cases x with
  | cons x1 z =>
   simp only[bM,Bool.and_eq_true,PyData.depthAll] at hk hn;rw[forIn_cons];refine wpAny_bind (wpAny_bind (uz k _ _ n A s _ hk.1 x1 (by omega) ?_))
   simp only[Bool.not_true,Bool.false_eq_true,if_false];refine wpAny_pure ?_
   exact nM xs _ _ n A s Q hk.2 z (by omega) h
end
mutual
theorem zY {h h':Heap} {d:Addr} {o:Obj} {es:Array DictEntry} {ep:Nat} (F:h.get? d=some o) (U:o.data = .dict es ep) (B:Heap.SameBut d h h') : ∀(x:PyData) {v:Value} {as:List Addr},eu x=true->Reads h v x as->Reads h' v x as
 | .none,_,_,_,r=>by cases r;exact .none
 | .int i,_,_,_,r=>by cases r;exact .int _ _
 | .str i,_,_,_,r=>by cases r;exact .str _ _
 | .tuple l,_,_,hk,r=>by
  cases r with
  | @tuple a o' vs m _ as ho' hc' hd' ra =>
   have z:a≠d:=by
    rintro rfl
    obtain rfl:o'=o:=Option.some.inj (ho'.symm.trans F)
    rw[U] at hd';exact nomatch hd'
   exact .tuple ((B.2 a z).trans ho') hc' hd' (wL F U B l hk ra)
 | .bool _,_,_,h,_ | .list _,_,_,h,_ | .dict _,_,_,h,_=>by cases h
theorem wL {h h':Heap} {d:Addr} {o:Obj} {es:Array DictEntry} {ep:Nat} (B:h.get? d=some o) (F:o.data = .dict es ep) (z:Heap.SameBut d h h') : ∀(xs:List PyData) {vs:List Value} {as:List Addr},bM xs=true->ReadsAll h vs xs as->ReadsAll h' vs xs as
 | [],_,_,_,r=>by cases r;exact .nil
 | x :: xs,_,_,hk,r=>by
  cases r with
  | cons a b =>
   simp only[bM,Bool.and_eq_true] at hk;exact .cons (zY B F z x hk.1 a) (wL B F z xs hk.2 b)
end
def oR (d:PyData):Prop:=eu d=true/\d.depth<=8
noncomputable def jK (prog:Program) (w:World):HeapKind prog w PyData where
 is:=λh d a=>oR d/\∃as,Reads h (.ref a) d as
 hash:=xG prog w
 draws:=xm
 room:=λA=>A.units+8 < cLine
 inj:=λB U=>by
  obtain⟨z,as,Y⟩:=B
  obtain⟨k2,bs,F⟩:=U
  exact SeqAt.Reads.unique _ _ _ _ _ (gg _ z.1) Y F
 keeps:=λx Z hd hs=>let ⟨k,as,r⟩:=x;⟨k,as,zY Z hd hs _ k.1 r⟩
 pyHash:=λ{A E s k a Q} hu hk h=>by
  obtain⟨z,as,r⟩:=hk
  have:=z.2
  exact wM k _ as A s Q z.1 r (by omega) h
 eqBool:=λ{A E s x y a b Q} hu B U h=>by
  obtain⟨z,as,Y⟩:=B
  obtain⟨k2,bs,F⟩:=U
  have e:PyData.eqv x y=decide (x=y):=by rw[Bool.eq_iff_iff,decide_eq_true_eq];exact wW x y z.1 k2.1
  rw[<- e] at h
  have:=z.2
  exact SeqAt.eqAt_reads x y A s _ _ as bs Y F (gg _ z.1) (gg _ k2.1) (by omega) prog w E Q h
 quiet:=λ{A E s k a Q} hk h=>by
  obtain⟨z,as,r⟩:=hk
  exact uz k _ as 8 A s Q z.1 r z.2 h
end PySem
namespace L2
open PySem PySem.Spec PyProof.Rows
abbrev CT:=PyData × Addr × Int
def yc (x:CT) (y:PyData × Addr × Value):Prop:=x.1=y.1/\x.2.1=y.2.1/\∃t,y.2.2 = .int x.2.2 t
def ur (P:Program) (w:World) (a:Addr) (o:Obj) (kvs:List CT) (h:Heap):Prop:=h.get? a=some o/\(a == sysModules)=false/\kvs.length<=1000/\o.ExactDict /\
 ∃(xs:List (PyData × Addr × Value)) (es:Array DictEntry) (ep:Nat),Paired yc kvs xs/\o.data = .dict es ep/\es.toList=xs.map (entryOfKey (jK P w))/\(xs.map (·.1)).Nodup
def cU (P:Program) (w:World) (a:Addr) (o:Obj) (kvs:List CT):HO:=.ext (ur P w a o kvs)
theorem ur.ok {o:Obj} {kvs:List CT} (x:ur P w a o kvs h):be P w H h a (cU P w a o kvs) :=
 ⟨x,⟨o,x.1⟩,λh1 h2 z k=>⟨k _ z.1,z.2⟩⟩
noncomputable def atC (kvs:List CT) (d:PyData):Option Int:=(kvs.find? λx=>decide (x.1=d)).map (·.2.2)
noncomputable def gZ (kvs:List CT) (d:PyData) (a:Addr) (n:Int):List CT:=if (atC kvs d).isSome then kvs.map (λx=>if x.1=d then(x.1,x.2.1,n) else x) else kvs++[(d,a,n)]
theorem mZ (kvs:List CT) (d:PyData) (a:Addr) (n:Int):(gZ kvs d a n).length<=kvs.length+1:=by
 unfold gZ;split <;> simp
theorem xQ {d e:PyData} {n:Int} : ∀kvs:List CT,atC (kvs.map (λx=>if x.1=d then(x.1,x.2.1,n) else x)) e=if e=d then(atC kvs d).map (λ_=>n) else atC kvs e
 | []=>by unfold atC;split <;> rfl
 | x :: kvs=>by
  have B:=xQ (d:=d) (e:=e) (n:=n) kvs;unfold atC at B ⊢;rw[map_cons,find?_cons,find?_cons,find?_cons]
  by_cases Y:x.1=d
  .rw[if_pos Y]
   by_cases F:e=d
   .subst F
    simp[Y]
   .have : ¬ x.1=e:=λz=>F (by rw[<- z,Y])
    simp only[if_neg F] at B ⊢;simp only[this,decide_false,B]
  .rw[if_neg Y]
   by_cases F:e=d
   .subst F
    simp only[Y,decide_false,if_true] at B ⊢;exact B
   .simp only[if_neg F] at B ⊢
    by_cases U:x.1=e
    .simp[U]
    .simp only[U,decide_false,B]
theorem xj (kvs:List CT) (d e:PyData) (a:Addr) (n:Int):atC (gZ kvs d a n) e=if e=d then some n else atC kvs e:=by
 unfold gZ;cases h:atC kvs d with
 | some m =>
  rw[if_pos (by rfl),xQ,h];rfl
 | none =>
  rw[if_neg (by simp)]
  have hn:(kvs.find? λx=>decide (x.1=d))=none:=by
   unfold atC at h;cases F:kvs.find? λx=>decide (x.1=d) with
   | none=>rfl
   | some z=>rw[F] at h;cases h
  unfold atC at h ⊢;rw[List.find?_append]
  by_cases B:e=d
  .subst B
   rw[hn];simp
  .have : ¬ d=e:=λz=>B z.symm
   rw[if_neg B];cases F:kvs.find? λx=>decide (x.1=e) with
   | none=>simp[this]
   | some z=>simp
def kI (K:PySem.W.Frag) (H:Hp) (kvs:List CT):Prop:=∀x∈kvs,oR x.1/\Rep K H (.ref x.2.1) x.1
theorem lV {d:PyData} : ∀{kvs:List CT} {xs:List (PyData × Addr × Value)},Paired yc kvs xs->(∀n,atC kvs d=some n->∃p t,atKey xs d=some p/\p.2 = .int n t)/\(atC kvs d=none->atKey xs d=none)
 | _,_,.nil=>⟨λn h=>absurd h (by simp[atC]),λ_=>rfl⟩
 | x :: kvs,y :: xs,.cons h r=>by
  obtain⟨a,b⟩:=lV (d:=d) r;obtain⟨h1,h2,t,F⟩:=h;unfold atC atKey at a b ⊢;rw[find?_cons,find?_cons,<- h1]
  by_cases B:x.1=d
  .simp only[B,decide_true,Option.map_some,Option.some.injEq]
   exact⟨λn e=>⟨_,t,rfl,by rw[<- e];exact F⟩,λz=>by cases z⟩
  .simp only[B,decide_false]
   exact⟨a,b⟩
theorem Ac {d:PyData} {n:Int} {t:Tok} {kvs:List CT} {xs:List (PyData × Addr × Value)} (r:Paired yc kvs xs):Paired yc (gZ kvs d b n) (storedH xs d b (.int n t)):=by
 obtain⟨h1,h2⟩:=lV (d:=d) r;unfold gZ;cases h:atC kvs d with
 | some m =>
  obtain⟨p,u,e,_⟩:=h1 m h;rw[if_pos (by rfl),storedH_old e]
  clear h h1 h2 e
  induction r with
  | nil=>exact .nil
  | @cons x y l l' q _ ih =>
   refine .cons ?_ ih
   unfold putAt;rw[<- q.1]
   show yc (if x.1=d then(x.1,x.2.1,n) else x) _
   by_cases z:x.1=d
   .rw[if_pos z,if_pos z];exact⟨rfl,q.2.1,t,rfl⟩
   .rw[if_neg z,if_neg z];exact q
 | none =>
  rw[if_neg (by simp),storedH_new (h2 h)]
  exact Paired.snoc r ⟨rfl,rfl,t,rfl⟩
section
variable {o:Obj} {kvs:List CT}
theorem sx (I:Inv X pins σ H s) {d:PyData} {b:Addr} (B:oR d) (z:Rep X.K H (.ref b) d):(jK X.prog X.w).is s.heap d b:=by
 obtain⟨as,r⟩:=I.reads z (u:=.ref b) rfl;exact⟨B,as,r⟩
theorem mf (I:Inv X pins σ H s) (Y:H a=some (cU X.prog X.w a o kvs)) (hk:kI X.K H kvs):(a == sysModules)=false/\kvs.length<=1000/\∃xs,Paired yc kvs xs/\s.heap.DictOfH (jK X.prog X.w) a xs:=by
 obtain⟨⟨ho,hd,F,B,xs,es,ep,r,h1,h2,Z⟩,U⟩:=(show be X.prog X.w H s.heap a (cU X.prog X.w a o kvs) from I.hok a _ Y)
 refine⟨hd,F,xs,r,o,es,ep,ho,B,h1,h2,?_,Z⟩
 clear h1 h2 Z Y ho F U
 induction r with
 | nil=>intro x B;cases B
 | @cons x y l l' q _ ih =>
  intro z F;rcases mem_cons.mp F with e | e
  .subst e
   have:=hk x (by simp)
   rw[q.1,q.2.1] at this;exact sx I this.1 this.2
  .exact ih (λx B=>hk x (by simp[B])) z e
def sy (P:Program) (w:World):TE:=λ_ H Q=>∀p o H2,H p=none->am H H2->H2 p=some (cU P w p o [])->Q (.ref p) H2
theorem yB:PE X (.Dict [] [] pos) (sy X.prog X.w):=λpins s σ H Q I h=>by
 have z:=I.hok.fresh (le_refl s.heap.objs.size);refine wpAny_Dict_empty ⟨.ref s.heap.objs.size,_,I.laid (a:=s.heap.objs.size) (o:=cU X.prog X.w s.heap.objs.size { cls:=.type "dict",data:=.dict #[] } []) (t':=s.toks) (λ_ _ q=>Heap.get?_push_of_some _ q) (le_refl _) (ur.ok ⟨Heap.get?_push_size _ rfl,beq_eq_false_iff_ne.mpr (Ne.symm (ne_of_lt I.big)),zero_le _,⟨rfl,rfl,rfl⟩,[],#[],0,.nil,rfl,rfl,List.nodup_nil⟩),rfl,?_⟩
 exact h _ _ _ z (am.upd0 z) ab
variable {f ie:Expr} {tx:TE}
def xo (P:Program) (w:World) (K:PySem.W.Frag) (td ty tx:TE):TE:=λσ H Q=>td σ H λx H1=>∃a,x = .ref a/\(∃o kvs,H1 a=some (cU P w a o kvs)/\kI K H1 kvs)/\ty σ H1 λy H2=>tx σ H2 λz B=>∃b,y = .ref b/\∃n,z = .int n/\∃o kvs,B a=some (cU P w a o kvs)/\kI K B kvs/\∃d,oR d/\Rep K B (.ref b) d/\Q (.int ((atC kvs d).getD n)) B
theorem AH (hu:X.A.units+9 < cLine) (ho:PE X oe td) (he:PE X e ty) (hf:PE X f tx) (m:M2 X oe "get" apos e f cpos):PE X (.Call (.Attribute oe "get" apos) [e,f] [] cpos) (xo X.prog X.w X.K td ty tx):=by
 intro pins s σ H Q I h;refine wpAny_Call_method m.base m.few m.line PySem.F.plainAttrs_dict PySem.F.slot_dict_get PySem.F.type_dict_get (thn (ho pins s σ H _ I h) λu s1 ⟨x,H1,I1,rx,a,ex,⟨o,kvs,ha,hk⟩,q1⟩=>?_)
 subst ex;obtain rfl:u=Value.ref a:=rx
 obtain⟨_,_,xs,_,Z⟩:=mf I1 ha hk;refine⟨Z.typeIs,λb q=>?_,?_⟩
 .cases q
  obtain⟨ob,_,_,h1,h2,_⟩:=Z;exact⟨ob,h1,h2.2.1⟩
 rw[m.trees];refine Calls.callWith_builtin rfl (Calls.evalArgs_plain (Calls.spliced_cons (thn (he pins s1 σ H1 _ I1 q1) λiv s2 ⟨y,H2,I2,ry,q2⟩ =>
  Calls.spliced_cons (thn (hf pins s2 σ H2 _ I2 q2) λfv s3 ⟨z,H3,I3,rz,b,ey,n,ez,o3,kvs3,ha3,hk3,d,hd,hb,q3⟩=>Calls.spliced_nil ?_))))
 subst ey ez;obtain rfl:iv=Value.ref b:=ry
 obtain⟨t,rfl⟩:=rz;obtain⟨hs,_,ys,Y,B⟩:=mf I3 ha3 hk3;refine call_meetsIn PySem.F.slot_dict_get B.typeIs PySem.F.entry_dict_get (PySem.F.args_dict_get_3 _ _ _) (meetsH_dict_get_default (jK X.prog X.w) a b hs (.int n t)) ⟨by show X.A.in1.units+8 < cLine;simp only[Around.in1_units];omega,d,ys,sx I3 hd hb,B,?_⟩
 obtain⟨r1,r2⟩:=lV (d:=d) Y;cases U:atC kvs3 d with
 | some m =>
  obtain⟨p,u,e1,e2⟩:=r1 m U;rw[U] at q3;rw[e1];exact⟨.int m,H3,I3.tok _,⟨u,e2⟩,q3⟩
 | none =>
  rw[U] at q3;rw[r2 U];exact⟨.int n,H3,I3.tok _,⟨t,rfl⟩,q3⟩
def BM (P:Program) (w:World) (K:PySem.W.Frag) (td ty:TE):TE:=λσ H Q=>td σ H λx H1=>ty σ H1 λy H2=>∃a,x = .ref a/\∃b,y = .ref b/\∃o kvs,H2 a=some (cU P w a o kvs)/\kI K H2 kvs/\∃d,oR d/\Rep K H2 (.ref b) d/\∃n,atC kvs d=some n/\Q (.int n) H2
theorem Bg (hu:X.A.units+9 < cLine) (ha:PE X oe td) (hb:PE X ie ty) (hs:lR ie):PE X (.Subscript oe ie pos) (BM X.prog X.w X.K td ty):=by
 intro pins s σ H Q I h;refine Subscript_ (thn (ha pins s σ H _ I h) λv s1 ⟨x,H1,I1,r1,q1⟩=>thn (hb pins s1 σ H1 _ I1 q1) λu s2 z=>?_)
 obtain⟨y,H2,Y,r2,c,ex,b,ey,o,kvs,hc,hk,d,hd,B,n,hn,q⟩:=z;subst ex ey;cases r1;cases r2;obtain⟨_,_,xs,U,Z⟩:=mf Y hc hk;obtain⟨p,t,e1,e2⟩:=(lV (d:=d) U).1 n hn;exact subscriptTail_builtinR (x:=.int n t) Z.typeIs PySem.F.slot_dict_getitem.lookup (wpAny_getItem_heap (by show X.A.in1.units+8 < cLine;simp only[Around.in1_units];omega) (sx Y hd B) Z e1 ⟨e2,.int n,H2,Y.tok _,⟨t,e2⟩,q⟩) (hs _ _)
def xE (P:Program) (w:World) (K:PySem.W.Frag) (td ty tv:TE):TS:=λD σ H=>tv σ H λv H1=>td σ H1 λx H2=>ty σ H2 λy z=>∃n,v = .int n/\∃a,x = .ref a/\∃b,y = .ref b/\∃o kvs,z a=some (cU P w a o kvs)/\kI K z kvs/\kvs.length < 1000/\∃d,oR d/\Rep K z (.ref b) d/\∀o',D.nx σ (upd z a (cU P w a o' (gZ kvs d b n)))
theorem AE (hu:X.A.units+9 < cLine) (ho:PE X oe td) (hi:PE X ie ty) (hv:PE X value tv) (hs:swapsWith value (some (.Subscript oe ie pos')) pos.line X.env=pure false) :
  PS X (.Assign [.Subscript oe ie pos'] value pos) (xE X.prog X.w X.K td ty tv):=by
 intro pins s σ H D I h;refine wpAny_Assign_Subscript (thn (hv pins s σ H _ I h) λr s1 ⟨v,H1,I1,rv,q1⟩=>thn (ho pins s1 σ H1 _ I1 q1) λu s2 ⟨x,H2,I2,rx,q2⟩=>thn (hi pins s2 σ H2 _ I2 q2) λiv s3 z=>?_) hs
 obtain⟨y,H3,Z,ry,n,ev,a,ex,b,ey,o,kvs,ha,hk,hl,d,hd,hb,q3⟩:=z;subst ev ex ey;obtain rfl:u=Value.ref a:=rx
 obtain rfl:iv=Value.ref b:=ry
 obtain⟨t,rfl⟩:=rv;obtain⟨Y,hz,xs,B,dd⟩:=mf Z ha hk;have F:=Paired.length B;refine wpAny_setItem_heap (hsz:=by rw[<- F];exact le_of_lt (ax hz)) (by show X.A.in1.units+8 < cLine;simp only[Around.in1_units];omega) (sx Z hd hb) dd λh' U aa=>?_
 obtain⟨q,es,ep,hq,h2,h3,h4,_,h5⟩:=U;have ac:=mZ kvs d b n;exact⟨σ,_,mj (ob:=cU X.prog X.w a q (gZ kvs d b n)) Z (by rw[ha];exact True.intro) aa ⟨q,hq⟩ (ur.ok ⟨hq,Y,by omega,h2,_,es,ep,Ac B,h3,h4,h5⟩),q3 q⟩
variable (hP:X.prog=P) (hw:X.w=w) (hK:X.K=K)
include hP hw in
theorem uQ:PE X (.Dict [] [] pos) (sy P w):=by subst hP hw;exact yB
include hP hw hK
theorem sK (B:X.A.units+9 < cLine) (F:PE X oe td) (z:PE X e ty) (U:PE X f tx) (m:M2 X oe "get" apos e f cpos):PE X (.Call (.Attribute oe "get" apos) [e,f] [] cpos) (xo P w K td ty tx):=by subst hP hw hK;exact AH B F z U m
theorem DW (U:X.A.units+9 < cLine) (B:PE X oe td) (z:PE X ie ty) (F:lR ie):PE X (.Subscript oe ie pos) (BM P w K td ty):=by subst hP hw hK;exact Bg U B z F
theorem wP (F:X.A.units+9 < cLine) (U:PE X oe td) (hi:PE X ie ty) (z:PE X value tv) (B:swapsWith value (some (.Subscript oe ie pos')) pos.line X.env=pure false) :
  PS X (.Assign [.Subscript oe ie pos'] value pos) (xE P w K td ty tv):=by subst hP hw hK;exact AE F U hi z B
end
theorem hu9 (z:ci k A):A.units+9 < cLine:=by have:=z.un;omega
def Da:R2:=λx y H Q=>∃a,x = .ref a/\∃c,y = .ref c/\∃l kvs,H a=some (.dK l)/\H c=some (.dK kvs)/\((l.length≠kvs.length/\Q (.bl false) H)\/(l.length=kvs.length/\∃ra rb,zr H l kvs ra rb/\Q (.bl (l.all λp=>decide (ra p.1=rb p.1))) H))
theorem BY (hu:X.A.units+102 < cLine):OpR X (compareOp .Eq) Da:=by
 intro pins s σ H x y v u Q I rx ry h;obtain⟨a,rfl,b,rfl,l,kvs,ha,hb,h⟩:=h;cases rx;cases ry;obtain⟨z,hd,vs,F,dd⟩:=fT I.hok ha;obtain⟨z2,Y,aa,B,Z⟩:=fT I.hok hb;rcases h with⟨U,q⟩ | ⟨hlen,ra,rb,hr,q⟩
 .refine keq_eq (r:=true) hd Y dd Z (by omega) (λe=>absurd e (by rw[<- F.length,<- B.length];exact U)) ?_
  rw[<- F.length,<- B.length,beq_eq_false_iff_ne.mpr U];exact⟨.bl false,H,I,rfl,q⟩
 .refine keq_eq hd Y dd Z (by omega) (λ_=>xY I (by show X.A.units+1+50 < cLine;omega) B F hr) ?_
  rw[<- F.length,<- B.length,hlen,beq_self_eq_true,Bool.true_and];exact⟨.bl _,H,I,rfl,q⟩
section
variable {g:TG}
theorem qp {Q:VK}
  (a5:X.calm=true) (S:jV X scope N nt js) (hi:PI X tg iter wi)
  (hg : ∀{cl C fp s H xe},PG (ce X scope N cl C fp s H xe) tg g) (aJ:AC g nt)
  (hc : ∀{cl C fp s H xe},PTs (ce X scope N cl C fp s H xe) ifs tc)
  (he : ∀{cl C fp s H xe},PE (ce X scope N cl C fp s H xe) elt te)
  (hs : ∀x,foldedSetIterable iter X.env x=pure x) (I:Inv X pins σ H s) (h:wT nt js wi g tc te σ H Q)
  (aG : ∀{cl C fp F H2 xe H3 s4 D},Inv X pins σ H2 F->(∀b∈fp,pQ X pins H2 b)->F.heap.objs.size < C->Inv (ce X scope N cl C fp F H2 xe) [] (dG nt js σ) H3 s4->Q (.ref D) H3 ->
   compPost (model X.prog X.w) X.A X.xe use Qf (.ref D) C (.ok .next) s4) :
  wpAny (model X.prog X.w) X.A (comprehension (.ListComp elt [⟨tg,iter,ifs,0⟩] scope pos) scope X.env pos' (newList []) false (eval iter X.env) use) Qf X.xe s:=by
 obtain⟨cl,a0,a9,_,a8⟩:=jh (env:=X.env) scope.names [] (λx hx hk=>I.ok.has x.1 (S.free x hx hk))
 have a3 : ∀x c,cl.lookup x=some c->X.env.cells.lookup x=some c:=λx c e=>(a9 x c e).elim (λz=>by simp at z) λz=>z
 have av:closureFor scope X.env=pure cl:=by
  unfold closureFor;simp only[];rw[a0];rfl
 refine wpAny_comprehension_free rfl hs av S.kind S.loc (thn (hi pins s σ H _ I h) λv s1 h1=>thn h1 λaM F h2=>?_)
 obtain⟨it,fp,tn,J,H2,e,I2,T,az,f2,q2⟩:=h2;subst e;have Z:H2 F.heap.objs.size=none:=I2.hok.fresh (le_refl _)
 obtain⟨W,⟨m0,w0⟩,a2⟩:=q2 F.heap.objs.size Z;refine wpAny_newObj_type (er (λB=>?_))
 dsimp only at B ⊢;generalize hG:F.heap.push { cls:=.type "list",dict:=none,data:=.seq ([]:List Value).toArray }=G at B ⊢;have aH:G.objs.size=F.heap.objs.size+1:=by rw[<- hG,Heap.size_push]
 have ae:=cellsFrom_ok scope.names (G.push { cls:=.type "dict",data:=.dict #[] }) (G.objs.size+1) [] ⟨λ_ _ hm=>(nomatch hm),List.Pairwise.nil⟩ (by rw[Heap.size_push];exact le_refl _)
 rw[Heap.size_push] at ae;have kp : ∀b o,G.get? b=some o->(pushCells (G.push { cls:=.type "dict",data:=.dict #[] }) scope.names).get? b=some o:=λb o e=>pushCells_keeps _ _ _ _ (Heap.get?_push_of_some _ e)
 generalize aF:pushCells (G.push { cls:=.type "dict",data:=.dict #[] }) scope.names=ac at B ae kp ⊢;have aa : ∀b o,F.heap.get? b=some o->ac.get? b=some o:=λb o e=>kp b o (hG ▸ Heap.get?_push_of_some _ e)
 have a6:HOk X.prog X.w (upd H2 F.heap.objs.size (.lst [])) ac:=I2.hok.laid aa (le_refl _) ⟨zero_le _,[],0,.nil,kp _ _ (hG ▸ Heap.get?_push_size _ rfl)⟩
 have af : ∀b∈fp,b < F.heap.objs.size:=λb U=>by
  obtain⟨o,e,_⟩:=T.obj _ _ az b U;exact Heap.lt_size e
 have aE : ∀c,G.objs.size<=c->(upd H2 F.heap.objs.size (.lst [])) c=none:=λc hc=>by
  rw[ag (ne_of_gt (by omega))]
  exact I2.hok.fresh (by omega)
 have ax:=λxe H3 s4=>@aG (cellsFrom (G.objs.size+1) scope.names cl) G.objs.size fp F H2 xe H3 s4 F.heap.objs.size I2 f2 (by rw[aH];exact Nat.lt_succ_self _)
 generalize aD:compPost (model X.prog X.w) X.A X.xe use Qf (.ref F.heap.objs.size) G.objs.size=RR at ax
 let Y:=ce X scope N (cellsFrom (G.objs.size+1) scope.names cl) G.objs.size fp F H2 (notedBy (model X.prog X.w) X.A (compEnvC scope (cellsFrom (G.objs.size+1) scope.names cl) G.objs.size X.env) λe s'=>RR (.error e) s')
 have ah : ∀{H':Hp},(∀b∈fp,H' b=none)->∀b∈fp,pQ Y [] H' b:=λ{H'} hn b U=>by
  obtain⟨f0,f1,aL,f3,f4,f5⟩:=f2 b U;have h1:=af b U;refine⟨hn b U,ne_of_lt (lt_of_lt_of_le h1 (by show _<=G.objs.size;omega)),λz=>?_,.inl U,λx c e=>?_,λp hp=>absurd (show p∈([]:List (Addr × Obj)) from hp) (by simp)⟩
  .rcases mem_cons.mp (I2.stkSub b z) with q | q
   .exact f1 q
   .exact aL q
  .have e:(cellsFrom (G.objs.size+1) scope.names cl).lookup x=some c:=e
   rw[bv] at e;rcases ou e with q | q
   .have:=(ae.empty x c (mem_of_lookup q)).2
    exact ne_of_gt (lt_of_lt_of_le h1 (by omega))
   .exact f4 x c (a3 x c q.2)
 have ay:codeAny (model X.prog X.w) X.A (.compLoop (.ListComp elt [⟨tg,iter,ifs,0⟩] scope pos) 0 (.ref it) (.ref F.heap.objs.size) (compEnvC scope (cellsFrom (G.objs.size+1) scope.names cl) G.objs.size X.env)) RR { F with heap:=ac,toks:=F.toks }:=by
  refine sr (λn s'=>∃i ys H',Inv Y [] (dG nt js σ) H' s'/\tn i s'.heap/\(∀b∈fp,H' b=none)/\W i n ys H') ?_ m0
   ⟨0,[],_,tR S I2 f2 a3 a8 (λx c hm=>ae.empty x c hm) ae.apart aE af (by omega) aa (λb o e=>by rw[ag (aj e Z)];exact e) (λb n U=>by rw[ag (ne_of_lt U)];exact n) a6 B (λ_=>rfl),T.keep _ _ _ az λb U o e=>aa b o e,λb U=>by rw[ag (ne_of_lt (af b U))];exact(f2 b U).1,w0⟩
  rintro n s3 ⟨i,ys,H3,J3,a7,aA,w3⟩
  rcases a2 i n ys H3 w3 with⟨a4,qn⟩ | ⟨go,NN,hN,step⟩
  .refine thn (T.done Y rfl rfl rfl a5 i [] s3 (dG nt js σ) H3 _ J3 (ah aA) a7 a4) λr s4 aw=>?_
   obtain⟨hr,I4⟩:=aw;subst hr;exact ax _ _ _ I4 qn
  .refine thn (T.item Y rfl rfl rfl a5 i [] s3 (dG nt js σ) H3 _ J3 (ah aA) a7 go) λr s4 au=>?_
   obtain⟨u,hr,h4⟩:=au;subst hr;refine thn h4 λ_ s5 ak=>?_
   obtain⟨x,H5,I5,r5,y5,a1,aK⟩:=ak;have g5:=aJ x (dG nt js σ) H5 _ on (step x H5 y5);refine thn (hg _ s5 _ H5 x u _ (I5.pinned (ah aK) (T.obj _ _ a1)) r5 g5) λ_ s6 an=>?_
   obtain⟨ai,H6,I6,aC,q6⟩:=an;refine thn (hc _ s6 ai H6 _ I6 q6) λok s7 ap=>?_
   obtain⟨H7,I7,q7⟩:=ap;have ad : ∀{s8:Shared} {H8:Hp} {ar:List V},Inv Y ([]++mX fp s5.heap) ai H8 s8->NN ar H8 ->
     ∃m,m < n/\∃i ys H',Inv Y [] (dG nt js σ) H' s8/\tn i s8.heap/\(∀b∈fp,H' b=none)/\W i m ys H':=λ{s8 H8 ar} I8 n8=>by
    obtain⟨m',hm,w8⟩:=hN ar H8 n8;have k8:=λb U o e=>I8.pin (b,o) (mem_append_right _ (mem_append_right _ (ju U e)))
    refine⟨m',hm,i+1,ar,H8,(I8.unpinned).wk aC,T.keep _ _ _ a1 λb U o e=>(k8 b U o e).1,λb U=>?_,w8⟩
    obtain⟨o,e,d⟩:=T.obj _ _ a1 b U;exact(k8 b U o e).2.1
   cases ok with
   | false =>
    rw[if_neg Bool.false_ne_true] at q7 ⊢;exact ad I7 q7
   | true =>
    rw[if_pos rfl] at q7 ⊢;refine thn (he _ s7 ai H7 _ I7 q7) λy s8 aq=>?_
    obtain⟨yv,H8,I8,r8,aB,aI,q8⟩:=aq;refine thn (qx (X:=Y) _ s8 ai H8 (.ref F.heap.objs.size) [yv] (.ref F.heap.objs.size) [y] (λ_ H9=>NN (ys++[yv]) H9) I8 rfl (.cons r8 .nil) ⟨_,ys,yv,rfl,rfl,aB,aI,q8⟩) λv9 s9 ao=>?_
    obtain⟨x9,H9,I9,r9,q9⟩:=ao;exact ad I9 q9
 subst aD;exact codeAny_compStart_list ay (T.self _ 0 _ _ _ (T.keep _ _ _ az λb U o e=>aa b o e) ay)
theorem aZ (S:jV X scope N nt js) (hi:PI X tg iter wi)
  (hg : ∀{cl C fp s H xe},PG (ce X scope N cl C fp s H xe) tg g) (ac:AC g nt)
  (hc : ∀{cl C fp s H xe},PTs (ce X scope N cl C fp s H xe) ifs tc)
  (he : ∀{cl C fp s H xe},PE (ce X scope N cl C fp s H xe) elt te)
  (hs : ∀x,foldedSetIterable iter X.env x=pure x:=by intro _;rfl) (ae:X.calm=true:=by exact rfl) :
  PE X (.ListComp elt [⟨tg,iter,ifs,0⟩] scope pos) (wT nt js wi g tc te):=by
 intro pins s σ H Q I h;rw[eval_ListComp];refine qp ae S hi hg ac hc he hs I h λ{cl C fp s2 H2 xe H3 s4 D} I2 f2 hC I4 qn=>?_
 obtain⟨mC,ad,_⟩:=id I4.loc;refine⟨mC,ad,λF aa=>?_⟩
 have B : ∀b o,b≠C->s4.heap.get? b=some o->F.get? b=some o:=λb o U e=>aa.extBut b o U e
 have lC : ∀{b o},s2.heap.get? b=some o->b≠C:=λe=>ne_of_lt (lt_trans (Heap.lt_size e) hC)
 have un:Un (frs X.stack) fp H2 H3 s2.heap F:=by
  have u:=I4.base;refine⟨λb o e n U Z=>B b o (lC e) (u.keep b o e n U Z),λb o e n U Z=>?_,u.free,λb o e Z=>?_,u.tups,u.frzs,u.tbls⟩
  .obtain⟨sl,e1⟩:=u.slot b o e n U Z
   exact⟨sl,B b _ (lC e) e1⟩
  .obtain⟨o',e1⟩:=u.there b o e Z
   exact⟨o',B b _ (lC e) e1⟩
 have Y:HOk X.prog X.w H3 F:=λb u e=>(I4.hok b u e).stay (λc v hc q=>B c v (by
   have cf:H3 C=none:=I4.free
   rintro rfl
   rcases hc with z | z
   .rw[z] at cf;rw[cf] at e;cases e
   .rw[cf] at z;cases z) q) (λ_ q=>q) λ_ _ q=>q
 exact⟨.ref D,H3,I2.call' (s':={ s4 with heap:=F }) I4.os un Y I4.bare (λb U=>by
  obtain⟨f0,f1,af,f3,f4,f5⟩:=f2 b U;exact⟨f3,f1,f4,f5⟩),rfl,qn⟩
theorem cH (i:Nat) {y:Str} {py F:Pos} (S:jV X scope N nt js) (hi:PI X tg iter wi)
  (hg : ∀{cl C fp s H xe},PG (ce X scope N cl C fp s H xe) tg g) (ae:AC g nt)
  (hc : ∀{cl C fp s H xe},PTs (ce X scope N cl C fp s H xe) ifs tc)
  (he : ∀{cl C fp s H xe},PE (ce X scope N cl C fp s H xe) elt te)
  (hs : ∀x,foldedSetIterable iter X.env x=pure x:=by intro _;rfl) (ai:X.calm=true:=by exact rfl) (hN:X.N.Nodup:=by assumption) (ac:X.N[i]? = some y:=by exact rfl) (hy:Loc X.env.scope y:=by first | exact Or.inl rfl | exact Or.inr rfl)
  (ag:swapsWith (.ListComp elt [⟨tg,iter,ifs,0⟩] scope pos) (some (.Name y py)) F.line X.env=pure true:=by rfl)
  (hf:X.fn y=true\/X.env.scope.names.lookup y=some .local:=by first | exact .inl rfl | exact .inr rfl | assumption) :
  PS X (.Assign [.Name y py] (.ListComp elt [⟨tg,iter,ifs,0⟩] scope pos) F) (vB (wT nt js wi g tc te) (dW i)):=by
 intro pins s σ H D I h;rw[exec_Assign_Name_used _ _ _ _ ag];refine wpAny_bind (wpAny_standAt (wpAny_bind ?_))
 show wpAny _ X.A (do let _ <- comprehension (.ListComp elt [⟨tg,iter,ifs,0⟩] scope pos) scope X.env _ (newList []) false (eval iter X.env) (some (assign (.Name y py) X.env))) _ _ s
 refine wpAny_bind (wpAny_mono (qp (Qf:=λ_ s'=>SP X pins D .next s') ai S hi hg ae hc he hs I h λ{cl C fp s2 H2 xe H3 s4 D'} I2 f2 hC I4 qn=>?_) (λ_ s' hq=>wpAny_pure (wpAny_pure hq)) λ_ _ e=>e)
 obtain⟨mC,ah,_⟩:=id I4.loc;have I5:Inv X pins σ H3 s4:=I2.call' (s':=s4) I4.os I4.base I4.hok I4.bare (λb hb=>by
  obtain⟨f0,f1,ak,f3,f4,f5⟩:=f2 b hb;exact⟨f3,f1,f4,f5⟩)
 show wpAny _ X.A (assign (.Name y py) X.env (.ref D')) _ _ s4
 have aa:C≠X.env.locals:=ne_of_gt (lt_trans I2.lt hC)
 have Y : ∀x c,X.env.cells.lookup x=some c->c≠C:=λx c e z=>by
  obtain⟨v,q⟩:=I2.cell x c e;exact lt_irrefl _ (lt_trans (z ▸ q.lt) hC)
 refine wpAny_assign_Name (qf I5 hN ac hy (v:=.ref D') rfl (λs6 I6 B=>?_) hf)
 obtain⟨ad,sb,af⟩:=B;have Z:C≠ad:=by
  rcases af with z | z
  .rw[z];exact aa
  .exact λe=>Y _ _ z e.symm
 refine⟨mC,ah.sameBut sb Z,λaj U=>⟨_,H3,Inv.turned (t':=s6.toks) (it:=C) I6 (λb o hb e=>U.extBut b o hb e) I4.free aa (.inr (le_trans I2.sz (le_of_lt hC))) Y (λp hp z=>?_),qn⟩⟩
 exact lt_irrefl _ (lt_trans (z ▸ Heap.lt_size (I2.pin p hp).1) hC)
end
section
variable {l:Expr}
def Bz:R2:=λx y H Q=>match x,y with
 | .ref p,.int i=>∃xs,H p=some (.tup xs)/\∃v,atI xs i=some v/\Q v H
 | _,_=>False
theorem ap:IxR X Bz:=sO.imp λx y H Q h=>by
 unfold Bz at h
 split at h
 .exact⟨_,rfl,_,rfl,h⟩
 .exact h.elim
def r1m (P:Addr->Hp->VK->Prop):List V->Hp->VK->Prop:=λxs H Q=>match xs with
 | [.ref p]=>P p H Q
 | _=>False
theorem zd {P:Addr->Hp->VK->Prop} {Q:VK} (h:r1m P xs H Q) : ∃p,xs=[.ref p]/\P p H Q:=by
 unfold r1m at h
 split at h
 .exact⟨_,rfl,h⟩
 .exact h.elim
theorem bo:bE X (.builtin "len") (r1m λp H Q=>∃ys,H p=some (.lst ys)/\Q (.int ys.length) H):=qe.imp λ_ _ _ h=>zd h
theorem eK:bE X (.builtin "len") (r1m λp H Q=>∃ys,H p=some (.tup ys)/\Q (.int ys.length) H):=bZ.imp λ_ _ _ h=>zd h
def iTm (K:PySem.W.Frag) (tl:TE):TI:=λσ H R=>tl σ H λx H1=>match x with
 | .ref a=>∃xs,H1 a=some (.tup xs)/\R (Itt K a) H1
 | _=>False
def iLm (K:PySem.W.Frag) (tl:TE):TI:=λσ H R=>tl σ H λx H1=>match x with
 | .ref a=>∃xs,H1 a=some (.lst xs)/\R (Itl K a) H1
 | _=>False
theorem jq (hK:X.K=K) (hl:PE X l tl):PI X tg l (iTm K tl):=by
 subst hK;intro pins s σ H R I h;refine thn (hl pins s σ H _ I h) λv B z=>?_
 obtain⟨x,H1,U,Z,F⟩:=z
 try dsimp only at F
 split at F
 .obtain⟨xs,hq,q⟩:=F
  cases Z;obtain⟨its,rv,p,hz⟩:=U.tuple (SqT.of hq);refine wpAny_pyIter_tuple (show B.heap.IsTuple _ its.toArray from p) ?_
  refine⟨B.heap.objs.size,[B.heap.objs.size],_,_,H1,rfl,U.kept (t':=B.toks) λb o e=>Heap.get?_push_of_some _ e,nA _ _,⟨_,Heap.get?_push_size _ rfl,rfl,rfl⟩,λb Y=>?_,q⟩
  have e:b=B.heap.objs.size:=by simpa using Y
  subst e;exact U.fpOk (le_refl _) (U.hok.fresh (le_refl _))
 .exact F.elim
theorem dr (hK:X.K=K) (hl:PE X l tl):PI X tg l (iLm K tl):=by
 subst hK;intro pins s σ H R I h;refine thn (hl pins s σ H _ I h) λv U z=>?_
 obtain⟨x,H1,F,Z,B⟩:=z
 try dsimp only at B
 split at B
 .obtain⟨xs,hq,q⟩:=B
  cases Z;obtain⟨its,rv,p,hz⟩:=F.list (SqL.of hq);refine wpAny_pyIter_list p.isList ?_
  refine⟨U.heap.objs.size,[U.heap.objs.size],_,_,H1,rfl,F.kept (t':=U.toks) λb o e=>Heap.get?_push_of_some _ e,qb _ _,⟨_,Heap.get?_push_size _ rfl,rfl,rfl⟩,λb Y=>?_,q⟩
  have e:b=U.heap.objs.size:=by simpa using Y
  subst e;exact F.fpOk (le_refl _) (F.hok.fresh (le_refl _))
 .exact B.elim
end
end L2
namespace Lw
open PySem L2
local macro_rules | `(tactic| ctx_has c) => `(tactic| exact ⟨rfl, rfl, rfl, by decide +kernel, rfl, by decide +kernel, by decide +kernel⟩)
local macro_rules | `(tactic| ctx_has z $S:ident) => do
  let i:=Lean.mkIdent
  let nd:=i `nd
  let hu:=i `hu
  let L:=i `L
  let vs:=i `vs
  let H:=i `H
  let Q:=i `Q
  let E:=i `E
  let h:=i `h
  let f:=i `f
  let cdv:=i `cdv
  let A:=i `A
  let outer:=i `outer
  let s:=i `s
  let hr:=i `hr
  `(tactic| (have $nd:ident:=aG.nd $S;refine FnL.ok $L $S (λ$vs $H $Q $E $h=>?_) (λ$f $cdv $A $outer $s $H $vs $Q $E $hr $h=>?_);rotate_left;have $hu:ident:=ue $hr;rotate_left))
local macro_rules
 | `(tactic| ctx_has v $ids*) => do
  let ns := "true_and eP Bz r1m iTm iLm vg cxK HI zC Ca DK Ez DO EZ Option.join_some pT EI zh DG IsB tCT Do Dh Bn fL xf EB Ea AV vB dW BQ tC tOp tUn qA tB EK tOr EF zK DQ Bc rn tCB sW iQ uI CC BX tDG sDP Gv Go rI0 rI rU rEq rNe By BC BE BV Br Cy Au AI rIL rIT rIS rSL rSQ rST Ci iL iT tML tMS vq mh rCT DA Ex vI Be rC rB wj nL zO zP qV iD Dm tDI DP xi tI Bp HY HM Hz HL HN Ch ox AD mN rCL Av Dy Ed vO zN rCS AJ En nj zS mU HO.dK.injEq HO.lst.injEq HO.tup.injEq HO.ins.injEq sy xo BM xE yU zH tSl me xc L2.gh List.map_cons List.map_nil List.length_cons List.length_nil List.replicate List.cons_append List.nil_append List.append_nil List.getElem?_cons_zero List.getElem?_cons_succ List.set_cons_zero List.set_cons_succ Option.some.injEq V.int.injEq V.ref.injEq V.str.injEq V.bl.injEq V.ty.injEq List.cons.injEq and_assoc and_true and_self exists_eq_left exists_eq_left' exists_eq_right exists_eq_right' exists_and_left exists_eq exists_eq' reduceCtorEq false_and and_false false_or or_false exists_false decide_eq_true_eq String.reduceEq String.reduceBEq Bool.or_true Bool.true_or Bool.or_false Bool.false_or or_true true_or if_true if_false Bool.not_eq_true' Nat.reduceAdd Nat.reduceSub Nat.zero_add List.map List.append_eq List.set Nat.add_zero xn".splitOn " "
  let xs : Array Lean.Ident := (ns.map fun x => Lean.mkIdent x.toName).toArray ++ ids
  let s ← `(tactic| simp only [$[$xs:ident],*])
  let d : Lean.TSyntax `tactic := ⟨((s.raw.setKind `Lean.Parser.Tactic.dsimp).setArg 0 (Lean.mkAtom "dsimp")).modifyArg 4 fun o => o.modifyArg 0 fun a => a.modifyArg 1 fun l => Lean.mkNullNode (l.getArgs.extract 0 (2 * ns.length - 1))⟩
  `(tactic| ((try $d:tactic); (try $s:tactic)))
 | `(tactic| kpf_say ($H:ident, $q:ident, $hq:ident, $hh:ident, $ss:ident) al $G:ident $o) => `(tactic| (refine ⟨by decide, λ$q $hq => ?_⟩; have $hh : upd $H $q $o $q = some $o := ab; have $ss : am $H (upd $H $q $o) := am.upd0 $hq; generalize upd $H $q $o = $G at $hh:ident $ss:ident ⊢))
local macro_rules | `(tactic| ctx_has o) => `(tactic| first | exact Or.inl rfl | exact Or.inr rfl)
local macro_rules | `(tactic| ctx_has m) => `(tactic| first | decide | omega)
variable {P:Program} {w:World} {K:PySem.W.Frag} {mg:Str->Option Value} {base:Heap}
abbrev gR:Stmt:=top 3
abbrev iH:Stmt:=top 4
abbrev fA:Stmt:=top 6
abbrev dw:Stmt:=top 8
abbrev gz:Stmt:=top 9
abbrev Ba:Stmt:=top 10
abbrev iw:Stmt:=top 11
abbrev cz:Stmt:=top 12
abbrev dh:Stmt:=top 13
abbrev dR:Stmt:=top 14
abbrev fI:Stmt:=top 15
abbrev dk:Stmt:=top 16
abbrev dZ:Stmt:=top 17
abbrev db:Stmt:=top 18
abbrev eB:Stmt:=top 19
abbrev dO:Stmt:=top 20
abbrev eZ:Stmt:=top 21
abbrev cE:Stmt:=top 23
abbrev jp:Stmt:=top 24
abbrev bO:Stmt:=top 25
abbrev cY:Stmt:=top 26
abbrev fj:Stmt:=top 27
abbrev cu:Stmt:=top 28
abbrev cx:Stmt:=top 29
abbrev jb:Stmt:=top 30
abbrev eV:Stmt:=top 32
abbrev gJ:Stmt:=top 33
abbrev dY:Stmt:=top 34
abbrev iq:Stmt:=top 35
abbrev eA:Stmt:=top 36
abbrev gP:Stmt:=top 37
abbrev fe:Stmt:=top 38
abbrev eQ:Stmt:=top 39
abbrev eY:Stmt:=top 40
abbrev gy:Stmt:=top 41
abbrev dJ:Stmt:=top 42
abbrev gx:Stmt:=top 43
abbrev eh:Stmt:=top 44
abbrev bn:Stmt:=top 45
abbrev fh:Stmt:=top 46
abbrev dz:Stmt:=top 47
abbrev fG:Stmt:=top 48
abbrev bX:Stmt:=top 49
abbrev bj:Stmt:=top 50
abbrev gA:Stmt:=top 51
abbrev cZ:Stmt:=top 52
abbrev cP:Stmt:=top 53
abbrev cw:Stmt:=top 54
abbrev gX:Stmt:=top 55
abbrev fJ:Stmt:=top 56
abbrev dg:Stmt:=top 57
abbrev kX:Stmt:=top 58
theorem sw:aG ["thing"] ["thing"] (ak gR):=by ctx_has c
theorem vJ:aG ["thing"] ["thing"] (ak iH):=by ctx_has c
theorem mt:aG ["hall","rooms","cell"] ["hall"] (ak fA):=by ctx_has c
theorem mP:aG ["leads","is_one","keys","led_to"] ["leads","is_one"] (ak dw):=by ctx_has c
theorem pP:aG ["thing"] ["thing"] (ak gz):=by ctx_has c
theorem EJ:aG ["leads","thing"] ["leads","thing"] (ak Ba):=by ctx_has c
theorem vd:aG ["leads","things"] ["leads","things"] (ak iw):=by ctx_has c
theorem jW:aG ["turning","filling"] ["turning","filling"] (ak cz):=by ctx_has c
theorem lG:aG ["turning","rooms"] ["turning","rooms"] (ak dh):=by ctx_has c
theorem kF:aG ["turning","wish"] ["turning","wish"] (ak dR):=by ctx_has c
theorem oq:aG ["turning","wish"] ["turning","wish"] (ak fI):=by ctx_has c
theorem lO:aG ["turning"] ["turning"] (ak dk):=by ctx_has c
theorem pe:aG ["turning","wish"] ["turning","wish"] (ak dZ):=by ctx_has c
theorem lP:aG ["turning","wish"] ["turning","wish"] (ak db):=by ctx_has c
theorem pG:aG ["turning","wish","steps"] ["turning","wish"] (ak eB):=by ctx_has c
theorem kC:aG ["turning","wish"] ["turning","wish"] (ak dO):=by ctx_has c
theorem oB:aG ["turning","wish","inner"] ["turning","wish"] (ak eZ):=by ctx_has c
theorem gW:aG ["turning","wish"] ["turning","wish"] (ak cE):=by ctx_has c
theorem uy:aG ["things"] ["things"] (ak jp):=by ctx_has c
theorem gM:aG ["wish","places","rows"] ["wish"] (ak bO):=by ctx_has c
theorem dB:aG ["wish"] ["wish"] (ak cY):=by ctx_has c
theorem mH:aG ["wishes","told","wish","plain"] ["wishes"] (ak fj):=by ctx_has c
theorem gF:aG ["turning","wishes","forms","found","wish","turned","plain"] ["turning","wishes","forms"] (ak cu):=by ctx_has c
theorem jy:aG ["turning","rooms"] ["turning","rooms"] (ak cx):=by ctx_has c
theorem tu:aG ["hall","turning"] ["hall","turning"] (ak jb):=by ctx_has c
theorem rS:aG ["_law_script","_law_start","_law_cells","_law_number","_law_cell"] ["_law_script","_law_start"] (ak eV):=by ctx_has c
theorem sg:aG ["_law_deal_here","_law_many","_law_number","_law_one","_law_other"] ["_law_deal_here","_law_many"] (ak gJ):=by ctx_has c
theorem pH:aG ["_law_deal_here","_law_many","_law_letters","_law_names_here","_law_k","_law_word","_law_place"] ["_law_deal_here","_law_many"] (ak dY):=by ctx_has c
theorem rF:aG ["_law_deal_here","_law_value","_law_pool_here","_law_k"] ["_law_deal_here"] (ak iq):=by ctx_has c
theorem pE:aG ["_law_deal_here","_law_names_here","_law_pool_here","_law_most","_law_rooms_here","_law_name","_law_some_here"] ["_law_deal_here","_law_names_here","_law_pool_here","_law_most"] (ak eA):=by ctx_has c
theorem rY:aG ["_law_deal_here","_law_things","_law_least","_law_left","_law_found","_law_k"] ["_law_deal_here","_law_things","_law_least"] (ak gP):=by ctx_has c
theorem oF:aG ["_law_deal_here","_law_low","_law_high","_law_one","_law_other"] ["_law_deal_here","_law_low","_law_high"] (ak fe):=by ctx_has c
theorem tH:aG ["_law_deal_here","_law_some_here","_law_rooms_here","_law_terms","_law_low","_law_high","_law_name","_law_a"] ["_law_deal_here","_law_some_here","_law_rooms_here"] (ak eQ):=by ctx_has c
theorem rN:aG ["_law_deal_here","_law_some_here","_law_pool_here","_law_rows_here","_law_k","_law_row"] ["_law_deal_here","_law_some_here","_law_pool_here"] (ak eY):=by ctx_has c
theorem tZ:aG ["_law_deal_here","_law_some_here","_law_pool_here","_law_many","_law_steps","_law_state","_law_value","_law_ends"] ["_law_deal_here","_law_some_here","_law_pool_here"] (ak gy):=by ctx_has c
theorem rQ:aG ["_law_deal_here","_law_names_here","_law_rooms_here","_law_pool_here","_law_sorts","_law_sort","_law_some_here","_law_low","_law_rest","_law_inner"] ["_law_deal_here","_law_names_here","_law_rooms_here","_law_pool_here","_law_sorts"] (ak dJ):=by ctx_has c
theorem oV:aG ["_law_deal_here","_law_things","_law_some_here","_law_others","_law_found","_law_k"] ["_law_deal_here","_law_things"] (ak gx):=by ctx_has c
theorem pJ:aG ["_law_leads_here","_law_things"] ["_law_leads_here","_law_things"] (ak eh):=by ctx_has c
theorem fR:aG ["_law_turning","_law_wish_here","_law_names_here","_law_values","_law_inner","_law_found","_law_steps"] ["_law_turning","_law_wish_here"] (ak bn):=by ctx_has c
theorem oz:aG ["_law_found","_law_thing","_law_key","_law_at"] ["_law_found","_law_thing","_law_key"] (ak fh):=by ctx_has c
theorem mW:aG ["_law_things","_law_keys","_law_found","_law_k"] ["_law_things","_law_keys"] (ak dz):=by ctx_has c
theorem nK:aG ["_law_things"] ["_law_things"] (ak fG):=by ctx_has c
theorem iS:aG ["_law_wish_here","_law_rows_here"] ["_law_wish_here"] (ak bX):=by ctx_has c
theorem fW:aG ["_law_deal_here","_law_wish_here","_law_cells","_law_steps","_law_places","_law_rows_here"] ["_law_deal_here","_law_wish_here"] (ak bj):=by ctx_has c
theorem pN:aG ["_law_leads_here","_law_thing","_law_found"] ["_law_leads_here","_law_thing"] (ak gA):=by ctx_has c
theorem jj:aG ["_law_deal_here","_law_names_here","_law_pool_here","_law_turning","_law_rooms_here","_law_name","_law_ring","_law_room","_law_after","_law_other","_law_found","_law_value"] ["_law_deal_here","_law_names_here","_law_pool_here","_law_turning"] (ak cZ):=by ctx_has c
theorem iO:aG ["_law_deal_here","_law_names_here","_law_rooms_here","_law_pool_here","_law_turning","_law_sorts","_law_wishes","_law_k","_law_wish_here","_law_forms"] ["_law_deal_here","_law_names_here","_law_rooms_here","_law_pool_here","_law_turning"] (ak cP):=by ctx_has c
theorem jL:aG ["_law_deal_here","_law_most","_law_names_here","_law_pool_here","_law_turning","_law_rooms_here","_law_wishes","_law_way_here","_law_cells"] ["_law_deal_here","_law_most"] (ak cw):=by ctx_has c
theorem qQ:aG ["_law_leads_here","_law_found","_law_key"] ["_law_leads_here"] (ak gX):=by ctx_has c
theorem mv:aG ["_law_one","_law_other","_law_found","_law_key","_law_between"] ["_law_one","_law_other"] (ak fJ):=by ctx_has c
theorem jr:aG ["_law_wish_here","_law_turnings","_law_turning"] ["_law_wish_here","_law_turnings"] (ak dg):=by ctx_has c
theorem Bb:aG ["_law_script","_law_deal_here","_law_hall","_law_turning","_law_pool_here","_law_names_here","_law_rooms_here","_law_filling","_law_name","_law_room","_law_turnings","_law_cell","_law_back_here","_law_free","_law_whole","_law_some_here","_law_other","_law_one","_law_wish_here","_law_found","_law_on"] ["_law_script"] (ak kX):=by ctx_has c
def nE:List V:=[.str "in",.str "from",.str "to",.str "end"]
structure Txt (w:World) (K:PySem.W.Frag) (mg:Str->Option Value) (base:Heap):Prop where
 b_len:mg "len" = none
 b_max:mg "max" = none
 b_min:mg "min" = none
 b_sum:mg "sum" = none
 b_list:mg "list" = none
 b_reversed:mg "reversed" = none
 b_range:mg "range" = none
 b_isinstance:mg "isinstance" = none
 b_all:mg "all" = none
 b_any:mg "any" = none
 b_dict:mg "dict" = none
 b_tuple:mg "tuple" = none
 b_set:mg "set" = none
 b_int:mg "int" = none
 b_sorted:mg "sorted" = none
 b_bool:mg "bool" = none
 b_str:mg "str" = none
 c_MARKS:yZ K mg "MARKS" nE
 c_LONGEST_NAME : ∃t,mg "LONGEST_NAME" = some (.int 8 t)
 at_is_name:mg "is_name" = some (.ref (iR mg "is_name"))
 at_is_number:mg "is_number" = some (.ref (iR mg "is_number"))
 bm:iV mg base
 at_TURNERS:mg "TURNERS" = some (.ref (iR mg "TURNERS"))
 tb_TURNERS:CZ w K (iR mg "TURNERS")
def qL (x:Str):Str:=x ++ ".<locals>." ++ "<lambda>"
def tabs:List (Addr × Addr × Str):=[(135,133,qL "plain_table"),(142,138,qL "plain_form")]
def bi (m z n:Int) (l:Addr):List (Key × V):=[(Sum.inr "mixed",.int m),(Sum.inr "seed",.int z),(Sum.inr "number",.int n),(Sum.inr "left",.ref l)]
structure aC (H:Hp) (d l:Addr):Prop where
 ex : ∃(m sd n:Int) (xs:List Int),H d=some (.dK (bi m sd n l))/\H l=some (.lst (xs.map V.int))/\0<=n/\(∀x∈xs,0<=x)/\0<=sd/\sd < 2147483648/\xs.length<=63
def But (d l:Addr) (H H':Hp):Prop:=∀b o,b≠d->b≠l->H b=some o->H' b=some o
theorem Dx : ¬ ((Sum.inr (Str.ofString "mixed"):Key)=Sum.inr (Str.ofString "seed")):=by decide+kernel
theorem EN : ¬ ((Sum.inr (Str.ofString "mixed"):Key)=Sum.inr (Str.ofString "number")):=by decide+kernel
theorem Ho : ¬ ((Sum.inr (Str.ofString "mixed"):Key)=Sum.inr (Str.ofString "left")):=by decide+kernel
theorem Cm : ¬ ((Sum.inr (Str.ofString "seed"):Key)=Sum.inr (Str.ofString "number")):=by decide+kernel
theorem Dg : ¬ ((Sum.inr (Str.ofString "seed"):Key)=Sum.inr (Str.ofString "left")):=by decide+kernel
theorem Eu : ¬ ((Sum.inr (Str.ofString "number"):Key)=Sum.inr (Str.ofString "left")):=by decide+kernel
theorem ql (m z n:Int) (l:Addr):bu (bi m z n l) (Sum.inr "mixed")=some (.int m):=by unfold bi;rw[bc rfl]
theorem tO (m z n:Int) (l:Addr):bu (bi m z n l) (Sum.inr "seed")=some (.int z):=by unfold bi;rw[aQ Dx,bc rfl]
theorem jn (m z n:Int) (l:Addr):bu (bi m z n l) (Sum.inr "number")=some (.int n):=by unfold bi;rw[aQ EN,aQ Cm,bc rfl]
theorem tM (m z n:Int) (l:Addr):bu (bi m z n l) (Sum.inr "left")=some (.ref l):=by unfold bi;rw[aQ Ho,aQ Dg,aQ Eu,bc rfl]
theorem oo (m z n y:Int) (l:Addr):bp (bi m z n l) (Sum.inr "number") (.int y)=bi m z y l:=by
 unfold bp;rw[dL,jn];simp only[isSome_some,if_true,bi,map_cons,map_nil,if_neg EN,if_neg Cm,if_neg (Ne.symm Eu)]
theorem za (m z n y:Int) (l:Addr):bp (bi m z n l) (Sum.inr "seed") (.int y)=bi m y n l:=by
 unfold bp;rw[dL,tO];simp only[isSome_some,if_true,bi,map_cons,map_nil,if_neg Dx,if_neg (Ne.symm Cm),if_neg (Ne.symm Dg)]
theorem um (m z n:Int) (l:Addr):(bi m z n l).length < sizeLine:=by show 4 < sizeLine;decide
theorem dq {j:Int} (z:0<=i) (h1:i < 4294967296):zV i j:=.inl ⟨by omega,by omega⟩
def vV:Sp:=λvs H Q _=>∃(d l:Addr) (m:Int),vs=[.ref d,.int m]/\aC H d l/\0 < m/\m < 18446744073709551616/\∀(r:Int) (H':Hp),0<=r->r < m->aC H' d l->But d l H H'->Q (.int r) H'
theorem vj (m z n:Int) (l:Addr):fE [] (bi m z n l)=bi m z n l:=by
 have e1:bp ([]:List (Key × V)) (Sum.inr (Str.ofString "mixed")) (.int m)=[(Sum.inr (Str.ofString "mixed"),.int m)]:=cF _ kh
 have e2:bp [((Sum.inr (Str.ofString "mixed"):Key),V.int m)] (Sum.inr (Str.ofString "seed")) (.int z)=[(Sum.inr (Str.ofString "mixed"),.int m),(Sum.inr (Str.ofString "seed"),.int z)]:=cF _ (by rw[aQ Dx,kh])
 have B:bp [((Sum.inr (Str.ofString "mixed"):Key),V.int m),(Sum.inr (Str.ofString "seed"),.int z)] (Sum.inr (Str.ofString "number")) (.int n)=[(Sum.inr (Str.ofString "mixed"),.int m),(Sum.inr (Str.ofString "seed"),.int z),(Sum.inr (Str.ofString "number"),.int n)]:=cF _ (by rw[aQ EN,aQ Cm,kh])
 have F:bp [((Sum.inr (Str.ofString "mixed"):Key),V.int m),(Sum.inr (Str.ofString "seed"),.int z),(Sum.inr (Str.ofString "number"),.int n)] (Sum.inr (Str.ofString "left")) (.ref l)=bi m z n l:=cF _ (by rw[aQ Ho,aQ Dg,aQ Eu,kh])
 show bp (bp (bp (bp ([]:List (Key × V)) (Sum.inr (Str.ofString "mixed")) (.int m)) (Sum.inr (Str.ofString "seed")) (.int z)) (Sum.inr (Str.ofString "number")) (.int n)) (Sum.inr (Str.ofString "left")) (.ref l)=_
 rw[e1,e2,B,F]
theorem my (ns:List Int) (lo hi:Option Int) : ∃ms:List Int,dQ (ns.map V.int) lo hi=ms.map V.int/\ms.length<=ns.length:=by
 unfold dQ;refine⟨(ns.drop (HT.sIx (ns.map V.int).length 0 lo)).take (HT.sIx (ns.map V.int).length (ns.map V.int).length hi - HT.sIx (ns.map V.int).length 0 lo),by simp[map_take,map_drop],?_⟩
 rw[length_take,length_drop];omega
theorem uZ {i:Nat} {x:V} (h:(ms.map V.int)[i]? = some x) : ∃v,x = .int v:=by
 rw[List.getElem?_map] at h;cases e:ms[i]? with
 | none=>rw[e] at h;cases h
 | some z=>rw[e] at h;exact⟨z,(Option.some.inj h).symm⟩
def Dr (K:PySem.W.Frag):Sp:=λvs H Q _=>∃(a:Addr) (ns:List Int) (st:Int),vs=[.ref a,.int st]/\SqL K H a (ns.map V.int)/\ns.length<=63/\0<=st/\st<=63/\∀(d l:Addr) (H':Hp),H d=none->H l=none->aC H' d l->am H H'->Q (.ref d) H'
theorem aS {m:Int} {Q:VK} {E:XK} (D:aC H d l) (z:0 < m) (m1:m < 18446744073709551616) (h : ∀(r:Int) (H':Hp),0<=r->r < m->aC H' d l->But d l H H'->Q (.int r) H'):vV [.ref d,.int m] H Q E:=⟨d,l,m,rfl,D,z,m1,h⟩
theorem But.refl (H:Hp):But d l H H:=λ_ _ _ _ e=>e
theorem But.trans (a:But d l H H1) (b:But d l H1 H2):But d l H H2:=λc o h1 h2 e=>b c o h1 h2 (a c o h1 h2 e)
theorem But.new {p:Addr} (a:But d l H H1) (z:H1 p=none):But d l H (upd H1 p o):=λc u h1 h2 e=>by
 have e1:=a c u h1 h2 e;rw[ag (aj e1 z)];exact e1
theorem But.same (a:But d l H H1) (s:am H1 H2):But d l H H2:=λc u h1 h2 e=>s c u (a c u h1 h2 e)
theorem aC.ne {p:Addr} (D:aC H d l) (z:H p=none):p≠d/\p≠l:=by
 obtain⟨m,F,n,xs,B,hl,_⟩:=D.ex;exact⟨(aj B z).symm,(aj hl z).symm⟩
theorem aC.same (D:aC H d l) (s:am H H'):aC H' d l:=by
 obtain⟨m,z,n,xs,B,hl,r⟩:=D.ex;exact⟨m,z,n,xs,s _ _ B,s _ _ hl,r⟩
theorem aC.new {p:Addr} (D:aC H d l) (z:H p=none):aC (upd H p o) d l:=D.same (am.upd0 z)
theorem aC.put {p:Addr} (D:aC H d l) (h1:p≠d) (h2:p≠l):aC (upd H p o) d l:=by
 obtain⟨m,z,n,xs,B,hl,r⟩:=D.ex;exact⟨m,z,n,xs,by rw[ag h1.symm];exact B,by rw[ag h2.symm];exact hl,r⟩
theorem But.put {p:Addr} (a:But d l H H1) (z:H p=none):But d l H (upd H1 p o):=λc u h1 h2 e=>by
 rw[ag (aj e z)];exact a c u h1 h2 e
theorem But.free {p:Addr} (a:But d l H H1) (D:aC H1 d l) (z:H1 p=none):H p=none:=by
 obtain⟨h1,h2⟩:=D.ne z;cases e:H p with
 | none=>rfl
 | some o=>rw[a p o h1 h2 e] at z;cases z
theorem gB {xs:List α} (z:0<=i) (h1:i < (xs.length:Int)) : ∃v,atI xs i=some v/\v∈xs:=by
 obtain⟨n,rfl⟩:=Int.eq_ofNat_of_zero_le z;have hn:n < xs.length:=by omega
 exact⟨xs[n],aM (by simp[hn]),List.getElem_mem hn⟩
theorem jz {p:Addr} {m:Int} {Q:VK} {E:XK} (D:aC H d l) (z:H p=none) (Y:0 < m) (m1:m < 18446744073709551616) (hm:m=(vs.length:Int)) (h : ∀(r:Int) (v:V) (H':Hp),v∈vs->atI vs r=some v->aC H' d l->But d l H H'->H' p=some (.lst vs)->Q (.int r) H'):vV [.ref d,.int m] (upd H p (.lst vs)) Q E :=
 aS (D.new z) Y m1 λr H' Z r1 F B=>by
  obtain⟨v,e,U⟩:=gB (xs:=vs) Z (by omega)
  exact h r v H' U e F (((But.refl H).new z).trans B) (B p _ (D.ne z).1 (D.ne z).2 ab)
abbrev Dz0:=Fn P w K mg base "_law_draw" 1 ["_law_deal_here","_law_many"] (vV)
theorem rO (T:Txt w K mg base) (L:FnL K mg "_law_draw" gJ ["_law_deal_here","_law_many"]) : @Dz0 P w K mg base:=by
 ctx_has z sg <;> obtain⟨d,l,m,rfl,D,Z,m1,k⟩:=h
 .rfl
 refine⟨_,(af (im PassesOwn.never (PW.pt (fK (ay aT (gC hu (pvM 0) au) ae) (fK (ay uc (aE qe T.b_len (aa (gC hu (pvM 0) au) ac)) ae) (eS (ay aT (gC hu (pvM 0) au) ae))))) (ai (fV hu (pvM 0) au (DY PySem.F.slot_list_pop PySem.F.type_list_pop Du (gC hu (pvM 0) au)) rfl)))
  (af (az 2 (gC hu (pvM 0) au))
  (af (aK (ay uc (pvM 2) ae) (af (fV hu (pvM 0) au (aN zy (pvM 2) (pvM 1)) rfl)
  (ai (aB (aN fH (pvM 2) (pvM 1))))) aD)
  (af (az 3 (aN fH (aN bz (aN ik (gC hu (pvM 0) au) ae) ae) ae))
  (af (fV hu (pvM 0) au (aN fH (aN bz (aN ik (pvM 3) ae) ae) ae) rfl)
  (af (az 4 (aN fH (aN ik (gC hu (pvM 0) au) (gC hu (pvM 0) au)) ae))
  (ai (aB (aN fH (aN bz (aN ik (aN fH (aN ik (pvM 3) (pvM 3)) ae) ae) (pvM 4)) (pvM 1)))))))))),?_⟩
 obtain⟨U,sd,n,xs,hd,hl,n0,hx,s0,s1,ad⟩:=D.ex;have dl:d≠l:=aX hd hl (by intro z;cases z)
 refine gL (λμ σ H'=>∃(n:Int) (xs:List Int),σ=[some (.ref d),some (.int m),none,none,none]/\H' d=some (.dK (bi U sd n l))/\H' l=some (.lst (xs.map V.int))/\0<=n/\(∀x∈xs,0<=x)/\xs.length<=63/\But d l H H'/\μ=xs.length)
  (λσ H'=>∃(n:Int) (xs:List Int),σ=[some (.ref d),some (.int m),none,none,none]/\H' d=some (.dK (bi U sd n l))/\H' l=some (.lst (xs.map V.int))/\0<=n/\(∀x∈xs,0<=x)/\xs.length<=63/\But d l H H')
  ⟨_,n,xs,rfl,hd,hl,n0,hx,ad,λb o _ _ e=>e,rfl⟩ ?_ ?_
 .rintro R hR μ σ H1 ⟨n1,xs1,rfl,hd1,hl1,n01,hx1,hlen1,bt,rfl⟩
  have hr:=hR _ _ ⟨n1,xs1,rfl,hd1,hl1,n01,hx1,hlen1,bt⟩;ctx_has v hd1 hl1 jn tM ql
  refine cG (λh1=>?_) (λ_=>hr)
  refine cG (λh2=>?_) (λ_=>hr)
  refine cG (λh3=>?_) (λ_=>hr)
  rcases List.eq_nil_or_concat xs1 with rfl | ⟨ys,z,rfl⟩
  .simp at h2
  refine⟨λσ' H'=>σ'=[some (.ref d),some (.int m),none,none,none]/\H'=upd (upd H1 l (.lst (ys.map V.int))) d (.dK (bi U sd z l)),?_,V.int z,by simp,bi U sd n1 l,by rw[ag dl];exact hd1,um _ _ _ _,by rw[oo];simp⟩
  rintro _ _ ⟨rfl,rfl⟩
  refine⟨ys.length,by simp,rfl,z,ab,ys,by rw[ag dl.symm,ab],hx1 z (by simp),λx hx=>hx1 x (by simp[hx]),by simp at hlen1;omega,λb o h1 h2 e=>?_,rfl⟩
  rw[ag h1,ag h2];exact bt b o h1 h2 e
 .rintro σ H1 ⟨n1,xs1,rfl,hd1,hl1,n01,hx1,hlen1,bt⟩
  ctx_has v hd1 hl1 jn tM ql tO um oo za ab
  have Y : ∀(r B n':Int),0<=r->r < m->0<=n'->0<=B->B < 2147483648->Q (.int r) (upd H1 d (HO.dK (bi U B n' l))):=λr B n' r0 r1 aj h0 h1 =>
   k r _ r0 r1 ⟨U,B,n',xs1,ab,by rw[ag dl.symm];exact hl1,aj,hx1,h0,h1,hlen1⟩ λb o h1 h2 e=>by rw[ag h1];exact bt b o h1 h2 e
  refine cG (λh1=>?_) (λh1=>?_)
  .exact⟨⟨Z,m1⟩,Z,Y _ _ _ (Int.emod_nonneg _ (by omega)) (Int.emod_lt_of_pos _ Z) (Int.ediv_nonneg (by omega) (by omega)) s0 s1⟩
  .generalize hone:(sd * 48271+7919) % 2147483647=one
   have o0:0<=one:=by omega
   have o1:one < 2147483647:=by omega
   generalize ak:(one * 40692+104729) % 2147483399=ah;have p0:0<=ah:=by omega
   have p1:ah < 2147483399:=by omega
   have q0:=Int.emod_nonneg (one * one) (show(2147483629:Int)≠0 by decide)
   have q1:=Int.emod_lt_of_pos (one * one) (show(0:Int) < 2147483629 by decide)
   exact⟨dq s0 (by omega),by decide,dq o0 (by omega),by decide,dq p0 (by omega),by decide,dq o0 (by omega),by decide,dq q0 (by omega),Z,
    Y _ _ _ (Int.emod_nonneg _ (by omega)) (Int.emod_lt_of_pos _ Z) n01 p0 (by omega)⟩
abbrev Dz1:=Fn P w K mg base "_law_deal" 1 ["_law_script","_law_start"] (Dr K)
theorem sh (T:Txt w K mg base) (L:FnL K mg "_law_deal" eV ["_law_script","_law_start"]) : @Dz1 P w K mg base:=by
 ctx_has z rS <;> obtain⟨a,ns,st,rfl,hS,aw,ay,a0,k⟩:=h
 .rfl
 refine⟨_,(af (cH 2 (N:=["_law_cell"]) (nt:=1) (js:=[]) (aH ["_law_script","_law_start","_law_cells","_law_number","_law_cell"] (ak eV).names) (wE K (bG Dt (pvM 0) (bN (pvM 1)) (bN ae))) (aA 0) aP aV (aE (xZ rfl) T.b_max (aa (pvM 0) (aa (aN gN ae (pvM 0)) ac))))
  (af (az 3 (aN bz ae (pvM 1)))
  (af (bC (dr (K:=K) rfl (pvM 2)) (aA 4) (ai (az 3 (aN fH (aN bz (aN ik (pvM 3) ae) (pvM 4)) ae))))
  (ai (aB (BN (kx au (aN fH (aE (vh rfl) T.b_sum (aa (bG Dt (pvM 0) cB (bN ae)) ac)) ae) (kx au (pvM 3) (kx au ae (kx au (vU rfl rfl T.b_list rfl T.b_reversed (pvM 2)) Cv)))) rfl rfl (by nofun) (by decide))))))),?_⟩
 ctx_has v
 refine⟨_,hS,λp hp=>⟨_,ab,λD Z=>?_⟩⟩
 have pD:D≠p:=by rintro rfl;rw[ab] at Z;cases Z
 obtain⟨ms,ap,a1⟩:=my ns (some st) (some 63);rw[ap] at Z ⊢;rw[ag pD] at Z;refine cD bB (λi ys H2=>∃cs:List Int,ys=cs.map V.int/\cs.length=i/\(∀x∈cs,0<=x)/\H2 p=some (.lst (ms.map V.int))/\H2 D=some (.lst ys)/\am H H2)
  ⟨[],rfl,rfl,by simp,by rw[ag pD.symm,ab],ab,(am.upd0 hp).upd_new (by rw[ag pD];exact Z)⟩ (λi ys H2 an=>by obtain⟨_,_,_,_,h,_⟩:=an;exact(.of h)) ?_ ?_
 .rintro i x ys H2 hi F ⟨cs,rfl,rfl,hc,h1,h2,sm⟩
  obtain⟨v,rfl⟩:=uZ F;ctx_has v h2
  have hi:cs.length < 63:=by simp at hi;omega
  refine⟨by simp;exact ax (by omega),cs++[if 0 - v > v then 0 - v else v],by simp,by simp,λx F=>?_,by rw[ag pD.symm];exact h1,ab,λb o e=>?_⟩
  .rcases mem_append.mp F with q | q
   .exact hc x q
   .rw[mem_singleton.mp q];split <;> omega
  .rw[ag (aj e Z)];exact sm b o e
 .rintro ys H2 ⟨cs,rfl,hc,hpos,h1,h2,sm⟩
  have ao:cs.length<=63:=by simp at hc;omega
  ctx_has v h2
  refine bR bB (λi σ H3=>∃(z:Int) (v:Option V),σ=[some (.ref a),some (.int st),some (.ref D),some (.int z),v]/\0<=z/\z < 2147483648/\H3=H2)
   ⟨_,_,rfl,by omega,by omega,rfl⟩ (λi σ H3 ah=>by obtain⟨_,_,_,_,_,h⟩:=ah;exact(by rw[h];exact .of h2)) ?_ ?_
  .rintro i x σ H3 hi F ⟨z,v,rfl,z0,z1,rfl⟩
   obtain⟨y,rfl⟩:=uZ F;ctx_has v
   exact⟨dq z0 (by omega),by decide,by omega,by omega⟩
  .rintro σ H3 ⟨z,v,rfl,z0,z1,rfl⟩
   ctx_has v h2 Bn
   intro d hd;refine⟨_,(sm.upd_new hd).seq hS,λp2 Y=>?_⟩
   have U:p2≠d:=by rintro rfl;rw[ab] at Y;cases Y
   have B:H3 p2=none:=by rwa [ag U] at Y
   obtain⟨xs,av,_⟩:=my ns none (some 1);rw[av];have ar:D≠p2:=aj h2 B
   have aq:D≠d:=aj h2 hd
   refine⟨xs,.of ab,by decide,_,by rw[ag ar,ag aq];exact h2,λl hl=>?_⟩
   have l1:l≠p2:=by rintro rfl;rw[ab] at hl;cases hl
   have l2:l≠d:=by rintro rfl;rw[ag U.symm,ab] at hl;cases hl
   have ad:H3 l=none:=by rwa [ag l1,ag l2] at hl
   refine⟨by rw[ag l2.symm,ag U.symm,ab],bi (xs.sum % 2) z 0 l,rfl,by show 4<=15;decide,?_⟩
   rw[vj];refine k d l _ (sm.free hd) (sm.free ad) ⟨_,z,0,cs.reverse,ab,by rw[ag l2,ab,List.map_reverse],by omega,λx F=>hpos x (List.mem_reverse.mp F),z0,z1,by simpa using ao⟩ λb o e=>?_
   have e3:=sm b o e;rw[ag (aj e3 hd),ag (aj e3 ad),ag (aj e3 B),ag (aj e3 hd)];exact e3
def Cp:Sp:=λvs H Q _=>∃(d l:Addr) (m:Int),vs=[.ref d,.int m]/\aC H d l/\0<=m/\m<=20/\∀(p:Addr) (ws:List Str) (H':Hp),H p=none->cK ws->ws.length=m.toNat->H' p=some (.lst (ws.map V.str))->aC H' d l->But d l H H'->Q (.ref p) H'
theorem AG {z:Str} (U:bS z) {P:Str->Prop} (h:P (oj z)):z.length<=sizeLine/\∃c,atI z.cps.toList 0=some c/\∃i rest,Builtin.Str.occurrences (Str.ofString "abcdefghijklmnopqrstuvwxyz") { cps := #[c] } 0 (Str.ofString "abcdefghijklmnopqrstuvwxyz").length 1=i :: rest/\(0:Int) < 26 /\
  (Str.ofString "abcdefghijklmnopqrstuvwxyz").length<=sizeLine/\∃c,atI (Str.ofString "abcdefghijklmnopqrstuvwxyz").cps.toList (((i:Nat)+1:Int) % 26)=some c/\z.length<=sizeLine/\(Str.mk #[c]).length+(Txt.slice z (some 1) none).length<=sizeLine/\P ((Str.mk #[c])++Txt.slice z (some 1) none):=by
 obtain⟨c,cs,e,Y,Z,hl⟩:=U.cons;have B:z.length<=sizeLine:=le_of_lt (ax (le_trans U.le (by decide)))
 have hs:=Txt.slice_le z (some 1) none;have hw:=U.le;refine⟨B,c,by rw[e];exact uv _ _,_,_,pK Y,by decide,lu,_,mM (by omega) (by omega),B,le_of_lt (ax (by show 1+_<=1000;omega)),?_⟩
 have F:=Y;simp only[bJ,Bool.and_eq_true,decide_eq_true_eq] at F;have hl1:z.length=cs.length+1:=by rw[<- kb,e];rfl
 have key:(Str.mk #[97+((((c - 97:Nat):Int)+1) % 26).toNat])++Txt.slice z (some 1) none=oj z:=by
  apply BD
  rw[jw,kH,e,hl1];have e1:97+((((c - 97:Nat):Int)+1) % 26).toNat=uN c:=by unfold uN;omega
  have e2:HT.sIx (cs.length+1) 0 (some 1)=1:=by
   show(if (1:Int) < 0 then((1:Int)+((cs.length+1:Nat):Int)).toNat else min (1:Int).toNat (cs.length+1))=1
   rw[if_neg (by decide)]
   show min 1 (cs.length+1)=1
   omega
  rw[e1,e2,HT.sIx_none];simp[oj,e,Bh]
 rw[key];exact h
theorem gK {Dn:lN} {p:Addr} {Z U Y:Option V} {wd:Str} (hw:bS wd) (ag:ws.length<=20) (hp:H p=some (.lst (ws.map V.str)))
  (ac : ∀(B:Str) (H':Hp),bS B->B∉ws->B∉du->am H H'->Dn.nx [some (.ref d),Z,some (.str (Str.ofString "abcdefghijklmnopqrstuvwxyz")),some (.ref p),U,some (.str B),Y] H') :
  wx
   (tOr (qA (tOp (Av false) (eP 5) (eP 3)))
    (qA (tOp (Av false) (eP 5) (CC (iQ (tC (V.str "in")) (iQ (tC (V.str "from")) (iQ (tC (V.str "to")) (iQ (tC (V.str "end")) uI))))))))
   (vB (tOp rCS (tOp rIS (eP 2) (tOp (rI (λx j=>0 < j) λi j=>V.int (i % j)) (tOp (rI0 λi j=>V.int (i+j)) (tMS mh (eP 2) (iQ (tOp rIS (eP 5) (tC (V.int 0))) uI)) (tC (V.int 1))) (tC (V.int 26))))
     (tSl Ci (eP 5) (xc (tC (V.int 1))) me)) (dW 5))
   Dn [some (.ref d),Z,some (.str (Str.ofString "abcdefghijklmnopqrstuvwxyz")),some (.ref p),U,some (.str wd),Y] H:=by
 obtain⟨ad,h0⟩:=yk hw (F:=ws++du) (by simp[du];omega)
 refine gL (λμ σ H'=>∃B:Str,σ=[some (.ref d),Z,some (.str (Str.ofString "abcdefghijklmnopqrstuvwxyz")),some (.ref p),U,some (.str B),Y]/\bS B/\nW μ B∉ws++du/\am H H')
  (λσ H'=>∃B:Str,σ=[some (.ref d),Z,some (.str (Str.ofString "abcdefghijklmnopqrstuvwxyz")),some (.ref p),U,some (.str B),Y]/\bS B/\B∉ws/\B∉du/\am H H')
  ⟨ad,wd,rfl,hw,h0,am.refl _⟩ ?_ ?_
 .rintro R hR μ σ H1 ⟨w1,rfl,n1,f1,sm⟩
  have af:=sm _ _ hp;have step : ∀H2,am H H2->w1∈ws++du->∀ σ' H',(σ'=[some (.ref d),Z,some (.str (Str.ofString "abcdefghijklmnopqrstuvwxyz")),some (.ref p),U,some (.str (oj w1)),Y]/\H'=H2)->∃m',m' < μ/\∃B:Str,σ'=[some (.ref d),Z,some (.str (Str.ofString "abcdefghijklmnopqrstuvwxyz")),some (.ref p),U,some (.str B),Y]/\bS B/\nW m' B∉ws++du/\am H H':=λH2 aa ae=>by
   rintro _ _ ⟨rfl,rfl⟩
   cases μ with
   | zero=>exact absurd ae f1
   | succ μ=>exact⟨μ,Nat.lt_succ_self _,oj w1,rfl,BH n1,f1,aa⟩
  ctx_has v af
  refine⟨rfl,yJ _,?_⟩
  rw[mK];refine cG (λh=>?_) (λh=>?_)
  .exact⟨_,step H1 sm (mem_append_left _ (by simpa using h)),AG n1 (P:=λz=>[some (V.ref d),Z,some (.str (Str.ofString "abcdefghijklmnopqrstuvwxyz")),some (.ref p),U,some (.str z),Y]=[some (V.ref d),Z,some (.str (Str.ofString "abcdefghijklmnopqrstuvwxyz")),some (.ref p),U,some (.str (oj w1)),Y]/\H1=H1) ⟨rfl,rfl⟩⟩
  .refine⟨by decide,λq hq=>⟨_,ab,rfl,by decide+kernel,?_⟩⟩
   have aa:am H (upd H1 q (.lst (du.map V.str))):=sm.upd_new hq
   show(if inV (V.str w1) (du.map V.str)=true then _ else _)
   rw[mK];refine cG (λh2=>?_) (λh2=>?_)
   .exact⟨_,step _ aa (mem_append_right _ (by simpa using h2)),AG n1 (P:=λz=>[some (V.ref d),Z,some (.str (Str.ofString "abcdefghijklmnopqrstuvwxyz")),some (.ref p),U,some (.str z),Y]=[some (V.ref d),Z,some (.str (Str.ofString "abcdefghijklmnopqrstuvwxyz")),some (.ref p),U,some (.str (oj w1)),Y]/\_=_) ⟨rfl,rfl⟩⟩
   .exact hR _ _ ⟨w1,rfl,n1,by simpa using h,by simpa using h2,aa⟩
 .rintro σ H1 ⟨w1,rfl,n1,f1,f2,sm⟩
  exact ac w1 H1 n1 f1 f2 sm
abbrev Dz2:=Fn P w K mg base "_law_names" 2 ["_law_deal_here","_law_many"] (Cp)
theorem oW (T:Txt w K mg base) (L:FnL K mg "_law_names" dY ["_law_deal_here","_law_many"]) (Fa : @Dz0 P w K mg base) : @Dz2 P w K mg base:=by
 ctx_has z pH <;> obtain⟨d,l,m,rfl,D,m0,m1,k⟩:=h
 .rfl
 refine⟨_,(af (az 2 au)
  (af (az 3 (bx ac))
  (af (bC (cb rfl T.b_range (aa (pvM 1) ac)) (aA 4) (af (az 5 (C7 PySem.F.slot_str_join PySem.F.type_str_join BO au (aa (aZ (N:=["_law_j","_law_letters","_law_deal_here"]) (nt:=1) (js:=[2,0]) (aH ["_law_deal_here","_law_many","_law_letters","_law_names_here","_law_k","_law_word","_law_place"] (ak dY).names) (cb rfl T.b_range (aa (aN bz ae (ah Fa (aa (pvM 0) (aa ae ac)))) ac)) (aA 0) aP aV (ao Bu (pvM 1) (ah Fa (aa (pvM 2) (aa ae ac))))) ac)))
  (af (aK (PW.pt (fK (ay uc (pvM 4) ae) (eS (ay aT (ah Fa (aa (pvM 0) (aa ae ac))) ae)))) (af (az 6 (ah Fa (aa (pvM 0) (aa (aE qt T.b_len (aa (ao fC (pvM 3) (iW fo ae)) ac)) ac))))
  (ai (az 5 (aN rq (aN rq (bG vW (ao fC (pvM 3) (iW fo ae)) cB (bN (pvM 6))) (ao Bu (pvM 5) ae)) (bG vW (ao fC (pvM 3) (iW fo ae)) (bN (aN bz (pvM 6) ae)) cB))))) aD)
  (af (im PassesOwn.never (PW.pt (xM (ay Ak (pvM 5) (pvM 3)) (uY (ay Ak (pvM 5) (bx (aa au (aa au (aa au (aa au ac))))))))) (ai (az 5 (aN rq (ao Bu (pvM 2) (aN fH (aN bz (C7 PySem.F.slot_str_index PySem.F.type_str_index Ao (pvM 2) (aa (ao Bu (pvM 5) ae) ac)) ae) ae)) (bG vW (pvM 5) (bN ae) cB)))))
  (ai (bY (eL PySem.F.slot_list_append PySem.F.type_list_append bK (pvM 3) (aa (pvM 5) ac))))))))
  (ai (aB (pvM 3)))))),?_⟩
 ctx_has v
 refine⟨by decide,λp hp=>⟨by omega,by omega,?_⟩⟩
 have Y:=D.ne hp;refine bR bQ (λi σ H'=>∃(ws:List Str) (vk vw vp:Option V),σ=[some (.ref d),some (.int m),some (.str (Str.ofString "abcdefghijklmnopqrstuvwxyz")),some (.ref p),vk,vw,vp]/\cK ws/\ws.length=i/\H' p=some (.lst (ws.map V.str))/\aC H' d l/\But d l H H')
  ⟨[],_,_,_,rfl,.nil,rfl,ab,D.new hp,(But.refl H).new hp⟩ (λ_ _ _ _=>True.intro) ?_ ?_
 .rintro i x σ H2 hi hx ⟨ws,vk,vw,vp,rfl,ok,hlen,h2,D2,B2⟩
  rw[aJ] at hi;rw[gb hi] at hx;obtain rfl:=Option.some.inj hx
  ctx_has v
  refine aS D2 (by decide) (by decide) λr H3 r0 r1 D3 B3=>?_
  ctx_has v
  refine⟨by omega,by omega,λq hq=>?_⟩
  have h3:=B3 p _ Y.1 Y.2 h2;have nq:=D3.ne hq;have av:p≠q:=aj h3 hq
  refine cD bQ (λj ys H4=>∃cs:List Nat,ys=cs.map (λc=>V.str ⟨#[c]⟩)/\cs.length=j/\(∀c∈cs,bJ c=true)/\H4 q=some (.lst ys)/\H4 p=some (.lst (ws.map V.str))/\aC H4 d l/\But d l H H4)
   ⟨[],rfl,rfl,by simp,ab,by rw[ag av];exact h3,D3.new hq,(B2.trans B3).new hq⟩ (λ_ _ _ _=>True.intro) ?_ ?_
  .rintro j x ys H4 hj hx ⟨cs,rfl,hcl,hcs,h4,h4p,D4,B4⟩
   ctx_has v
   rw[aJ] at hj;refine aS D4 (by decide) (by decide) λr5 H5 a0 aw D5 Z=>?_
   have h5:=Z q _ nq.1 nq.2 h4;have a2:=Z p _ Y.1 Y.2 h4p;refine⟨r5,rfl,lu,_,mM a0 aw,h5,by simp;exact ax (by omega),cs++[97+r5.toNat],by simp,by simp;omega,λc hc=>?_,ab,by rw[ag av];exact a2,D5.put nq.1 nq.2,(B4.trans Z).put (B2.free D2 ((B3.free D3 hq)))⟩
   rcases mem_append.mp hc with z | z
   .exact hcs c z
   .rw[mem_singleton.mp z]
    unfold bJ;rw[Bool.and_eq_true,decide_eq_true_eq,decide_eq_true_eq];omega
  .rintro ys H4 ⟨cs,rfl,hcl,hcs,h4,h4p,D4,B4⟩
   rw[aJ] at hcl;ctx_has v
   refine⟨cs.map λc=>⟨#[c]⟩,by rw[h4];simp,by rw[A8,show(Str.ofString "").length=0 by decide+kernel];omega,?_⟩
   have hj:=vF cs;generalize Txt.join (Str.ofString "") (cs.map λc=>Str.mk #[c])=wd at hj ⊢
   obtain⟨c0,cs',rfl⟩ : ∃c0 cs',cs=c0 :: cs':=by
    cases cs with
    | nil=>simp at hcl;omega
    | cons a b=>exact⟨a,b,rfl⟩
   have aq:bS wd:=.of hj (hcs c0 (by simp)) (λx hx=>hcs x (by simp[hx])) (by simp at hcl;omega)
   have ad : ∀{w:Str},bS w->w.length<=sizeLine:=λh=>le_of_lt (ax (le_trans h.le (by decide)))
   have ap:ws.length<=20:=by omega
   have an : ∀(B:Str) (H5 H6:Hp),aC H5 d l->But d l H H5->am H5 H6->bS B->B∉ws->B∉du->∃ws',cK ws'/\ws'.length=i+1/\upd H6 p (HO.lst (ws.map V.str++[V.str B])) p=some (HO.lst (ws'.map V.str))/\aC (upd H6 p (HO.lst (ws.map V.str++[V.str B]))) d l/\But d l H (upd H6 p (HO.lst (ws.map V.str++[V.str B]))) :=
    λB H5 H6 D5 Z U n f1 f2=>⟨ws++[B],ok.snoc n f1 f2,by simp[hlen],by rw[ab];simp,(D5.same U).put Y.1 Y.2,(Z.same U).put hp⟩
   refine cG (λh=>?_) (λh=>?_)
   .refine aS D4 (by decide) (by decide) λr5 H5 a0 aw D5 Z=>?_
    ctx_has v
    have h5:=Z p _ Y.1 Y.2 h4p;refine cG (λh6=>?_) (λh6=>?_)
    .rcases List.eq_nil_or_concat ws with rfl | ⟨ws0,z,rfl⟩
     .simp at hlen;omega
     have nz:bS z:=ok.nm z (by simp)
     refine⟨_,h5,_,by rw[List.concat_eq_append,map_append];exact mE _ _,z,rfl,ad nz,?_⟩
     refine aS D5 (by have:=nz.pos;omega) (by have:=nz.le;omega) λr7 H7 a1 a3 D7 B7=>?_
     have h7:=B7 p _ Y.1 Y.2 h5;ctx_has v h7
     have ar:atI (List.map V.str (ws0.concat z)) (-1)=some (V.str z):=by rw[List.concat_eq_append,map_append];exact mE _ _
     have l1:=Txt.slice_le z none (some r7);have l2:=Txt.slice_le z (some (r7+1)) none;have l3:=nz.le;refine⟨_,ar,z,rfl,ad nz,ad aq,c0,by rw[hj];exact uv _ _,le_of_lt (ax (by show _+1<=1000;omega)),_,ar,z,rfl,ad nz,le_of_lt (ax (by rw[oQ];show _+1+_<=1000;omega)),?_⟩
     refine gK (BI nz (hcs c0 (by simp)) a1 a3) ap h7 λB H8 n f1 f2 U=>?_
     have h8:=U _ _ h7;ctx_has v h8
     exact⟨by simp only[length_map];exact ax (by omega),an B H7 H8 D7 ((B4.trans Z).trans B7) U n f1 f2⟩
    .refine gK aq ap h5 λB H6 n f1 f2 U=>?_
     have h6:=U _ _ h5;ctx_has v h6
     exact⟨by simp;exact ax (by omega),an B H5 H6 D5 (B4.trans Z) U n f1 f2⟩
   .refine gK aq ap h4p λB H6 n f1 f2 U=>?_
    have h6:=U _ _ h4p;ctx_has v h6
    exact⟨by simp;exact ax (by omega),an B H4 H6 D4 B4 U n f1 f2⟩
 .rintro σ H2 ⟨ws,vk,vw,vp,rfl,ok,hlen,h2,D2,B2⟩
  ctx_has v
  rw[aJ] at hlen;exact k p ws H2 hp ok hlen h2 D2 B2
def cq (H:Hp) (kvs:List (Key × V)) (cs:List Str) (rm:Str->List Int):Prop:=∀c∈cs,∃a,bu kvs (Sum.inr c)=some (.ref a)/\H a=some (.tup ((rm c).map V.int))
structure DB (H H':Hp):Prop where
 tup : ∀a vs,H a=some (.tup vs)->H' a=some (.tup vs)
 ins : ∀a C dx fs,H a=some (.ins C dx fs)->H' a=some (.ins C dx fs)
theorem But.keepTI (B:But d l H H') (D:aC H d l):DB H H':=by
 obtain⟨m,U,n,xs,F,hl,_⟩:=D.ex;exact⟨λa vs e=>B a _ (aX e F (by intro z;cases z)) (aX e hl (by intro z;cases z)) e,λa C dx fs e=>B a _ (aX e F (by intro z;cases z)) (aX e hl (by intro z;cases z)) e⟩
theorem pX {k:Key} {v:V} (h : ∀x∈kvs,hZ x.2=true) (B:hZ v=true) : ∀x∈bp kvs k v,hZ x.2=true:=by
 intro x z;unfold bp at z
 split at z
 .obtain⟨y,hy,rfl⟩:=mem_map.mp z
  split
  .exact B
  .exact h y hy
 .rcases mem_append.mp z with q | q
  .exact h x q
  .rw[mem_singleton.mp q];exact B
theorem cq.same {cs:List Str} (h:cq H kvs cs rm) (s : ∀a vs,H a=some (.tup vs)->H' a=some (.tup vs)):cq H' kvs cs rm:=λc z=>by
 obtain⟨a,e1,e2⟩:=h c z;exact⟨a,e1,s _ _ e2⟩
def oy {α:Type} (f:Str->α) (c:Str) (v:α):Str->α:=λx=>if x=c then v else f x
def wF:Sp:=λvs H Q _=>∃(d l:Addr),vs=[.ref d]/\aC H d l/\∀(p:Addr) (ns:List Int) (H':Hp),H p=none->ns.length=5->ns.Pairwise (· < ·)->(∀x∈ns,-1000000<=x/\x<=1000000)->H' p=some (.lst (ns.map V.int))->aC H' d l->But d l H H'->Q (.ref p) H'
def zz:Sp:=λvs H Q _=>∃(d l a p:Addr) (ws:List Str) (ns:List Int) (m:Int),vs=[.ref d,.ref a,.ref p,.int m]/\aC H d l/\(a≠d/\a≠l)/\(p≠d/\p≠l)/\H a=some (.lst (ws.map V.str))/\ws.length<=45/\H p=some (.lst (ns.map V.int))/\ns.length=5/\ns.Pairwise (· < ·)/\1<=m/\m<=20 /\
 ∀(r:Addr) (kvs:List (Key × V)) (rm:Str->List Int) (H':Hp),H r=none->H' r=some (.dK kvs)->cq H' kvs ws rm->(∀c∈ws,rm c≠[]/\((rm c).length:Int)<=m/\(rm c).Pairwise (· < ·)/\∀v∈rm c,v∈ns)->(∀x∈kvs,hZ x.2=true)->kvs.length<=2 * ws.length->aC H' d l->But d l H H'->Q (.ref r) H'
def Bd:Sp:=λvs H Q _=>∃(d l a:Addr) (m:Int) (xs:List V),vs=[.ref d,.ref a,.int m]/\aC H d l/\vL H a xs/\0<=m/\m<=xs.length/\xs.length<=60 /\
 ∀(p:Addr) (z rest:List V) (H':Hp),H p=none->(z++rest).Perm xs->m<=z.length->H' p=some (.tup z)->aC H' d l->But d l H H'->Q (.ref p) H'
theorem lay_ints : ∀ns:List Int,PyData.canLayAll0 (ns.map PyData.int)=true
 | []=>rfl
 | n :: ns=>by
  rw[map_cons];unfold PyData.canLayAll0;rw[lay_ints ns];rfl
theorem depth_ints : ∀ns:List Int,PyData.depthAll (ns.map PyData.int)=0
 | []=>rfl
 | n :: ns=>by
  rw[map_cons];unfold PyData.depthAll;rw[depth_ints ns];rfl
theorem tV (ns:List Int):PyData.eqv (.list (ns.map PyData.int)) (.list [])=decide (ns=[]):=by
 cases ns with
 | nil=>rfl
 | cons n ns=>simp[PyData.eqv,PyData.eqvAll]
theorem cq.putG {cs:List Str} {c:Str} (h:cq H kvs cs rm) (s : ∀a vs,H a=some (.tup vs)->H' a=some (.tup vs)) (U:H' t=some (.tup (ns.map V.int))) (B : ∀x∈cs',x=c\/x∈cs) :
  cq H' (bp kvs (Sum.inr c) (.ref t)) cs' (oy rm c ns):=λx F=>by
 by_cases e:x=c
 .subst e
  exact⟨t,by rw[nF,if_pos rfl],by unfold oy;rw[if_pos rfl];exact U⟩
 .obtain⟨a,e1,e2⟩:=h x ((B x F).resolve_left e)
  exact⟨a,by rw[nF,if_neg (λz=>e (Sum.inr.inj z))];exact e1,by unfold oy;rw[if_neg e];exact s _ _ e2⟩
theorem gT (f:α->V) (z:V->α) (hi : ∀x,z (f x)=x) {B rest:List V} {xs:List α} (h:(B++rest).Perm (xs.map f)) : ∃ys zs:List α,B=ys.map f/\(ys++zs).Perm xs:=by
 refine⟨B.map z,rest.map z,?_,?_⟩
 .rw[map_map]
  have : ∀v∈B,f (z v)=v:=λv F=>by
   obtain⟨x,_,rfl⟩:=mem_map.mp (h.mem_iff.mp (mem_append_left _ F));rw[hi]
  conv=>lhs;rw[<- map_id B]
  exact map_congr_left λv F=>(this v F).symm
 .have:=h.map z
  rw[map_append,map_map] at this;have e:xs.map (z ∘ f)=xs:=by
   conv=>rhs;rw[<- map_id xs]
   exact map_congr_left λx _=>hi x
  rw[e] at this;exact this
def Ip:V->Str | .str s=>s | _ => ""
def G1:V->Int | .int i=>i | _=>0
theorem rc (T:Txt w K mg base) (L:FnL K mg "_law_pool" iq ["_law_deal_here"]) (Fa : @Dz0 P w K mg base):Fn P w K mg base "_law_pool" 2 ["_law_deal_here"] (wF):=by
 ctx_has z rF <;> obtain⟨d,l,rfl,D,k⟩:=h
 .rfl
 refine⟨_,(af (az 1 (aN gN (ah Fa (aa (pvM 0) (aa ae ac))) ae))
  (af (aK (ay aT (ah Fa (aa (pvM 0) (aa ae ac))) ae) (ai (az 1 (aN gN (ah Fa (aa (pvM 0) (aa ae ac))) ae))) aD)
  (af (az 2 (bx ac))
  (af (bC (cb rfl T.b_range (aa ae ac)) (aA 3) (af (bY (eL PySem.F.slot_list_append PySem.F.type_list_append bK (pvM 2) (aa (pvM 1) ac)))
  (ai (az 1 (aN bz (aN bz (pvM 1) ae) (ao fC (bx (aa ae (aa (ah Fa (aa (pvM 0) (aa ae ac))) (aa ae ac)))) (ah Fa (aa (pvM 0) (aa ae ac)))))))))
  (ai (aB (pvM 2))))))),?_⟩
 ctx_has v
 refine aS D (by decide) (by decide) λr H1 r0 r1 D1 B1=>?_
 ctx_has v
 refine aS D1 (by decide) (by decide) λr2 H2 ap aq Z U=>?_
 ctx_has v
 refine cG (λh=>?_) (λh=>?_)
 .refine aS Z (by decide) (by decide) λr3 H3 ad ak D3 B3=>?_
  have B3:=(B1.trans U).trans B3;refine⟨_,rfl,by decide,λp hp=>?_⟩
  have Y:=D3.ne hp;have fp:H p=none:=B3.free D3 hp
  refine⟨by decide,by decide,?_⟩
  refine bR bQ (λi σ H'=>∃(ns:List Int) (B:Int) (vk:Option V),σ=[some (.ref d),some (.int B),some (.ref p),vk]/\ns.length=i/\ns.Pairwise (· < ·)/\(∀x∈ns,x < B/\-1000000<=x/\x<=1000000)/\-999500<=B/\B<=999500+98 * (i:Int)/\H' p=some (.lst (ns.map V.int))/\aC H' d l/\But d l H H')
   ⟨[],_,_,rfl,rfl,.nil,by simp,by omega,by omega,ab,D3.new hp,B3.new hp⟩ (λ_ _ _ _=>True.intro) ?_ ?_
  .rintro i x σ H2 hi hx ⟨ns,B,vk,rfl,hlen,hpw,hall,lo0,lo1,h2,Z,U⟩
   rw[aJ] at hi;have an:i < 5:=hi
   ctx_has v h2
   refine⟨by rw[length_map];exact ax (by omega),?_⟩
   refine aS (Z.put Y.1 Y.2) (by decide) (by decide) λr3 H3 ad ak D3 B3=>?_
   refine⟨by decide,λp2 aj=>?_⟩
   refine jz D3 aj (by decide) (by decide) rfl λr5 v H5 hv ha D5 B5 h5=>?_
   have ag:=B5 p _ Y.1 Y.2 (B3 p _ Y.1 Y.2 ab);obtain⟨y,rfl,y0,y1⟩ : ∃y:Int,v = .int y/\0<=y/\y<=97:=by
    simp only[mem_cons,not_mem_nil,or_false] at hv;rcases hv with rfl | rfl | rfl
    .exact⟨0,rfl,by decide,by decide⟩
    .exact⟨r3,rfl,ad,by omega⟩
    .exact⟨97,rfl,by decide,by decide⟩
   ctx_has v h5 ha
   refine⟨ns++[B],by simp;omega,?_,λz hz=>?_,by omega,by omega,by rw[ag];simp,D5,((U.put fp).trans B3).trans B5⟩
   .rw[List.pairwise_append]
    exact⟨hpw,List.pairwise_singleton _ _,λx hx y hy=>by rw[mem_singleton.mp hy];exact(hall x hx).1⟩
   .rcases mem_append.mp hz with q | q
    .have:=hall z q;omega
    .rw[mem_singleton.mp q];omega
  .rintro σ H2 ⟨ns,B,vk,rfl,hlen,hpw,hall,lo0,lo1,h2,Z,U⟩
   rw[aJ] at hlen;ctx_has v
   exact k p ns H2 fp hlen hpw (λx hx=>(hall x hx).2) h2 Z U
 .have U:=B1.trans U
  refine⟨by decide,λp hp=>?_⟩
  have Y:=Z.ne hp;have fp:H p=none:=U.free Z hp
  refine⟨by decide,by decide,?_⟩
  refine bR bQ (λi σ H'=>∃(ns:List Int) (B:Int) (vk:Option V),σ=[some (.ref d),some (.int B),some (.ref p),vk]/\ns.length=i/\ns.Pairwise (· < ·)/\(∀x∈ns,x < B/\-1000000<=x/\x<=1000000)/\-999500<=B/\B<=999500+98 * (i:Int)/\H' p=some (.lst (ns.map V.int))/\aC H' d l/\But d l H H')
   ⟨[],_,_,rfl,rfl,.nil,by simp,by omega,by omega,ab,Z.new hp,U.new hp⟩ (λ_ _ _ _=>True.intro) ?_ ?_
  .rintro i x σ H2 hi hx ⟨ns,B,vk,rfl,hlen,hpw,hall,lo0,lo1,h2,Z,U⟩
   rw[aJ] at hi;have an:i < 5:=hi
   ctx_has v h2
   refine⟨by rw[length_map];exact ax (by omega),?_⟩
   refine aS (Z.put Y.1 Y.2) (by decide) (by decide) λr3 H3 ad ak D3 B3=>?_
   refine⟨by decide,λp2 aj=>?_⟩
   refine jz D3 aj (by decide) (by decide) rfl λr5 v H5 hv ha D5 B5 h5=>?_
   have ag:=B5 p _ Y.1 Y.2 (B3 p _ Y.1 Y.2 ab);obtain⟨y,rfl,y0,y1⟩ : ∃y:Int,v = .int y/\0<=y/\y<=97:=by
    simp only[mem_cons,not_mem_nil,or_false] at hv;rcases hv with rfl | rfl | rfl
    .exact⟨0,rfl,by decide,by decide⟩
    .exact⟨r3,rfl,ad,by omega⟩
    .exact⟨97,rfl,by decide,by decide⟩
   ctx_has v h5 ha
   refine⟨ns++[B],by simp;omega,?_,λz hz=>?_,by omega,by omega,by rw[ag];simp,D5,((U.put fp).trans B3).trans B5⟩
   .rw[List.pairwise_append]
    exact⟨hpw,List.pairwise_singleton _ _,λx hx y hy=>by rw[mem_singleton.mp hy];exact(hall x hx).1⟩
   .rcases mem_append.mp hz with q | q
    .have:=hall z q;omega
    .rw[mem_singleton.mp q];omega
  .rintro σ H2 ⟨ns,B,vk,rfl,hlen,hpw,hall,lo0,lo1,h2,Z,U⟩
   rw[aJ] at hlen;ctx_has v
   exact k p ns H2 fp hlen hpw (λx hx=>(hall x hx).2) h2 Z U
abbrev Dz3:=Fn P w K mg base "_law_rooms" 2 ["_law_deal_here","_law_names_here","_law_pool_here","_law_most"] (zz)
theorem oZ (T : Txt w K mg base) (L:FnL K mg "_law_rooms" eA ["_law_deal_here","_law_names_here","_law_pool_here","_law_most"]) (Fa : @Dz0 P w K mg base) : @Dz3 P w K mg base:=by
  ctx_has z pE <;> obtain⟨d,l,a,p,ws,ns,m,rfl,D,na,np,ha,bs,hp,br,bb,m0,m1,k⟩:=h
  . rfl
  refine⟨_,(af (az 4 cm)
    (af (bC (dr (K:=K) rfl (pvM 1)) (aA 5) (af (cH 6 (N:=["_law_value","_law_deal_here"]) (nt:=1) (js:=[0]) (aH ["_law_deal_here","_law_names_here","_law_pool_here","_law_most","_law_rooms_here","_law_name","_law_some_here"] (ak eA).names) (dr (K:=K) rfl (pvM 2)) (aA 0) aP (rE (ay aT (ah Fa (aa (pvM 1) (aa ae ac))) ae)) (pvM 0))
    (af (fV hu (pvM 4) (pvM 5) (aF aO T.b_tuple (aa (bG Gf (pvM 6) cB (bN (pvM 3))) ac)) rfl)
    (ai (aK (ay (vm (nJ hr)) (pvM 6) (bx ac)) (ai (fV hu (pvM 4) (pvM 5) (aI (aa (ao fC (pvM 2) (ah Fa (aa (pvM 0) (aa ae ac)))) ac)) rfl)) aD)))))
    (ai (aB (pvM 4))))),?_⟩
  ctx_has v
  intro q hq;have nq:=D.ne hq;have aq:a≠q:=aj ha hq
  have pq:p≠q:=aj hp hq
  refine⟨_,by rw[ag aq];exact ha,?_⟩
  refine bR bB (λi σ H'=>∃(kvs:List (Key × V)) (rm:Str->List Int) (v5 v6:Option V),σ=[some (.ref d),some (.ref a),some (.ref p),some (.int m),some (.ref q),v5,v6]/\H' q=some (.dK kvs)/\cq H' kvs (ws.take i) rm /\
      (∀c∈ws.take i,rm c≠[]/\((rm c).length:Int)<=m/\(rm c).Pairwise (· < ·)/\∀v∈rm c,v∈ns)/\(∀x∈kvs,hZ x.2=true)/\kvs.length<=2 * i/\H' a=some (.lst (ws.map V.str))/\H' p=some (.lst (ns.map V.int))/\aC H' d l/\But d l H H')
    ⟨[],λ_=>[],_,_,rfl,ab,λc hc=>by simp at hc,λc hc=>by simp at hc,by simp,zero_le _,by rw[ag aq];exact ha,by rw[ag pq];exact hp,D.new hq,(But.refl H).new hq⟩ (λi σ H' aW=>by obtain⟨_,_,_,_,_,_,_,_,_,_,h,_⟩:=aW;exact(.of h)) ?_ ?_
  . rintro i x σ H2 hi hx ⟨kvs,rm,v5,v6,rfl,h2,aw,ar,a4,a5,aL,ad,D2,B2⟩
    rw[length_map] at hi;obtain⟨c,bg,rfl⟩ : ∃c,ws[i]? = some c/\V.str c=x:=by
      rw[List.getElem?_map] at hx;cases e:ws[i]? with
      | none=>rw[e] at hx;cases hx
      | some nm=>rw[e] at hx;exact⟨nm,rfl,Option.some.inj hx⟩
    have bf:ws.take (i+1)=ws.take i++[c]:=by rw[take_add_one,bg];rfl
    have au : ∀x∈ws.take (i+1),x=c\/x∈ws.take i:=λx hx=>by
      rw[bf] at hx;rcases mem_append.mp hx with z | z
      . exact .inr z
      . exact .inl (mem_singleton.mp z)
    ctx_has v ad
    intro g hg;have ng:=D2.ne hg;have fg:H g=none:=B2.free D2 hg
    refine cD bB (λj ys U=>∃B:List Int,ys=B.map V.int/\B.Sublist (ns.take j)/\U g=some (.lst ys)/\U p=some (.lst (ns.map V.int))/\(∀b o,b≠d->b≠l->H2 b=some o->U b=some o)/\aC U d l)
      ⟨[],rfl,by simp,ab,by rw[ag (aj ad hg)];exact ad,λb o _ _ e=>by rw[ag (aj e hg)];exact e,D2.new hg⟩ (λj ys U aE=>by obtain⟨_,_,_,_,h,_⟩:=aE;exact(.of h)) ?_ ?_
    . rintro j y ys U hj hy ⟨B,rfl,F,a0,a8,k5,D5⟩
      rw[length_map] at hj;obtain⟨z,hz,rfl⟩ : ∃z,ns[j]? = some z/\V.int z=y:=by
        rw[List.getElem?_map] at hy;cases e:ns[j]? with
        | none=>rw[e] at hy;cases hy
        | some nm=>rw[e] at hy;exact⟨nm,rfl,Option.some.inj hy⟩
      have en:ns.take (j+1)=ns.take j++[z]:=by rw[take_add_one,hz];rfl
      have bq:B.length<=5:=le_trans F.length_le (by simp;omega)
      ctx_has v
      refine aS D5 (by decide) (by decide) λr6 H6 bn bk D6 B6=>?_
      have ap:=B6 g _ ng.1 ng.2 a0;have Z:=B6 p _ np.1 np.2 a8;ctx_has v
      refine cG (λbj=>?_) (λbj=>?_)
      . refine⟨ap,by rw[length_map];exact ax (by omega),B++[z],by simp,by rw[en];exact F.append_right [z],ab,by rw[ag (aj ad hg)];exact Z,λb o h1 h2 e=>by rw[ag (aj e hg)];exact B6 b o h1 h2 (k5 b o h1 h2 e),D6.put ng.1 ng.2⟩
      . exact⟨B,rfl,by rw[en];exact F.trans (List.sublist_append_left _ _),ap,Z,λb o h1 h2 e=>B6 b o h1 h2 (k5 b o h1 h2 e),D6⟩
    . rintro ys U ⟨B,rfl,F,a0,a8,k5,D5⟩
      rw[length_map] at F;rw[take_length] at F;ctx_has v a0
      intro u aZ;refine⟨_,ab,λt ht=>?_⟩
      obtain⟨Y,rfl⟩:=Int.eq_ofNat_of_zero_le (show 0<=m by omega)
      rw[lZ] at ht ⊢;have ut:u≠t:=by rintro rfl;rw[ab] at ht;cases ht
      have bc:U t=none:=by rwa [ag ut.symm] at ht
      have s5:am U (upd (upd U u (.lst ((B.take Y).map V.int))) t (.tup ((B.take Y).map V.int))):=(am.upd0 aZ).upd_new ht
      have aU:=k5 q _ nq.1 nq.2 h2;have aY:=k5 a _ na.1 na.2 aL;refine⟨kvs,s5 _ _ aU,ax (by omega),?_⟩
      have tq:t≠q:=(aj aU bc).symm
      have aR : ∀b vs,H2 b=some (.tup vs)->upd (upd (upd U u (.lst ((B.take Y).map V.int))) t (.tup ((B.take Y).map V.int))) q (.dK (bp kvs (Sum.inr c) (.ref t))) b=some (.tup vs):=λb vs e=>by
        obtain⟨m',sd,n',bh,a7,a6,_⟩:=D2.ex;rw[ag (aX e h2 (by intro z;cases z))]
        exact s5 _ _ (k5 b _ (aX e a7 (by intro z;cases z)) (aX e a6 (by intro z;cases z)) e)
      have a3 : ∀b o,b≠q->U b=some o->upd (upd (upd U u (.lst ((B.take Y).map V.int))) t (.tup ((B.take Y).map V.int))) q (.dK (bp kvs (Sum.inr c) (.ref t))) b=some o:=λb o hb e=>by rw[ag hb];exact s5 _ _ e
      have gq:g≠q:=(aj h2 hg).symm
      have ap:=a3 g _ gq a0;have a9:=a3 a _ aq aY;have Z:=a3 p _ pq a8;have D6:=(D5.same s5).put (o:=.dK (bp kvs (Sum.inr c) (.ref t))) nq.1 nq.2;have B5:But d l H U:=λb o h1 h2 e=>k5 b o h1 h2 (B2 b o h1 h2 e)
      have B6:=(B5.same s5).put (o:=.dK (bp kvs (Sum.inr c) (.ref t))) hq;have r6:cq (upd (upd (upd U u (.lst ((B.take Y).map V.int))) t (.tup ((B.take Y).map V.int))) q (.dK (bp kvs (Sum.inr c) (.ref t)))) (bp kvs (Sum.inr c) (.ref t)) (ws.take (i+1)) (oy rm c (B.take Y)):=aw.putG aR (by rw[ag tq];exact ab) au
      have an:upd (upd (upd U u (.lst ((B.take Y).map V.int))) t (.tup ((B.take Y).map V.int))) q (.dK (bp kvs (Sum.inr c) (.ref t))) q=some (.dK (bp kvs (Sum.inr c) (.ref t))):=ab
      have bd:=cV kvs (Sum.inr c) (.ref t);have a2:=pX (k:=Sum.inr c) (v:=V.ref t) a4 rfl;generalize bm:upd (upd (upd U u (.lst ((B.take Y).map V.int))) t (.tup ((B.take Y).map V.int))) q (.dK (bp kvs (Sum.inr c) (.ref t)))=H6 at ap a9 Z D6 B6 r6 an ⊢;generalize bp kvs (Sum.inr c) (.ref t)=aV at r6 an bd a2 ⊢;refine⟨by decide,λe0 a1=>?_⟩
      have s7:am H6 (upd H6 e0 (.lst [])):=am.upd0 a1
      refine⟨.list (B.map PyData.int),.list [],.lst (.of (s7 _ _ ap)) (cj.ints B),.lst (.of ab) .nil,by unfold PyData.canLay0;exact lay_ints B,rfl,by unfold PyData.depth;rw[depth_ints];decide,?_⟩
      rw[tV];have D7:=D6.new (o:=.lst []) a1;have B7:=B6.new (o:=.lst []) a1;refine⟨_,rfl,cG (λaG=>?_) (λaG=>?_)⟩
      . refine aS D7 (by decide) (by decide) λr8 H8 aJ bo D8 B8=>?_
        obtain⟨z,aN,be⟩:=gB (xs:=ns) aJ (by omega)
        have ba:atI (ns.map V.int) r8=some (V.int z):=by
          obtain⟨n,rfl⟩:=Int.eq_ofNat_of_zero_le aJ;have hn:n < ns.length:=by omega
          have e1:ns[n]? = some z:=by
            have:=aM (xs:=ns) (j:=n) (v:=ns[n]) (by simp)
            rw[this] at aN;rw[<- aN];simp
          exact aM (by rw[List.getElem?_map,e1];rfl)
        refine⟨r8,rfl,_,B8 p _ np.1 np.2 (s7 _ _ Z),_,ba,by decide,λt2 av=>?_⟩
        have aQ:=B8 q _ nq.1 nq.2 (s7 _ _ an);have q2:t2≠q:=(aj aQ av).symm
        have s9:am H8 (upd H8 t2 (.tup [V.int z])):=am.upd0 av
        refine⟨aV,s9 _ _ aQ,ax (by omega),?_⟩
        have kt : ∀b vs,H6 b=some (.tup vs)->upd (upd H8 t2 (.tup [V.int z])) q (.dK (bp aV (Sum.inr c) (.ref t2))) b=some (.tup vs):=λb vs e=>by
          rw[ag (aX e an (by intro z;cases z))]
          obtain⟨m',sd,n',bh,a7,a6,_⟩:=D6.ex;exact s9 _ _ (B8 b _ (aX e a7 (by intro z;cases z)) (aX e a6 (by intro z;cases z)) (s7 _ _ e))
        refine⟨_,ab,oy (oy rm c (B.take Y)) c [z],r6.putG (ns:=[z]) kt (by rw[ag q2];exact ab) (λx hx=>.inr hx),λx hx=>?_,pX a2 rfl,le_trans (cV _ _ _) (by omega),?_,?_,(D8.new av).put nq.1 nq.2,((B7.trans B8).new av).put hq⟩
        . by_cases e:x=c
          . subst e
            unfold oy;rw[if_pos rfl];exact⟨by simp,by simp;omega,by simp,λv hv=>by rw[mem_singleton.mp hv];exact be⟩
          . unfold oy
            rw[if_neg e,if_neg e];exact ar x ((au x hx).resolve_left e)
        . rw[ag aq];exact s9 _ _ (B8 a _ na.1 na.2 (s7 _ _ a9))
        . rw[ag pq];exact s9 _ _ (B8 p _ np.1 np.2 (s7 _ _ Z))
      . refine⟨_,s7 _ _ an,oy rm c (B.take Y),r6.same (λa vs e=>s7 _ _ e),λx hx=>?_,a2,by omega,s7 _ _ a9,s7 _ _ Z,D7,B7⟩
        by_cases e:x=c
        . subst e
          unfold oy;rw[if_pos rfl];have bi:B≠[]:=by simpa using aG
          refine⟨?_,by simp;omega,?_,λv hv=>F.subset (mem_of_mem_take hv)⟩
          . cases B with
            | nil=>exact absurd rfl bi
            | cons y ys =>
              obtain⟨k',rfl⟩ : ∃k',Y=k'+1:=⟨Y - 1,by omega⟩
              simp
          . exact(bb.sublist F).sublist (take_sublist _ _)
        . unfold oy
          rw[if_neg e];exact ar x ((au x hx).resolve_left e)
  . rintro σ H2 ⟨kvs,rm,v5,v6,rfl,h2,aw,ar,a4,a5,aL,ad,D2,B2⟩
    rw[length_map,take_length] at aw ar;rw[length_map] at a5;ctx_has v
    exact k q kvs rm H2 hq h2 aw ar a4 a5 D2 B2
abbrev Dz4:=Fn P w K mg base "_law_some" 2 ["_law_deal_here","_law_things","_law_least"] (Bd)
theorem qO (T:Txt w K mg base) (L:FnL K mg "_law_some" gP ["_law_deal_here","_law_things","_law_least"]) (Fa : @Dz0 P w K mg base) : @Dz4 P w K mg base:=by
 ctx_has z rY <;> obtain⟨d,l,a,m,xs,rfl,D,ha,m0,m1,ar,k⟩:=h
 .rfl
 refine⟨_,(af (az 3 (aF je T.b_list (aa (pvM 1) ac)))
  (af (az 4 (bx ac))
  (af (bC (cb rfl T.b_range (aa (aN bz (pvM 2) (ah Fa (aa (pvM 0) (aa (aN bz (aN gN (aE bo T.b_len (aa (pvM 3) ac)) (pvM 2)) ae) ac)))) ac)) (aA 5) (ai (bY (eL PySem.F.slot_list_append PySem.F.type_list_append bK (pvM 4) (aa (eL PySem.F.slot_list_pop PySem.F.type_list_pop uS (pvM 3) (aa (ah Fa (aa (pvM 0) (aa (aE bo T.b_len (aa (pvM 3) ac)) ac))) ac)) ac)))))
  (ai (aB (aF aO T.b_tuple (aa (pvM 4) ac))))))),?_⟩
 ctx_has v
 refine⟨xs,ha,λu U=>?_⟩
 have Z:=D.ne U;refine⟨by decide,λg hg=>?_⟩
 have ug:u≠g:=by rintro rfl;rw[ab] at hg;cases hg
 have ad:H g=none:=by rwa [ag ug.symm] at hg
 have ng:=D.ne ad;have D1:=(D.new (o:=.lst xs) U).new (o:=.lst []) hg;have Y:upd (upd H u (.lst xs)) g (.lst []) u=some (.lst xs):=by rw[ag ug];exact ab
 have aj:upd (upd H u (.lst xs)) g (.lst []) g=some (.lst []):=ab
 have B1:But d l H (upd (upd H u (.lst xs)) g (.lst [])):=((But.refl H).new U).new hg
 generalize upd (upd H u (.lst xs)) g (.lst [])=H1 at D1 Y aj B1 ⊢;ctx_has v Y
 refine aS D1 (by omega) (by omega) λr H2 r0 r1 D2 B2=>?_
 refine⟨_,rfl,by omega,by omega,?_⟩
 refine bR bQ (λi σ H'=>∃(B rest:List V) (v5:Option V),σ=[some (.ref d),some (.ref a),some (.int m),some (.ref u),some (.ref g),v5]/\B.length=i/\(B++rest).Perm xs/\H' g=some (.lst B)/\H' u=some (.lst rest)/\aC H' d l/\But d l H H')
  ⟨[],xs,_,rfl,rfl,.refl _,B2 g _ ng.1 ng.2 aj,B2 u _ Z.1 Z.2 Y,D2,B1.trans B2⟩ (λ_ _ _ _=>True.intro) ?_ ?_
 .rintro j y σ H5 hj hy ⟨B,rest,v5,rfl,hgl,hperm,h5g,h5u,D5,B5⟩
  rw[aJ] at hj;have au:B.length+rest.length=xs.length:=by rw[<- length_append];exact hperm.length_eq
  ctx_has v h5g h5u
  refine aS D5 (by omega) (by omega) λr6 H6 ak ap D6 B6=>?_
  have an:=B6 u _ Z.1 Z.2 h5u;have aq:=B6 g _ ng.1 ng.2 h5g;ctx_has v an
  refine⟨ak,ap,by omega,λz hz=>?_⟩
  have ao:r6.toNat < rest.length:=(List.getElem?_eq_some_iff.mp hz).1
  refine⟨_,by rw[ag ug.symm];exact aq,ax (by omega),B++[z],by simp;omega,rest.eraseIdx r6.toNat,?_,ab,by rw[ag ug];exact ab,(D6.put Z.1 Z.2).put ng.1 ng.2,((B5.trans B6).put U).put ad⟩
  refine List.Perm.trans ?_ hperm
  rw[append_assoc];refine List.Perm.append_left B ?_
  rw[(List.getElem?_eq_some_iff.mp hz).2.symm];exact ow ao
 .rintro σ H5 ⟨B,rest,v5,rfl,hgl,hperm,h5g,h5u,D5,B5⟩
  rw[aJ] at hgl;ctx_has v h5g
  intro t ht;exact k t B rest _ (B5.free D5 ht) hperm (by omega) ab (D5.new ht) (B5.new ht)
def bV:Option Int->V | none=>.non | some i=>.int i
def lY (H:Hp) (t:Addr) (ts:List (Int × Str)):Prop:=∃as:List (Addr × Int × Str),H t=some (.tup (as.map λx=>V.ref x.1))/\as.map (·.2)=ts/\∀x∈as,H x.1=some (.tup [.int x.2.1,.str x.2.2])
theorem lY.keep {ts:List (Int × Str)} (h:lY H t ts) (k : ∀a xs,H a=some (.tup xs)->H' a=some (.tup xs)):lY H' t ts:=by
 obtain⟨as,h1,h2,z⟩:=h;exact⟨as,k _ _ h1,h2,λx B=>k _ _ (z x B)⟩
def jJ (H:Hp) (vs:List V) (ps:List (Int × Int × Int)):Prop:=∃as:List (Addr × Int × Int × Int),vs=as.map (λx=>V.ref x.1)/\as.map (·.2)=ps/\∀x∈as,H x.1=some (.tup [.int x.2.1,.int x.2.2.1,.int x.2.2.2])
theorem jJ.keep {ps:List (Int × Int × Int)} (h:jJ H vs ps) (k : ∀a xs,H a=some (.tup xs)->H' a=some (.tup xs)):jJ H' vs ps:=by
 obtain⟨as,h1,h2,z⟩:=h;exact⟨as,h1,h2,λx B=>k _ _ (z x B)⟩
inductive Wi | un (cs:List Str) | mn (av:List Int) (cs:List Str) (lo hi:Int) | sm (ts:List (Int × Str)) (lo hi:Option Int) | tb (cs:List Str) (rows:List (List Int)) | wy (cs:List Str) (ps:List (Int × Int × Int)) (es:List Int) | bh (cs:List Str) (gap:Int)
inductive Wx | pl (W:Wi) | sa (c:Str) (vs:List Int) (W:Wi)
def WS (H:Hp) (w:Addr):Wi->Prop
 | .un cs=>∃c,H w=some (.tup [.str "unlike",.ref c])/\H c=some (.tup (cs.map V.str))
 | .mn B cs lo hi=>∃a c,H w=some (.tup [.str "many",.ref a,.ref c,.int lo,.int hi])/\H a=some (.tup (B.map V.int))/\H c=some (.tup (cs.map V.str))
 | .sm ts lo hi=>∃t,H w=some (.tup [.str "sum",.ref t,bV lo,bV hi])/\lY H t ts
 | .tb cs rows=>∃c t vs,H w=some (.tup [.str "table",.ref c,.ref t])/\H c=some (.tup (cs.map V.str))/\H t=some (.tup vs)/\dn H vs rows
 | .wy cs ps es=>∃c t e vs,H w=some (.tup [.str "way",.ref c,.ref t,.ref e])/\H c=some (.tup (cs.map V.str))/\H t=some (.tup vs)/\jJ H vs ps/\H e=some (.tup (es.map V.int))
 | .bh cs z=>∃c,H w=some (.tup [.str "behind",.ref c,.int z])/\H c=some (.tup (cs.map V.str))
def WX (H:Hp) (w:Addr):Wx->Prop
 | .pl W=>WS H w W
 | .sa c vs W=>∃t u,H w=some (.tup [.str "same",.str c,.ref t,.ref u])/\H t=some (.tup (vs.map V.int))/\WS H u W
theorem cM {w:Addr} {W:Wi} (h:WS H w W) (k : ∀a xs,H a=some (.tup xs)->H' a=some (.tup xs)):WS H' w W:=by
 cases W with
 | un cs=>obtain⟨c,h1,h2⟩:=h;exact⟨c,k _ _ h1,k _ _ h2⟩
 | mn Y cs lo hi=>obtain⟨a,c,h1,h2,z⟩:=h;exact⟨a,c,k _ _ h1,k _ _ h2,k _ _ z⟩
 | sm ts lo hi=>obtain⟨t,h1,h2⟩:=h;exact⟨t,k _ _ h1,h2.keep k⟩
 | tb cs rows=>obtain⟨c,t,vs,h1,h2,z,B⟩:=h;exact⟨c,t,vs,k _ _ h1,k _ _ h2,k _ _ z,B.keep k⟩
 | wy cs ps es=>obtain⟨c,t,e,vs,h1,h2,z,B,U⟩:=h;exact⟨c,t,e,vs,k _ _ h1,k _ _ h2,k _ _ z,B.keep k,k _ _ U⟩
 | bh cs F=>obtain⟨c,h1,h2⟩:=h;exact⟨c,k _ _ h1,k _ _ h2⟩
theorem bU {w:Addr} {W:Wx} (h:WX H w W) (k : ∀a xs,H a=some (.tup xs)->H' a=some (.tup xs)):WX H' w W:=by
 cases W with
 | pl W=>exact cM h k
 | sa c vs W=>obtain⟨t,u,h1,h2,z⟩:=h;exact⟨t,u,k _ _ h1,k _ _ h2,cM z k⟩
def fz:Wi->List Str
 | .un cs=>cs
 | .mn _ cs _ _=>cs
 | .sm ts _ _=>ts.map (·.2)
 | .tb cs _=>cs
 | .wy cs _ _=>cs
 | .bh cs _=>cs
def rX:Wx->List Str
 | .pl W=>fz W
 | .sa c _ W=>c :: fz W
def ib:Wi->Str
 | .un _ => "unlike"
 | .mn _ _ _ _ => "many"
 | .sm _ _ _ => "sum"
 | .tb _ _ => "table"
 | .wy _ _ _ => "way"
 | .bh _ _ => "behind"
def jc:List Str:=["unlike","many","sum","table","way","behind"]
def rM:List Str := "same" :: jc
theorem nX (W:Wi):ib W∈jc:=by cases W <;> simp[jc,ib]
theorem Hx {W:Wi} (h:ib W = "unlike") : ∃cs,W = .un cs:=by
 cases W with
 | un cs=>exact⟨_,rfl⟩
 | _=>exact absurd h (show ¬ (Str.ofString _=Str.ofString _) by decide+kernel)
theorem HX {W:Wi} (h:ib W = "many") : ∃z cs lo hi,W = .mn z cs lo hi:=by
 cases W with
 | mn=>exact⟨_,_,_,_,rfl⟩
 | _=>exact absurd h (show ¬ (Str.ofString _=Str.ofString _) by decide+kernel)
theorem HQ {W:Wi} (h:ib W = "sum") : ∃ts lo hi,W = .sm ts lo hi:=by
 cases W with
 | sm=>exact⟨_,_,_,rfl⟩
 | _=>exact absurd h (show ¬ (Str.ofString _=Str.ofString _) by decide+kernel)
theorem HJ {W:Wi} (h:ib W = "table") : ∃cs rows,W = .tb cs rows:=by
 cases W with
 | tb=>exact⟨_,_,rfl⟩
 | _=>exact absurd h (show ¬ (Str.ofString _=Str.ofString _) by decide+kernel)
theorem Iu {W:Wi} (h:ib W = "way") : ∃cs ps es,W = .wy cs ps es:=by
 cases W with
 | wy=>exact⟨_,_,_,rfl⟩
 | _=>exact absurd h (show ¬ (Str.ofString _=Str.ofString _) by decide+kernel)
theorem HH {W:Wi} (h:ib W = "behind") : ∃cs z,W = .bh cs z:=by
 cases W with
 | bh=>exact⟨_,_,rfl⟩
 | _=>exact absurd h (show ¬ (Str.ofString _=Str.ofString _) by decide+kernel)
section
variable {k2:Nat} {ps2:List Str} {sp2:Sp} {p:Pos} {t:TA}
theorem eE (F:Fn X.prog X.w X.K X.mg X.base x k ps sp) (G:Fn X.prog X.w X.K X.mg X.base x k2 ps2 sp2) (Z:PA X (e :: es) t) (hr:ci k X.A:=by exact ci.mono (by assumption) (by ctx_has m)) (U:ci k2 X.A:=by exact ci.mono (by assumption) (by ctx_has m)) (hg:Gl X x:=by exact rfl) (z:(x ==("__debug__" : Str))=false:=by decide)
  (he:starEach (e :: es) X.env=(false,eval e X.env) :: starEach es X.env:=by rfl) (B:(backTo pos (starEach es X.env)).any (·.1)=false:=by rfl) :
  PE X (.Call (.Name x p) (e :: es) [] pos) (sW (λvs H Q E=>sp vs H Q E\/sp2 vs H Q E) [] E0 t):=by
 obtain⟨f,fd,F,m,Y,b⟩:=F;obtain⟨f2,aa,G,m2,ac,b2⟩:=G;have ef:f2=f:=by rw[m] at m2;cases m2;rfl
 subst ef;intro pins s σ H Q I h;refine wpAny_Call_Name_kw (md I hg m ?_ z)
 refine callWith_K (h₀:=X.base) I.ok.mod.kin Y (thn (Z pos pins s σ H _ I h) λus s1 ⟨vs,H1,I1,r,q⟩=>⟨I1.kIn,?_⟩) he B
 rcases q with q | q
 .exact kG F hr b .nil qv I1 r q
 .exact kG G U b2 .nil qv I1 r q
theorem uL (L:FnL K mg x st ps):Fn P w K mg base x k ps (λ_ _ _ _=>False):=by
 obtain⟨f,fd,F,m,b⟩:=L;exact⟨f,fd,⟨λ_ _ _ _ h=>h.elim,λ_ _ _ _ _ _ _ _ _ _ _ _ _ h=>h.elim⟩,m,F.kp,b⟩
end
def AR:Sp:=λvs H Q _=>∃(d l:Addr) (lo hi:Int),vs=[.ref d,.int lo,.int hi]/\aC H d l/\lo<=hi/\-10000000000000<=lo/\hi<=10000000000000/\∀(p:Addr) (a b:Option Int) (H':Hp),H p=none->H' p=some (.tup [bV a,bV b])->aC H' d l->But d l H H'->Q (.ref p) H'
theorem BS {a v:Int} (Y : -1000000<=a) (z:a<=1000000) (B : -1000000<=v) (U:v<=1000000) : -1000000000000<=a * v:=by
 have h1:a.natAbs<=1000000:=by omega
 have h2:v.natAbs<=1000000:=by omega
 have F:(a * v).natAbs<=1000000 * 1000000:=by rw[Int.natAbs_mul];exact Nat.mul_le_mul h1 h2
 omega
theorem A5 {a v:Int} (Y : -1000000<=a) (z:a<=1000000) (B : -1000000<=v) (U:v<=1000000):a * v<=1000000000000:=by
 have h1:a.natAbs<=1000000:=by omega
 have h2:v.natAbs<=1000000:=by omega
 have F:(a * v).natAbs<=1000000 * 1000000:=by rw[Int.natAbs_mul];exact Nat.mul_le_mul h1 h2
 omega
theorem nv {D:Addr} {x:Int} {Q:VK} (h:H a=some (.tup (ns.map V.int))) (B : -1000000<=x) (F:x<=1000000) (hl:ns.length<=20) (U:H D=none) (q : ∀H',am H H'->H' D=some (.lst ((ns.map λv=>x * v).map V.int))->Q (.ref D) H') :
  lm (Itt K a) [none,some (V.int x)] (dW 0) pT (tOp (rI zV λi j=>V.int (i * j)) (eP 1) (eP 0)) Q H D:=by
 refine cA ba (λv=>match v with | .int i=>.int (x * i) | _=>.non) U (λH' s=>.of (s _ _ h)) (by simp;omega) ?_ ?_
 .intro y H2 Q2 hy sm q2
  obtain⟨z,Y,rfl⟩:=mem_map.mp hy;ctx_has v
  exact⟨.inl ⟨by omega,by omega⟩,q2 H2 (am.refl _)⟩
 .intro H2 sm e2
  refine q H2 sm ?_
  rw[e2,map_map,map_map];rfl
def Dq:Sp:=λvs H Q _=>∃(d l z ra:Addr) (cs:List Str) (kvs:List (Key × V)) (rm:Str->List Int),vs=[.ref d,.ref z,.ref ra]/\aC H d l/\(ra≠d/\ra≠l)/\H z=some (.tup (cs.map V.str))/\H ra=some (.dK kvs)/\cq H kvs cs rm/\cs.length<=12/\(∀c∈cs,rm c≠[]/\(rm c).length<=20/\∀v∈rm c,-1000000<=v/\v<=1000000) /\
 ∀(w:Addr) (ts:List (Int × Str)) (lo hi:Option Int) (H':Hp),H w=none->WS H' w (.sm ts lo hi)->ts.map (·.2)=cs.take 4->(∀x∈ts,-1000000<=x.1/\x.1<=1000000/\x.1≠0)->aC H' d l->But d l H H'->Q (.ref w) H'
theorem aC.tupN (D:aC H d l) (h:H a=some (.tup vs)):a≠d/\a≠l:=by
 obtain⟨m',Z,Y,U,F,B,_⟩:=D.ex;exact⟨aX h F (by intro z;cases z),aX h B (by intro z;cases z)⟩
theorem But.tup {H H':Hp} {d l a:Addr} {vs:List V} (B:But d l H H') (D:aC H d l) (h:H a=some (.tup vs)):H' a=some (.tup vs):=B a _ (D.tupN h).1 (D.tupN h).2 h
abbrev Dz5:=Fn P w K mg base "_law_bounds" 2 ["_law_deal_here","_law_low","_law_high"] (AR)
theorem oJ (T:Txt w K mg base) (L:FnL K mg "_law_bounds" fe ["_law_deal_here","_law_low","_law_high"]) (Fa : @Dz0 P w K mg base) : @Dz5 P w K mg base:=by
 ctx_has z oF <;> obtain⟨d,l,lo,hi,rfl,D,av,aw,ar,k⟩:=h
 .rfl
 refine⟨_,(af (az 3 (aN bz (pvM 1) (ah Fa (aa (pvM 0) (aa (aN bz (aN gN (pvM 2) (pvM 1)) ae) ac)))))
  (af (az 4 (aN bz (pvM 3) (ah Fa (aa (pvM 0) (aa (aN bz (aN gN (pvM 2) (pvM 3)) ae) ac)))))
  (ai (aB (ao fC (bx (aa (aI (aa (pvM 3) (aa (pvM 4) ac))) (aa (aI (aa (pvM 3) (aa (pvM 3) ac))) (aa (aI (aa (pvM 3) (aa jo ac))) (aa (aI (aa jo (aa (pvM 4) ac))) ac))))) (ah Fa (aa (pvM 0) (aa ae ac)))))))),?_⟩
 ctx_has v
 refine aS D (by omega) (by omega) λB H1 au a0 D1 B1=>?_
 ctx_has v
 refine aS D1 (by omega) (by omega) λF H2 ax ay D2 B2=>?_
 ctx_has v
 refine⟨by decide,λp1 g1=>⟨by decide,λp2 g2=>⟨by decide,λp3 g3=>⟨by decide,λU Z=>⟨by decide,λq gq=>?_⟩⟩⟩⟩⟩
 have s4:=(((am.upd0 (o:=.tup [.int (lo+B),.int (lo+B+F)]) g1).upd_new (o:=.tup [.int (lo+B),.int (lo+B)]) g2).upd_new (o:=.tup [.int (lo+B),.non]) g3).upd_new (o:=.tup [.non,.int (lo+B+F)]) Z;have ad:p1≠p2:=λz=>by rw[z,ab] at g2;cases g2
 have aj:p1≠p3:=λz=>by rw[<- z,ag ad,ab] at g3;cases g3
 have ak:p2≠p3:=λz=>by rw[<- z,ab] at g3;cases g3
 have an:p1≠U:=λz=>by rw[<- z,ag aj,ag ad,ab] at Z;cases Z
 have ap:p2≠U:=λz=>by rw[<- z,ag ak,ab] at Z;cases Z
 have aq:p3≠U:=λz=>by rw[<- z,ab] at Z;cases Z
 have h1:upd (upd (upd (upd H2 p1 (.tup [.int (lo+B),.int (lo+B+F)])) p2 (.tup [.int (lo+B),.int (lo+B)])) p3 (.tup [.int (lo+B),.non])) U (.tup [.non,.int (lo+B+F)]) p1=some (.tup [.int (lo+B),.int (lo+B+F)]):=by rw[ag an,ag aj,ag ad,ab]
 have h2:upd (upd (upd (upd H2 p1 (.tup [.int (lo+B),.int (lo+B+F)])) p2 (.tup [.int (lo+B),.int (lo+B)])) p3 (.tup [.int (lo+B),.non])) U (.tup [.non,.int (lo+B+F)]) p2=some (.tup [.int (lo+B),.int (lo+B)]):=by rw[ag ap,ag ak,ab]
 have h3:upd (upd (upd (upd H2 p1 (.tup [.int (lo+B),.int (lo+B+F)])) p2 (.tup [.int (lo+B),.int (lo+B)])) p3 (.tup [.int (lo+B),.non])) U (.tup [.non,.int (lo+B+F)]) p3=some (.tup [.int (lo+B),.non]):=by rw[ag aq,ab]
 have h4:upd (upd (upd (upd H2 p1 (.tup [.int (lo+B),.int (lo+B+F)])) p2 (.tup [.int (lo+B),.int (lo+B)])) p3 (.tup [.int (lo+B),.non])) U (.tup [.non,.int (lo+B+F)]) U=some (.tup [.non,.int (lo+B+F)]):=ab
 have f1:H p1=none:=(B1.trans B2).free D2 g1
 have f2:H p2=none:=((B1.trans B2).new g1).free (D2.new g1) g2
 have f3:H p3=none:=(((B1.trans B2).new g1).new g2).free ((D2.new g1).new g2) g3
 have f4:H U=none:=((((B1.trans B2).new g1).new g2).new g3).free (((D2.new g1).new g2).new g3) Z
 have D4:=D2.same s4;have B4:=(B1.trans B2).same s4;generalize upd (upd (upd (upd H2 p1 (.tup [.int (lo+B),.int (lo+B+F)])) p2 (.tup [.int (lo+B),.int (lo+B)])) p3 (.tup [.int (lo+B),.non])) U (.tup [.non,.int (lo+B+F)])=H4 at gq h1 h2 h3 h4 D4 B4 ⊢;refine jz D4 gq (by decide) (by decide) rfl λr5 v H5 hv ha D5 B5 h5=>?_
 ctx_has v h5 ha
 have nt : ∀{p:Addr} {vs:List V},H4 p=some (.tup vs)->H5 p=some (.tup vs):=λh=>B5 _ _ (D4.tupN h).1 (D4.tupN h).2 h
 have Y:=B4.trans B5;simp only[mem_cons,not_mem_nil,or_false] at hv;rcases hv with rfl | rfl | rfl | rfl
 .exact k p1 (some _) (some _) H5 f1 (nt h1) D5 Y
 .exact k p2 (some _) (some _) H5 f2 (nt h2) D5 Y
 .exact k p3 (some _) none H5 f3 (nt h3) D5 Y
 .exact k U none (some _) H5 f4 (nt h4) D5 Y
abbrev Dz6:=Fn P w K mg base "_law_sum" 3 ["_law_deal_here","_law_some_here","_law_rooms_here"] (Dq)
abbrev nz0:List Str:=["_law_deal_here","_law_some_here","_law_rooms_here","_law_terms","_law_low","_law_high","_law_name","_law_a"]
theorem uM (T : Txt w K mg base) (L:FnL K mg "_law_sum" eQ ["_law_deal_here","_law_some_here","_law_rooms_here"]) (Fa : @Dz0 P w K mg base) (FO : @Dz5 P w K mg base) : @Dz6 P w K mg base:=by
  ctx_has z tH <;> obtain⟨d,l,sa,ra,cs,kvs,rm,rfl,D,a9,aM,a6,aS,bh,bb,k⟩:=h
  . rfl
  refine⟨_,(af (az 3 (bx ac))
    (af (az 4 ae)
    (af (az 5 ae)
    (af (bC (cX K (bG oM (pvM 1) cB (bN ae))) (aA 6) (af (az 7 (ao fC (bx (aa ae (aa ae (aa (iW fo ae) (aa ae (aa (iW fo ae) (aa ae ac))))))) (ah Fa (aa (pvM 0) (aa ae ac)))))
    (af (bY (eL PySem.F.slot_list_append PySem.F.type_list_append bK (pvM 3) (aa (aI (aa (pvM 7) (aa (pvM 6) ac))) ac)))
    (af (az 4 (aN bz (pvM 4) (aE (yh rfl) T.b_min (aa (aZ (N:=["_law_value","_law_a"]) (nt:=1) (js:=[7]) (aH nz0 (ak eQ).names) (cX K (gC hu (pvM 2) (pvM 6))) (aA 0) aP aV (aN ik (pvM 1) (pvM 0))) ac))))
    (ai (az 5 (aN bz (pvM 5) (aE (yg rfl) T.b_max (aa (aZ (N:=["_law_value","_law_a"]) (nt:=1) (js:=[7]) (aH nz0 (ak eQ).names) (cX K (gC hu (pvM 2) (pvM 6))) (aA 0) aP aV (aN ik (pvM 1) (pvM 0))) ac)))))))))
    (af (rL (ah FO (aa (pvM 0) (aa (pvM 4) (aa (pvM 5) ac)))) (de (n:=2) rfl (aW (aA 4) (aW (aA 5) cO))))
    (ai (aB (aI (aa au (aa (aF aO T.b_tuple (aa (pvM 3) ac)) (aa (pvM 4) (aa (pvM 5) ac)))))))))))),?_⟩
  ctx_has v
  refine⟨by decide,λp hp=>?_⟩
  have np:=D.ne hp;refine⟨_,by rw[ag (aj aM hp)];exact aM,λq H1 hq s1=>⟨_,hq,?_⟩⟩
  rw[show dQ (cs.map V.str) none (some 4)=(cs.take 4).map V.str from lZ V.str cs 4] at hq
  have aR:=(am.upd0 (o:=.lst []) hp).trans s1;have D1:=D.same aR;refine bR ba (λi σ H'=>∃(as:List (Addr × Int × Str)) (lo hi:Int) (v6 v7:Option V),σ=[some (.ref d),some (.ref sa),some (.ref ra),some (.ref p),some (.int lo),some (.int hi),v6,v7]/\H' p=some (.lst (as.map λx=>V.ref x.1))/\(∀x∈as,H' x.1=some (.tup [.int x.2.1,.str x.2.2]))/\as.map (·.2.2)=(cs.take 4).take i/\(∀x∈as,-1000000<=x.2.1/\x.2.1<=1000000/\x.2.1≠0)/\lo<=hi/\-(1000000000000 * (i:Int))<=lo/\hi<=1000000000000 * (i:Int)/\H' q=some (.tup ((cs.take 4).map V.str))/\aC H' d l/\But d l H H')
    ⟨[],0,0,_,_,rfl,s1 _ _ ab,by simp,by simp,by simp,by decide,by decide,by decide,hq,D1,(But.refl H).same aR⟩ (λi σ H' a8=>by obtain⟨_,_,_,_,_,_,_,_,_,_,_,_,_,h,_⟩:=a8;exact(.of h)) ?_ ?_
  . rintro i x σ H2 hi Z  ⟨as,lo,a4,v6,v7,rfl,aw,a2,ad,a3,a5,aU,be,aD,D2,B2⟩
    rw[length_map] at hi;obtain⟨c,aK,rfl⟩ : ∃c,(cs.take 4)[i]? = some c/\V.str c=x:=by
      rw[List.getElem?_map] at Z;cases e:(cs.take 4)[i]? with
      | none=>rw[e] at Z;cases Z
      | some nm=>rw[e] at Z;exact⟨nm,rfl,Option.some.inj Z⟩
    have aG:c∈cs:=mem_of_mem_take (mem_of_getElem? aK)
    have bk  : i < 4 := by have:(cs.take 4).length<=4:=by simp;omega
                           omega
    have bj:as.length<=i:=by
      have:=congrArg List.length ad
      rw[length_map] at this;rw[this];exact length_take_le _ _
    ctx_has v
    refine⟨by decide,λt ht=>?_⟩
    refine jz D2 ht (by decide) (by decide) rfl λr v H3 hv ha D3 B3 h3=>?_
    obtain⟨a,rfl,a0,a1,an⟩ : ∃a:Int,v = .int a/\-1000000<=a/\a<=1000000/\a≠0:=by
      simp only[mem_cons,not_mem_nil,or_false] at hv;rcases hv with rfl | rfl | rfl | rfl | rfl | rfl
      . exact⟨1,rfl,by decide,by decide,by decide⟩
      . exact⟨1,rfl,by decide,by decide,by decide⟩
      . exact⟨-1,rfl,by decide,by decide,by decide⟩
      . exact⟨2,rfl,by decide,by decide,by decide⟩
      . exact⟨-3,rfl,by decide,by decide,by decide⟩
      . exact⟨1000000,rfl,by decide,by decide,by decide⟩
    have av:=B3 p _ np.1 np.2 aw;ctx_has v h3 ha
    obtain⟨ar,aL,aT⟩:=aS c aG;have hg:=bb c aG;have rp:ra≠p:=aj a6 hp
    refine⟨⟨_,av⟩,by decide,λU aq=>⟨_,(am.upd0 aq) _ _ av,by rw[length_map];exact ax (by omega),?_⟩⟩
    have pt:p≠U:=aj av aq
    have aY:=(B2.trans B3).new (o:=.tup [.int a,.str c]) aq;have B4:=aY.put (o:=.lst (as.map (λx=>V.ref x.1)++[.ref U])) hp
    have D4:=(D3.new (o:=.tup [.int a,.str c]) aq).put (o:=.lst (as.map (λx=>V.ref x.1)++[.ref U])) np.1 np.2
    have kt : ∀b xs,H2 b=some (.tup xs)->upd (upd H3 U (.tup [.int a,.str c])) p (.lst (as.map (λx=>V.ref x.1)++[.ref U])) b=some (.tup xs):=λb xs e=>by
      rw[ag (aX e aw (by intro z;cases z))]
      exact(am.upd0 aq) _ _ (B3.tup D2 e)
    have ay:upd (upd H3 U (.tup [.int a,.str c])) p (.lst (as.map (λx=>V.ref x.1)++[.ref U])) U=some (.tup [.int a,.str c]):=by rw[ag pt.symm];exact ab
    have aJ:upd (upd H3 U (.tup [.int a,.str c])) p (.lst (as.map (λx=>V.ref x.1)++[.ref U])) p=some (.lst (as.map (λx=>V.ref x.1)++[.ref U])):=ab
    have ap:=B4 ra _ a9.1 a9.2 a6;have B:=B4.tup D aT;generalize upd (upd H3 U (.tup [.int a,.str c])) p (.lst (as.map (λx=>V.ref x.1)++[.ref U]))=H4 at B4 D4 kt ay aJ ap B ⊢
    have aQ:(rm c).map (λv=>a * v)≠[]:=by simp;exact hg.1
    refine⟨kvs,ap,_,aL,ar,rfl,_,B,λD5 g5=>nv B a0 a1 hg.2.1 g5 λH5 s5 e5=>⟨D5,rfl,_,e5,aQ,λm hm a7=>⟨kvs,s5 _ _ ap,_,aL,ar,rfl,_,s5 _ _ B,λD6 g6=>nv (s5 _ _ B) a0 a1 hg.2.1 g6 λH6 s6 e6=>⟨D6,rfl,_,e6,aQ,λM hM bg=>?_⟩⟩⟩⟩
    have Y:=s5.trans s6;obtain⟨v1,bc,em⟩:=mem_map.mp hm;obtain⟨v2,bd,eM⟩:=mem_map.mp hM;have b1:=hg.2.2 v1 bc;have b2:=hg.2.2 v2 bd;have bn : -1000000000000<=m:=by rw[<- em];exact BS a0 a1 b1.1 b1.2
    have bo:M<=1000000000000:=by rw[<- eM];exact A5 a0 a1 b2.1 b2.2
    have bi:=a7 M hM;refine⟨as++[(U,a,c)],by rw[Y _ _ aJ];simp,λx Z=>?_,?_,λx Z=>?_,by omega,by push_cast;omega,by push_cast;omega,Y _ _ (kt _ _ aD),D4.same Y,B4.same Y⟩
    . rcases mem_append.mp Z with z | z
      . exact Y _ _ (kt _ _ (a2 x z))
      . rw[mem_singleton.mp z];exact Y _ _ ay
    . rw[take_add_one,aK,map_append,ad];rfl
    . rcases mem_append.mp Z with z | z
      . exact a3 x z
      . rw[mem_singleton.mp z];exact⟨a0,a1,an⟩
  . rintro σ H2 ⟨as,lo,a4,v6,v7,rfl,aw,a2,ad,a3,a5,aU,be,aD,D2,B2⟩
    have bm:((cs.take 4).map V.str).length<=4:=by simp;omega
    rw[take_of_length_le (le_of_eq (by simp):(cs.take 4).length<=((cs.take 4).map V.str).length)] at ad
    ctx_has v
    refine⟨d,l,lo,a4,rfl,D2,a5,by omega,by omega,λu b1 b2 H3 fu bf D3 B3=>?_⟩
    have av:=B3 p _ np.1 np.2 aw;ctx_has v bf av
    intro t ht;have s4:=am.upd0 (o:=.tup (as.map λx=>V.ref x.1)) ht
    refine⟨by decide,λw hw=>?_⟩
    have s5:=s4.upd_new (o:=.tup [.str "sum",.ref t,bV b1,bV b2]) hw;have tw:t≠w:=λz=>by rw[<- z,ab] at hw;cases hw
    refine k w (as.map (·.2)) b1 b2 _ ?_ ⟨t,ab,as,by rw[ag tw,ab],rfl,λx Z=>s5 _ _ (B3.tup D2 (a2 x Z))⟩ ?_ (λx Z=>?_) (D3.same s5) ((B2.trans B3).same s5)
    . exact((B2.trans B3).same s4).free (D3.same s4) hw
    . rw[map_map];exact ad
    . obtain⟨y,hy,rfl⟩:=mem_map.mp Z
      exact a3 y hy
def Cg:Sp:=λvs H Q _=>∃(d l z pa:Addr) (cs:List Str) (ns:List Int),vs=[.ref d,.ref z,.ref pa]/\aC H d l/\(pa≠d/\pa≠l)/\H z=some (.tup (cs.map V.str))/\H pa=some (.lst (ns.map V.int))/\ns.length=5/\cs.length<=12 /\
 ∀(p:Addr) (us:List V) (rows:List (List Int)) (H':Hp),H p=none->H' p=some (.tup us)->dn H' us rows->rows.Nodup->(∀r∈rows,r.length=cs.length)->rows.length<=7->aC H' d l->But d l H H'->Q (.ref p) H'
theorem xu {xs:List α} {r:Int} (z:0<=r) (B:r < (xs.length:Int)) (f:α->V) : ∃x∈xs,atI (xs.map f) r=some (f x):=by
 obtain⟨n,rfl⟩:=Int.eq_ofNat_of_zero_le z;have hn:n < xs.length:=by omega
 exact⟨xs[n],List.getElem_mem hn,aM (by simp[hn])⟩
abbrev Dz7:=Fn P w K mg base "_law_rows" 2 ["_law_deal_here","_law_some_here","_law_pool_here"] (Cg)
theorem sJ (T:Txt w K mg base) (L:FnL K mg "_law_rows" eY ["_law_deal_here","_law_some_here","_law_pool_here"]) (Fa : @Dz0 P w K mg base) : @Dz7 P w K mg base:=by
 ctx_has z rN <;> obtain⟨d,l,sa,pa,cs,ns,rfl,D,B,av,ad,a3,a1,k⟩:=h
 .rfl
 refine⟨_,(af (az 3 (bx ac))
  (af (bC (cb rfl T.b_range (aa (ah Fa (aa (pvM 0) (aa ae ac))) ac)) (aA 4) (af (az 5 (aF aO T.b_tuple (aa (aZ (N:=["_law_name","_law_pool_here","_law_deal_here"]) (nt:=1) (js:=[2,0]) (aH ["_law_deal_here","_law_some_here","_law_pool_here","_law_rows_here","_law_k","_law_row"] (ak eY).names) (jq (K:=K) rfl (pvM 1)) (aA 0) aP aV (ao fC (pvM 1) (ah Fa (aa (pvM 2) (aa ae ac))))) ac)))
  (ai (aK (ay (oH (xR hr)) (pvM 5) (pvM 3)) (ai (bY (eL PySem.F.slot_list_append PySem.F.type_list_append bK (pvM 3) (aa (pvM 5) ac)))) aD))))
  (ai (aB (aF aO T.b_tuple (aa (pvM 3) ac)))))),?_⟩
 ctx_has v
 refine⟨by decide,λg hg=>?_⟩
 have ng:=D.ne hg;refine aS (D.new hg) (by decide) (by decide) λn H1 n0 n1 D1 B1=>⟨_,rfl,by omega,by omega,?_⟩
 have aq:=((But.refl H).new (o:=.lst []) hg).trans B1;refine bR bQ (λi σ H'=>∃(us:List V) (rows:List (List Int)) (v4 v5:Option V),σ=[some (.ref d),some (.ref sa),some (.ref pa),some (.ref g),v4,v5]/\H' g=some (.lst us)/\dn H' us rows/\rows.Nodup/\(∀r∈rows,r.length=cs.length)/\rows.length<=i/\aC H' d l/\But d l H H')
  ⟨[],[],_,_,rfl,B1 g _ ng.1 ng.2 ab,dn.nil,by simp,by simp,by simp,D1,aq⟩ (λ_ _ _ _=>True.intro) ?_ ?_
 .rintro i x σ H2 hi hx ⟨us,rows,v4,v5,rfl,h2,hrv,hnd,hrl,hlen,D2,B2⟩
  rw[aJ] at hi;have Y:=(But.keepTI B2 D).tup _ _ av;ctx_has v Y
  intro q hq;have nq:=D2.ne hq;refine cD ba (λj ys H3=>∃vs:List Int,ys=vs.map V.int/\vs.length=j/\H3 q=some (.lst ys)/\(∀b o,b≠d->b≠l->b≠q->H2 b=some o->H3 b=some o)/\aC H3 d l)
   ⟨[],rfl,rfl,ab,λb o _ _ hb e=>by rw[ag hb];exact e,D2.new hq⟩ (λj ys H3 ⟨_,_,_,h,kk,_⟩=>.of (by
    obtain⟨m',sd,n',a4,a0,aw,_⟩:=D2.ex;exact kk sa _ (aX Y a0 (by intro z;cases z)) (aX Y aw (by intro z;cases z)) (aj Y hq) Y)) ?_ ?_
  .rintro j y ys H3 hj hy ⟨vs,rfl,hvl,h3,k3,D3⟩
   rw[length_map] at hj;ctx_has v
   refine aS D3 (by decide) (by decide) λr4 H4 ar a2 D4 B4=>?_
   have au:=B4 pa _ B.1 B.2 (k3 pa _ B.1 B.2 (aj (B2 pa _ B.1 B.2 ad) hq) (B2 pa _ B.1 B.2 ad));obtain⟨z,_,hz⟩:=xu (xs:=ns) ar (by omega) V.int
   refine⟨r4,rfl,_,au,_,hz,B4 q _ nq.1 nq.2 h3,by rw[length_map];exact ax (by omega),vs++[z],by simp,by simp;omega,ab,λb o h1 h2 h3 e=>by rw[ag h3];exact B4 b o h1 h2 (k3 b o h1 h2 h3 e),D4.put nq.1 nq.2⟩
  .rintro ys H3 ⟨vs,rfl,hvl,h3,k3,D3⟩
   rw[length_map] at hvl;ctx_has v h3
   intro t ht;have s4:am H3 (upd H3 t (.tup (vs.map V.int))):=am.upd0 ht
   have B3:But d l H2 H3:=λb o h1 h2 e=>k3 b o h1 h2 (aj e hq) e
   have ap:=(B2.trans B3).same s4;have D4:=D3.same s4;have U:=s4 _ _ (B3 g _ ng.1 ng.2 h2);have Z:=hrv.keep λa xs e=>s4 _ _ ((But.keepTI B3 D2).tup _ _ e)
   refine vG ab U Z ⟨_,rfl,?_⟩
   refine cG (λan=>?_) (λan=>?_)
   .have hni:vs∉rows:=by simpa using an
    have hk : ∀a xs,upd H3 t (.tup (vs.map V.int)) a=some (.tup xs)->upd (upd H3 t (.tup (vs.map V.int))) g (.lst (us++[.ref t])) a=some (.tup xs):=λa xs e=>by rw[ag (aX e U (by intro z;cases z))];exact e
    refine⟨⟨_,U⟩,us,U,by rw[hrv.length];exact ax (by omega),us++[.ref t],ab,rows++[vs],(Z.keep hk).snoc (hk _ _ ab),nodup_append.mpr ⟨hnd,by simp,λa ha b hb e=>hni (by rw[mem_singleton.mp hb] at e;exact e ▸ ha)⟩,λr hr=>?_,by simp;omega,D4.put ng.1 ng.2,ap.put hg⟩
    rcases mem_append.mp hr with z | z
    .exact hrl r z
    .rw[mem_singleton.mp z];exact hvl
   .exact⟨us,U,rows,Z,hnd,hrl,by omega,D4,ap⟩
 .rintro σ H2 ⟨us,rows,v4,v5,rfl,h2,hrv,hnd,hrl,hlen,D2,B2⟩
  rw[aJ] at hlen;ctx_has v h2
  intro t ht;have s3:am H2 (upd H2 t (.tup us)):=am.upd0 ht
  exact k t us rows _ (B2.free D2 ht) ab (hrv.keep λa xs e=>s3 _ _ e) hnd hrl (by omega) (D2.same s3) (B2.same s3)
def hU (pool:List Int) (n:Nat):List (Int × Int):=List.flatMap (λs:Nat=>pool.map λv=>((s:Int),v)) (range n)
theorem jl (pool:List Int) (n:Nat):hU pool (n+1)=hU pool n++pool.map λv=>((n:Int),v):=by
 unfold hU;rw[List.range_succ,List.flatMap_append];simp
theorem AO {x:Int × Int} (h:x∈hU pool n):x.1 < (n:Int):=by
 unfold hU at h;obtain⟨s,z,B⟩:=List.mem_flatMap.mp h;obtain⟨v,_,rfl⟩:=mem_map.mp B;have:=mem_range.mp z
 show(s:Int) < n
 omega
theorem lh {pool:List Int} (h:pool.Nodup) : ∀n,(hU pool n).Nodup
 | 0=>by simp[hU]
 | n+1=>by
  rw[jl,nodup_append];refine⟨lh h n,pairwise_map.mpr (h.imp λB z=>B (by cases z;rfl)),λa F b U e=>?_⟩
  subst e;obtain⟨v,_,rfl⟩:=mem_map.mp U;have:=AO F
  simp at this
theorem kN (pool:List Int) : ∀n,(hU pool n).length=n * pool.length
 | 0=>by simp[hU]
 | n+1=>by rw[jl,length_append,kN pool n,length_map,Nat.succ_mul]
def Dc (x:Addr × Int × Int × Int):Int × Int:=(x.2.1,x.2.2.1)
def zJ (H:Hp) (as:List (Addr × Int × Int × Int)):Prop:=∀x∈as,H x.1=some (.tup [.int x.2.1,.int x.2.2.1,.int x.2.2.2])
def Gp:Sp:=λvs H Q _=>∃(d l B pa:Addr) (cs:List Str) (pool:List Int),vs=[.ref d,.ref B,.ref pa]/\aC H d l/\H B=some (.tup (cs.map V.str))/\(pa≠d/\pa≠l)/\H pa=some (.lst (pool.map V.int))/\pool.length=5/\pool.Nodup /\
 ∀(z:Addr) (ps:List (Int × Int × Int)) (es:List Int) H',H z=none->(ps.map λx=>(x.1,x.2.1)).Nodup->ps.length<=60->es.length<=60->WS H' z (.wy cs ps es)->aC H' d l->But d l H H'->Q (.ref z) H'
abbrev Dz8:=Fn P w K mg base "_law_way" 2 ["_law_deal_here","_law_some_here","_law_pool_here"] (Gp)
theorem tP (T:Txt w K mg base) (L:FnL K mg "_law_way" gy ["_law_deal_here","_law_some_here","_law_pool_here"]) (Fa : @Dz0 P w K mg base) : @Dz8 P w K mg base:=by
  ctx_has z tZ <;> obtain⟨d,l,sa,pa,cs,pool,rfl,D,ba,ax,a5,a1,aM,k⟩:=h
  . rfl
  refine⟨_,(af (az 3 (aN bz ae (ah Fa (aa (pvM 0) (aa ae ac)))))
    (af (az 4 (bx ac))
    (af (bC (cb rfl T.b_range (aa (pvM 3) ac)) (aA 5) (ai (bC (dr (K:=K) rfl (pvM 2)) (aA 6) (ai (aK (ay uc (ah Fa (aa (pvM 0) (aa ae ac))) ae) (ai (bY (eL PySem.F.slot_list_append PySem.F.type_list_append bK (pvM 4) (aa (aI (aa (pvM 5) (aa (pvM 6) (aa (ah Fa (aa (pvM 0) (aa (pvM 3) ac))) ac)))) ac)))) aD)))))
    (af (cH 7 (N:=["_law_state","_law_deal_here"]) (nt:=1) (js:=[0]) (aH ["_law_deal_here","_law_some_here","_law_pool_here","_law_many","_law_steps","_law_state","_law_value","_law_ends"] (ak gy).names) (cb rfl T.b_range (aa (pvM 3) ac)) (aA 0) aP (rE (ay aT (ah Fa (aa (pvM 1) (aa ae ac))) ae)) (pvM 0))
    (ai (aB (aI (aa au (aa (pvM 1) (aa (aF aO T.b_tuple (aa (pvM 4) ac)) (aa (aF aO T.b_tuple (aa (pvM 7) ac)) ac))))))))))),?_⟩
  ctx_has v
  refine aS D (by decide) (by decide) λr1 H1 bd be D1 B1=>?_
  ctx_has v
  refine⟨by decide,λp hp=>⟨by omega,by omega,?_⟩⟩
  have Z:=D1.ne hp;have aG:H p=none:=by
    cases e:H p with
    | none=>rfl
    | some o=>rw[B1 p o Z.1 Z.2 e] at hp;cases hp
  obtain⟨n,hn⟩ : ∃n:Nat,(1+r1).toNat=n:=⟨_,rfl⟩;have bc:n<=3:=by omega
  rw[hn];refine bR bQ (λi σ H2=>∃as v5 v6,σ=[some (.ref d),some (.ref sa),some (.ref pa),some (.int (1+r1)),some (.ref p),v5,v6,none]/\aC H2 d l/\But d l H H2/\H2 p=some (.lst (as.map λx=>V.ref x.1))/\zJ H2 as/\(as.map Dc).Sublist (hU pool i)) ⟨[],_,_,rfl,D1.put Z.1 Z.2,B1.put aG,ab,(λx U=>by simp at U),by simp⟩ (λi σ H' h=>True.intro) ?_ ?_
  . rintro i x σ H2 hi U ⟨as,v5,v6,rfl,D2,B2,ao,hA,aq⟩
    rw[aJ] at hi;rw[gb hi] at U;cases U;have a4:=B2 pa _ ax.1 ax.2 a5;ctx_has v a4
    refine bR bB (λj σ H3=>∃as v6,σ=[some (.ref d),some (.ref sa),some (.ref pa),some (.int (1+r1)),some (.ref p),some (.int (0+(i:Int))),v6,none]/\aC H3 d l/\But d l H H3/\H3 p=some (.lst (as.map λx=>V.ref x.1))/\zJ H3 as/\(as.map Dc).Sublist (hU pool i++(pool.take j).map λv=>((i:Int),v))) ⟨as,_,rfl,D2,B2,ao,hA,by simpa using aq⟩ (λj σ H' a8=>by obtain⟨_,_,_,_,B,_⟩:=a8;exact(.of (B pa _ ax.1 ax.2 a5))) ?_ ?_
    . rintro j x σ H3 hj U ⟨as,v6,rfl,D3,B3,ap,an,Y⟩
      obtain⟨v,hv,rfl⟩ : ∃v,pool[j]? = some v/\V.int v=x:=by
        rw[List.getElem?_map] at U;cases e:pool[j]? with
        | none=>rw[e] at U;cases U
        | some nm=>rw[e] at U;exact⟨nm,rfl,Option.some.inj U⟩
      ctx_has v
      refine aS D3 (by decide) (by decide) λr4 H4 aU aR D4 B4=>?_
      ctx_has v
      have ad:=B4 p _ Z.1 Z.2 ap;have aL:zJ H4 as:=λx U=>(But.keepTI B4 D3).tup _ _ (an x U)
      have ek:pool.take (j+1)=pool.take j++[v]:=by rw[take_add_one,hv];rfl
      have aW:(as.map λx=>V.ref x.1).length < sizeLine:=by
        have h1:=Y.length_le;rw[length_map,length_append,kN,a1,length_map] at h1;have h2:(pool.take j).length<=5:=by rw[<- a1];exact List.length_take_le' _ _
        exact lt_of_lt_of_le (show(as.map λx=>V.ref x.1).length < 1000 by rw[length_map];omega) (by decide)
      refine cG (λh=>?_) (λh=>?_)
      . refine⟨⟨_,ad⟩,aS D4 (by omega) (by omega) λr5 H5 bf bb D5 B5=>⟨by decide,λtp av=>?_⟩⟩
        have ar:=B5 p _ Z.1 Z.2 ad;have a6:zJ H5 as:=λx U=>(But.keepTI B5 D4).tup _ _ (aL x U)
        refine⟨_,(am.upd0 av) _ _ ar,aW,(D5.new av).put Z.1 Z.2,(((B3.trans B4).trans B5).new av).put aG,as++[(tp,(i:Int),v,r5)],by rw[ab];simp,λx U=>?_,?_⟩
        . rcases mem_append.mp U with U | U
          . rw[ag (aX (a6 x U) ar (by intro z;cases z))]
            exact(am.upd0 av) _ _ (a6 x U)
          . rw[mem_singleton.mp U]
            show upd (upd H5 tp _) p _ tp=_
            rw[ag (Ne.symm (aj ar av)),ab,Int.zero_add]
        . rw[ek,map_append,map_append,<- append_assoc]
          exact Y.append (List.Sublist.refl _)
      . refine⟨D4,B3.trans B4,as,ad,aL,Y.trans ?_⟩
        rw[ek,map_append,<- append_assoc];exact List.sublist_append_left _ _
    . rintro σ H3 ⟨as,v6,rfl,D3,B3,ap,an,Y⟩
      rw[length_map,take_length] at Y;exact⟨as,_,_,rfl,D3,B3,ap,an,by rw[jl];exact Y⟩
  . rintro σ H2 ⟨as,v5,v6,rfl,D2,B2,ao,hA,aq⟩
    rw[aJ] at aq;ctx_has v
    refine⟨by omega,by omega,λDd aw=>?_⟩
    have nD:=D2.ne aw;rw[hn];refine cD bQ (λi ys H'=>∃zs:List Int,ys=zs.map V.int/\zs.length<=i/\aC H' d l/\But d l H2 H'/\H' Dd=some (.lst ys)) ⟨[],rfl,by simp,D2.new aw,(But.refl H2).new aw,ab⟩ (λi ys H' h=>True.intro) ?_ ?_
    . rintro i x ys H3 hi U ⟨zs,rfl,a9,D3,B3,a0⟩
      rw[aJ] at hi;rw[gb hi] at U;cases U;ctx_has v
      refine aS D3 (by decide) (by decide) λr4 H4 aU aR D4 B4=>?_
      ctx_has v
      have a7:=B4 Dd _ nD.1 nD.2 a0;refine cG (λh=>?_) (λh=>?_)
      . exact⟨a7,lt_of_lt_of_le (show(zs.map V.int).length < 1000 by rw[length_map];omega) (by decide),zs++[0+(i:Int)],by simp,by simp;omega,D4.put nD.1 nD.2,(B3.trans B4).put aw,ab⟩
      . exact⟨zs,rfl,by omega,D4,B3.trans B4,a7⟩
    . rintro ys H3 ⟨zs,rfl,a9,D3,B3,a0⟩
      rw[aJ] at a9;have aZ:=B3 p _ Z.1 Z.2 ao;refine⟨_,aZ,λl1 g1=>⟨Dd,rfl,_,(am.upd0 g1) _ _ a0,λl2 g2=>⟨by decide,λwa g3=>?_⟩⟩⟩
      have s4:am H3 (upd (upd (upd H3 l1 (.tup (as.map λx=>V.ref x.1))) l2 (.tup (zs.map V.int))) wa (.tup [.str "way",.ref sa,.ref l1,.ref l2])):=((am.upd0 g1).upd_new g2).upd_new g3
      have B4:=(B2.trans B3).same s4;have aE:=((D3.new g1).new g2).ne g3;have a2:=B2.trans B3;have aV:=aq.length_le;rw[length_map,kN,a1] at aV;have a3:l1≠l2:=λz=>by rw[z,ab] at g2;cases g2
      have aY:l1≠wa:=λz=>by rw[<- z,ag a3,ab] at g3;cases g3
      have aQ:l2≠wa:=λz=>by rw[<- z,ab] at g3;cases g3
      have an:zJ H3 as:=λx U=>(But.keepTI B3 D2).tup _ _ (hA x U)
      refine k wa (as.map (·.2)) zs _ ?_ ?_ (by show(as.map (·.2)).length<=60;rw[length_map];omega) (by show zs.length<=60;omega) ⟨sa,l1,l2,_,ab,s4 _ _ ((But.keepTI a2 D).tup _ _ ba),by rw[ag aY,ag a3];exact ab,⟨as,rfl,rfl,λx U=>s4 _ _ (an x U)⟩,by rw[ag aQ];exact ab⟩ (D3.same s4) B4
      . cases e:H wa with
        | none=>rfl
        | some o =>
          have z:=((am.upd0 (o:=.tup (as.map λx=>V.ref x.1)) g1).upd_new (o:=.tup (zs.map V.int)) g2) _ _ (a2 wa o aE.1 aE.2 e)
          rw[z] at g3;cases g3
      . show((as.map (·.2)).map λx=>(x.1,x.2.1)).Nodup
        rw[map_map];exact(lh aM n).sublist aq
def fB (h:Bool):List Str:=("unlike" : Str) :: "many" :: "sum" :: "table" :: "way" :: "behind" ::(if h then[("same" : Str)] else[])
theorem vo (h:Bool):6<=(fB h).length/\(fB h).length<=7:=by cases h <;> exact⟨by decide,by decide⟩
theorem tz (ns:List Str):PyData.eqv (.list (ns.map PyData.str)) (.list [])=decide (ns=[]):=by
 cases ns with
 | nil=>rfl
 | cons n ns=>simp[PyData.eqv,PyData.eqvAll]
def okC (ws cs:List Str):Prop:=cs≠[]/\cs.Nodup/\(∀c∈cs,c∈ws)/\cs.length<=12
def okV (ns vs:List Int):Prop:=vs.Nodup/\(∀v∈vs,v∈ns)/\vs.length<=20
def okW (ws:List Str) (ns:List Int):Wi->Prop
 | .un cs=>okC ws cs
 | .mn z cs _ _=>okC ws cs/\okV ns z
 | .sm ts _ _=>okC ws (ts.map (·.2))/\∀x∈ts,-1000000<=x.1/\x.1<=1000000/\x.1≠0
 | .tb cs rows=>okC ws cs/\rows.Nodup/\(∀r∈rows,r.length=cs.length)/\rows.length<=7
 | .wy cs ps es=>okC ws cs/\(ps.map λx=>(x.1,x.2.1)).Nodup/\ps.length<=60/\es.length<=60
 | .bh cs _=>okC ws cs
def okX (ws:List Str) (ns:List Int):Wx->Prop
 | .pl W=>okW ws ns W
 | .sa c vs W=>c∈ws/\okV ns vs/\okW ws ns W/\c∉fz W
theorem AK (h : ∀c∈ws,c∈ws') : ∀{W:Wi},okW ws ns W->okW ws' ns W
 | .un _,⟨a,b,c,d⟩=>⟨a,b,λx z=>h x (c x z),d⟩
 | .mn _ _ _ _,⟨⟨a,b,c,d⟩,r⟩=>⟨⟨a,b,λx z=>h x (c x z),d⟩,r⟩
 | .sm _ _ _,⟨⟨a,b,c,d⟩,r⟩=>⟨⟨a,b,λx z=>h x (c x z),d⟩,r⟩
 | .tb _ _,⟨⟨a,b,c,d⟩,r⟩=>⟨⟨a,b,λx z=>h x (c x z),d⟩,r⟩
 | .wy _ _ _,⟨⟨a,b,c,d⟩,r⟩=>⟨⟨a,b,λx z=>h x (c x z),d⟩,r⟩
 | .bh _ _,⟨a,b,c,d⟩=>⟨a,b,λx z=>h x (c x z),d⟩
theorem kD : ∀{W:Wi},okW ws ns W->∀c∈fz W,c∈ws
 | .un _,⟨_,_,c,_⟩=>c
 | .mn _ _ _ _,⟨⟨_,_,c,_⟩,_⟩=>c
 | .sm _ _ _,⟨⟨_,_,c,_⟩,_⟩=>c
 | .tb _ _,⟨⟨_,_,c,_⟩,_⟩=>c
 | .wy _ _ _,⟨⟨_,_,c,_⟩,_⟩=>c
 | .bh _ _,⟨_,_,c,_⟩=>c
theorem kU : ∀{W:Wx},okX ws ns W->∀c∈rX W,c∈ws
 | .pl _,h=>kD h
 | .sa _ _ _,h=>λc B=>by
  rcases mem_cons.mp B with rfl | z
  .exact h.1
  .exact kD h.2.2.1 c z
structure gv (H:Hp) (d l a ra pa:Addr) (ws:List Str) (ns:List Int) (kvs:List (Key × V)) (rm:Str->List Int):Prop where
 D:aC H d l
 na:a≠d/\a≠l
 nr:ra≠d/\ra≠l
 np:pa≠d/\pa≠l
 ha:H a=some (.lst (ws.map V.str))
 hr:H ra=some (.dK kvs)
 hp:H pa=some (.lst (ns.map V.int))
 rf:cq H kvs ws rm
 wn:ws≠[]
 nd:ws.Nodup
 wl:ws.length<=12
 n5:ns.length=5
 nn:ns.Nodup
 nm : ∀c∈ws,bS c
 gd : ∀c∈ws,rm c≠[]/\(rm c).length<=20/\∀v∈rm c,-1000000<=v/\v<=1000000
theorem gv.but (F:gv H d l a ra pa ws ns kvs rm) (D:aC H' d l) (B:But d l H H'):gv H' d l a ra pa ws ns kvs rm :=
 ⟨D,F.na,F.nr,F.np,B _ _ F.na.1 F.na.2 F.ha,B _ _ F.nr.1 F.nr.2 F.hr,B _ _ F.np.1 F.np.2 F.hp,F.rf.same λx vs e=>B.tup F.D e,F.wn,F.nd,F.wl,F.n5,F.nn,F.nm,F.gd⟩
theorem gv.same {H H':Hp} {d l a ra pa:Addr} {ws:List Str} {ns:List Int} {kvs:List (Key × V)} {rm:Str->List Int} (F:gv H d l a ra pa ws ns kvs rm) (s:am H H'):gv H' d l a ra pa ws ns kvs rm :=
 F.but (F.D.same s) ((But.refl H).same s)
def iK (h:Bool):Sp:=λvs H Q _=>∃(d l a ra pa so:Addr) (ws:List Str) (ns:List Int) (kvs:List (Key × V)) (rm:Str->List Int),vs=[.ref d,.ref a,.ref ra,.ref pa,.ref so]/\gv H d l a ra pa ws ns kvs rm/\(so≠d/\so≠l)/\H so=some (.lst ((fB h).map V.str)) /\
 ∀(w:Addr) (W:Wx) (H':Hp),WX H' w W->okX ws ns W->(h=false->∃z,W = .pl z)->aC H' d l->But d l H H'->Q (.ref w) H'
def jE (h:Bool):Sp:=if h then iK false else λ_ _ _ _=>False
theorem sV {h:Bool} {s:Str} (z:s∈fB h):s = "unlike" \/ s = "many" \/ s = "sum" \/ s = "table" \/ s = "way" \/ s = "behind" \/(h=true/\s = "same"):=by
 unfold fB at z;cases h
 .simpa using z
 .simpa using z
theorem Di {cs zs:List Str} (z:(cs++zs).Perm ws) (h1:1<=cs.length) (B:ws.Nodup) (U:ws.length<=12):okC ws cs:=by
 have hn:=z.nodup_iff.mpr B;refine⟨λe=>by rw[e] at h1;simp at h1,(nodup_append.mp hn).1,λc F=>z.mem_iff.mp (mem_append_left _ F),?_⟩
 have:=z.length_eq
 rw[length_append] at this;omega
theorem zL {vs zs:List Int} (z:(vs++zs).Perm ns) (B:ns.Nodup) (U:ns.length=5):okV ns vs:=by
 have hn:=z.nodup_iff.mpr B;refine⟨(nodup_append.mp hn).1,λc F=>z.mem_iff.mp (mem_append_left _ F),?_⟩
 have:=z.length_eq
 rw[length_append] at this;omega
theorem gw {h:Bool} (T:Txt w K mg base) (L:FnL K mg "_law_wish" dJ ["_law_deal_here","_law_names_here","_law_rooms_here","_law_pool_here","_law_sorts"]) (Fa : @Dz0 P w K mg base) (Fb : @Dz4 P w K mg base) (FH : @Dz6 P w K mg base) (FF : @Dz7 P w K mg base) (FI : @Dz8 P w K mg base) (aW:Fn P w K mg base "_law_wish" (n+1) ["_law_deal_here","_law_names_here","_law_rooms_here","_law_pool_here","_law_sorts"] (jE h)):Fn P w K mg base "_law_wish" (n+5) ["_law_deal_here","_law_names_here","_law_rooms_here","_law_pool_here","_law_sorts"] (iK h):=by
 ctx_has z rQ <;> obtain⟨d,l,a,ra,pa,so,ws,ns,kvs,rm,rfl,M,aG,a6,k⟩:=h
 .rfl
 refine⟨_,(af (az 5 (ao fC (pvM 4) (ah Fa (aa (pvM 0) (aa (aE bo T.b_len (aa (pvM 4) ac)) ac)))))
  (af (az 6 (ah Fb (aa (pvM 0) (aa (pvM 1) (aa (aE (yt rfl) T.b_min (aa (aE bo T.b_len (aa (pvM 1) ac)) (aa (aN bz ae (aF xU T.b_int (aa (gj aT (pvM 5) au) ac))) ac))) ac)))))
  (af (aK (ay aT (pvM 5) au) (ai (aB (aI (aa au (aa (pvM 6) ac))))) aD)
  (af (aK (ay aT (pvM 5) au) (af (az 7 (ah Fa (aa (pvM 0) (aa (aN bz (aE eK T.b_len (aa (pvM 6) ac)) ae) ac))))
  (ai (aB (aI (aa au (aa (ah Fb (aa (pvM 0) (aa (pvM 3) (aa ae ac)))) (aa (pvM 6) (aa (pvM 7) (aa (aN bz (pvM 7) (ah Fa (aa (pvM 0) (aa (aN bz (aN gN (aE eK T.b_len (aa (pvM 6) ac)) (pvM 7)) ae) ac)))) ac))))))))) aD)
  (af (aK (ay aT (pvM 5) au) (ai (aB (ah FH (aa (pvM 0) (aa (pvM 6) (aa (pvM 2) ac)))))) aD)
  (af (aK (ay aT (pvM 5) au) (ai (aB (aI (aa au (aa (pvM 6) (aa (ah FF (aa (pvM 0) (aa (pvM 6) (aa (pvM 3) ac)))) ac)))))) aD)
  (af (aK (ay aT (pvM 5) au) (ai (aB (ah FI (aa (pvM 0) (aa (pvM 6) (aa (pvM 3) ac)))))) aD)
  (af (aK (ay aT (pvM 5) au) (ai (aB (aI (aa au (aa (pvM 6) (aa (ao fC (bx (aa ae (aa ae (aa (iW fo ae) (aa ae (aa ae ac)))))) (ah Fa (aa (pvM 0) (aa ae ac)))) ac)))))) aD)
  (af (cH 8 (N:=["_law_name","_law_some_here"]) (nt:=1) (js:=[6]) (aH ["_law_deal_here","_law_names_here","_law_rooms_here","_law_pool_here","_law_sorts","_law_sort","_law_some_here","_law_low","_law_rest","_law_inner"] (ak dJ).names) (dr (K:=K) rfl (pvM 1)) (aA 0) aP (rE (ay Aj (pvM 0) (ao ap (pvM 1) ae))) (pvM 0))
  (af (aK (ay (vm (nJ hr)) (pvM 8) (bx ac)) (ai (aB (aI (aa au (aa (pvM 6) ac))))) aD)
  (af (az 9 (ah aW (aa (pvM 0) (aa (pvM 8) (aa (pvM 2) (aa (pvM 3) (aa (bx (aa au (aa au (aa au (aa au (aa au (aa au ac))))))) ac)))))))
  (ai (aB (aI (aa au (aa (ao ap (pvM 6) ae) (aa (ah Fb (aa (pvM 0) (aa (pvM 3) (aa ae ac)))) (aa (pvM 9) ac)))))))))))))))))),?_⟩
 ctx_has v a6
 have bp:=vo h;refine aS M.D (by rw[length_map];omega) (by rw[length_map];omega) λr H1 r0 r1 D1 B1=>?_
 rw[length_map] at r1;obtain⟨s,hs,aX⟩:=xu (xs:=fB h) r0 r1 V.str;have a3:=B1 so _ aG.1 aG.2 a6;have M1:=M.but D1 B1;have aC:=M1.ha;have w1:=length_pos_iff.mpr M.wn;have wl:=M.wl;have n5:=M.n5;ctx_has v a3 aX aC
 obtain⟨m,hm,m1,m2⟩ : ∃m:Int,(if (1+if s=Str.ofString "unlike" then 1 else 0) < ((ws.map V.str).length:Int) then 1+(if s=Str.ofString "unlike" then 1 else 0) else((ws.map V.str).length:Int))=m/\1<=m/\m<=ws.length:=by
  refine⟨_,rfl,?_⟩
  rw[length_map]
  split <;> split <;> constructor <;> omega
 rw[hm];refine⟨d,l,a,m,ws.map V.str,rfl,D1,.inl aC,by omega,by rw[length_map];omega,by rw[length_map];omega,λsa a8 rest H2 br aR bb B D2 B2=>?_⟩
 obtain⟨cs,zs,rfl,ar⟩:=gT V.str Ip (λ_=>rfl) aR
 rw[length_map] at bb;have F:okC ws cs:=Di ar (by omega) M.nd M.wl
 have M2:=M1.but D2 B2;have Y:=B1.trans B2;have cl:=F.2.2.2;rcases sV hs with rfl | rfl | rfl | rfl | rfl | rfl | ⟨rfl,rfl⟩
 .ctx_has v
  refine⟨by decide,λw hw=>k w (.pl (.un cs)) _ ⟨sa,ab,(am.upd0 hw) _ _ B⟩ F (λ_=>⟨_,rfl⟩) (D2.new hw) (Y.new hw)⟩
 .ctx_has v B
  rw[length_map];refine aS D2 (by omega) (by omega) λr3 H3 bq bm D3 B3=>?_
  have M3:=M2.but D3 B3;refine⟨d,l,pa,0,ns.map V.int,rfl,D3,.inl M3.hp,by decide,by rw[length_map];omega,by rw[length_map];omega,λq a8 rest H4 fq a9 _ ba D4 B4=>?_⟩
  obtain⟨av,zv,rfl,ax⟩:=gT V.int G1 (λ_=>rfl) a9
  have Z:=B4.tup D3 (B3.tup D2 B);ctx_has v Z
  rw[length_map];refine aS D4 (by omega) (by omega) λr5 H5 bs bn D5 B5=>?_
  ctx_has v
  refine⟨by decide,λw hw=>k w (.pl (.mn av cs r3 (r3+r5))) _ ⟨q,sa,ab,(am.upd0 hw) _ _ (B5.tup D4 ba),(am.upd0 hw) _ _ (B5.tup D4 Z)⟩ ⟨F,zL ax M.nn M.n5⟩ (λ_=>⟨_,rfl⟩) (D5.new hw) ((((Y.trans B3).trans B4).trans B5).new hw)⟩
 .ctx_has v
  refine⟨d,l,sa,ra,cs,kvs,rm,rfl,D2,M.nr,B,M2.hr,λc U=>M2.rf c (F.2.2.1 c U),cl,λc U=>M.gd c (F.2.2.1 c U),λw ts lo hi H3 fw hW aO hb D3 B3=>?_⟩
  refine k w (.pl (.sm ts lo hi)) H3 hW ⟨?_,hb⟩ (λ_=>⟨_,rfl⟩) D3 (Y.trans B3)
  rw[aO];refine⟨?_,F.2.1.sublist (take_sublist _ _),λc U=>F.2.2.1 c (mem_of_mem_take U),by simp;omega⟩
  intro e;have:=F.1
  cases cs with
  | nil=>exact this rfl
  | cons x xs=>simp at e
 .ctx_has v
  refine⟨d,l,sa,pa,cs,ns,rfl,D2,M.np,B,M2.hp,M.n5,cl,λp us rows H3 fp bk bf aw aQ aL D3 B3=>⟨by decide,λw hw=>?_⟩⟩
  have s4:=am.upd0 (o:=.tup [.str "table",.ref sa,.ref p]) hw;exact k w (.pl (.tb cs rows)) _ ⟨sa,p,us,ab,s4 _ _ (B3.tup D2 B),s4 _ _ bk,bf.keep λb xs e=>s4 _ _ e⟩ ⟨F,aw,aQ,aL⟩ (λ_=>⟨_,rfl⟩) (D3.same s4) ((Y.trans B3).same s4)
 .ctx_has v
  exact⟨d,l,sa,pa,cs,ns,rfl,D2,B,M.np,M2.hp,M.n5,M.nn,λwa ps es H3 fw aw a0 aY hW D3 B3=>k wa (.pl (.wy cs ps es)) H3 hW ⟨F,aw,a0,aY⟩ (λ_=>⟨_,rfl⟩) D3 (Y.trans B3)⟩
 .ctx_has v
  refine⟨by decide,λt ht=>jz D2 ht (by decide) (by decide) rfl λr3 v H3 hv bc D3 B3 h3=>?_⟩
  obtain⟨ag,rfl⟩ : ∃ag:Int,v = .int ag:=by
   simp only[mem_cons,not_mem_nil,or_false] at hv;rcases hv with rfl | rfl | rfl | rfl | rfl
   .exact⟨_,rfl⟩
   .exact⟨_,rfl⟩
   .exact⟨_,rfl⟩
   .exact⟨_,rfl⟩
   .exact⟨_,rfl⟩
  ctx_has v h3 bc
  refine⟨by decide,λw hw=>?_⟩
  have s4:=am.upd0 (o:=.tup [.str "behind",.ref sa,.int ag]) hw;exact k w (.pl (.bh cs ag)) _ ⟨sa,ab,s4 _ _ (B3.tup D2 B)⟩ F (λ_=>⟨_,rfl⟩) (D3.same s4) ((Y.trans B3).same s4)
 .have h2a:=M2.ha
  obtain⟨c0,cr,a5⟩ : ∃c0 cr,cs=c0 :: cr:=by
   cases cs with
   | nil=>exact absurd rfl F.1
   | cons x xs=>exact⟨x,xs,rfl⟩
  have e0:atI (cs.map V.str) 0=some (.str c0):=by rw[a5];exact aM (j:=0) (by simp)
  have bj:c0∈cs:=by rw[a5];exact mem_cons_self
  ctx_has v h2a
  intro R hR;have nR:=D2.ne hR;refine sj bB (λv=>match v with | .str c=>!decide (c=c0) | _=>false) id hR (λH' s=>.of (s _ _ h2a)) (by simp;omega) ?_ ?_ ?_
  .intro x H3 Q3 hx sm q3
   obtain⟨y,hy,rfl⟩:=mem_map.mp hx;have e1:=sm _ _ B;ctx_has v e1 e0
   exact q3 H3 (am.refl _)
  .intro x H3 Q3 hx _ sm q3
   ctx_has v
   exact q3 H3 (am.refl _)
  .intro H3 sm h3
   obtain⟨rs,aj⟩ : ∃rs,ws.filter (λc=>!decide (c=c0))=rs:=⟨_,rfl⟩
   have a7:H3 R=some (.lst (rs.map V.str)):=by rw[h3,map_id,List.filter_map,<- aj];rfl
   have ad : ∀c∈rs,c∈ws/\c≠c0:=λc U=>by
    rw[<- aj] at U;have:=mem_filter.mp U
    exact⟨this.1,by simpa using this.2⟩
   have aZ:rs.length<=12:=by rw[<- aj];exact le_trans (List.length_filter_le _ _) M.wl
   have aV:rs.Nodup:=by rw[<- aj];exact M.nd.sublist List.filter_sublist
   refine⟨by decide,λe he=>?_⟩
   have s4:=am.upd0 (o:=.lst []) he;refine⟨.list (rs.map PyData.str),.list [],.lst (.of (s4 _ _ a7)) (cj.strs rs),.lst (.of ab) .nil,by unfold PyData.canLay0;exact dF λc U=>M.nm c (ad c U).1,rfl,by unfold PyData.depth;rw[cS];decide,_,rfl,?_⟩
   rw[tz];have a1:=sm.trans s4;have D4:=D2.same a1;have B4:=Y.same a1;have Z:=a1 _ _ B;refine cG (λh0=>?_) (λh0=>?_)
   .exact⟨by decide,λw hw=>k w (.pl (.un cs)) _ ⟨sa,ab,(am.upd0 hw) _ _ Z⟩ F (λ_=>⟨_,rfl⟩) (D4.new hw) (B4.new hw)⟩
   .refine⟨by decide,λbd aq=>?_⟩
    have a2:=D4.ne aq;have be:rs≠[]:=by simpa using h0
    have s5:=s4.upd_new (o:=.lst ((fB false).map V.str)) aq;have M5:=(M2.same sm).same s5;unfold jE;rw[if_pos rfl];refine⟨d,l,R,ra,pa,bd,rs,ns,kvs,rm,rfl,⟨M5.D,nR,M.nr,M.np,s5 _ _ a7,M5.hr,M5.hp,λc U=>M5.rf c (ad c U).1,be,aV,aZ,M.n5,M.nn,λc U=>M.nm c (ad c U).1,λc U=>M.gd c (ad c U).1⟩,a2,ab,λu W H6 hW aU a0 D6 B6=>?_⟩
    obtain⟨W0,rfl⟩:=a0 rfl;have a4:=B6.tup M5.D (s5 _ _ (sm _ _ B));have bi:=(Y.same (sm.trans s5)).trans B6;have M6:=M5.but D6 B6;refine⟨_,a4,_,e0,d,l,pa,0,ns.map V.int,rfl,D6,.inl M6.hp,by decide,by rw[length_map];omega,by rw[length_map];omega,λq a8 rest H7 fq aJ _ bg D7 B7=>⟨by decide,λw hw=>?_⟩⟩
    obtain⟨vs,zv,rfl,ax⟩:=gT V.int G1 (λ_=>rfl) aJ
    have s8:=am.upd0 (o:=.tup [.str "same",.str c0,.ref q,.ref u]) hw;have an:okW rs ns W0:=aU
    refine k w (.sa c0 vs W0) _ ⟨q,u,ab,s8 _ _ bg,cM hW λb xs e=>s8 _ _ (B7.tup D6 e)⟩ ⟨F.2.2.1 c0 bj,zL ax M.nn M.n5,AK (λc U=>(ad c U).1) an,λU=>(ad c0 (kD an c0 U)).2 rfl⟩ (λz=>by cases z) (D7.same s8) ((bi.trans B7).same s8)
def ld {α:Type} [DecidableEq α] (m:List (α × α)) (x:α):α:=((m.find? λy=>decide (y.1=x)).map (·.2)).getD x
def PM {α:Type} (m:List (α × α)):Prop:=(m.map (·.1)).Nodup/\(m.map (·.2)).Perm (m.map (·.1))
def kvS (m:List (Str × Str)):List (Key × V):=m.map λx=>(Sum.inr x.1,.str x.2)
def kvI (m:List (Int × Int)):List (Key × V):=m.map λx=>(Sum.inl x.1,.int x.2)
theorem Bw (m:List (Str × Str)) (s:Str):(bu (kvS m) (Sum.inr s)).getD (.str s) = .str (ld m s):=by
 unfold ld
 induction m with
 | nil=>rfl
 | cons y m B =>
  unfold kvS at B ⊢;rw[map_cons]
  by_cases e:y.1=s
  .rw[bc (by rw[e]),find?_cons,decide_eq_true e];rfl
  .rw[aQ (λz=>e (Sum.inr.inj z)),find?_cons,decide_eq_false e];exact B
theorem DL (m:List (Int × Int)) (s:Int):(bu (kvI m) (Sum.inl s)).getD (.int s) = .int (ld m s):=by
 unfold ld
 induction m with
 | nil=>rfl
 | cons y m B =>
  unfold kvI at B ⊢;rw[map_cons]
  by_cases e:y.1=s
  .rw[bc (by rw[e]),find?_cons,decide_eq_true e];rfl
  .rw[aQ (λz=>e (Sum.inl.inj z)),find?_cons,decide_eq_false e];exact B
section
variable [DecidableEq α] {m:List (α × α)}
theorem GH (h:(m.map (·.1)).Nodup) {y:α × α} (B:y∈m):ld m y.1=y.2:=by
 unfold ld
 induction m with
 | nil=>cases B
 | cons z m F =>
  rw[map_cons,nodup_cons] at h;rw[find?_cons];rcases mem_cons.mp B with rfl | B
  .rw[decide_eq_true rfl];rfl
  .rw[decide_eq_false (λe:z.1=y.1=>h.1 (by rw[e];exact mem_map.mpr ⟨y,B,rfl⟩))]
   exact F h.2 B
theorem cR {x:α} (h:x∉m.map (·.1)):ld m x=x:=by
 unfold ld;have:m.find? (λy=>decide (y.1=x))=none:=by
  rw[find?_eq_none];intro y z B;exact h (mem_map.mpr ⟨y,z,of_decide_eq_true B⟩)
 rw[this];rfl
theorem sF (h:PM m) {x:α} (B:x∈m.map (·.1)) : ∃y∈m,y.1=x/\ld m x=y.2:=by
 obtain⟨y,z,rfl⟩:=mem_map.mp B;exact⟨y,z,rfl,GH h.1 z⟩
theorem kY (h:PM m) {x:α} (B:x∈m.map (·.1)):ld m x∈m.map (·.1):=by
 obtain⟨y,z,_,e⟩:=sF h B;rw[e];exact h.2.mem_iff.mp (mem_map.mpr ⟨y,z,rfl⟩)
theorem Co (h:PM m) {y z:α × α} (B:y∈m) (F:z∈m) (e:y.2=z.2):y=z:=by
 have hn:(m.map (·.2)).Nodup:=h.2.nodup_iff.mpr h.1
 clear h
 induction m with
 | nil=>cases B
 | cons w m U =>
  rw[map_cons,nodup_cons] at hn;rcases mem_cons.mp B with rfl | hy'
  .rcases mem_cons.mp F with rfl | hz'
   .rfl
   .exact absurd (mem_map.mpr ⟨z,hz',e.symm⟩) hn.1
  .rcases mem_cons.mp F with rfl | hz'
   .exact absurd (mem_map.mpr ⟨y,hy',e⟩) hn.1
   .exact U hy' hz' hn.2
theorem dj (h:PM m) {x z:α} (e:ld m x=ld m z):x=z:=by
 by_cases F:x∈m.map (·.1)
 .obtain⟨a,ha,rfl,ea⟩:=sF h F
  by_cases B:z∈m.map (·.1)
  .obtain⟨b,hb,rfl,eb⟩:=sF h B
   rw[ea,eb] at e;rw[Co h ha hb e]
  .rw[cR B] at e
   exact absurd (e ▸ kY h F) B
 .by_cases B:z∈m.map (·.1)
  .rw[cR F] at e
   exact absurd (e.symm ▸ kY h B) F
  .rw[cR F,cR B] at e
   exact e
def swp (m:List (α × α)):List (α × α):=m.map λx=>(x.2,x.1)
theorem AA (h:PM m):PM (swp m):=by
 unfold swp PM;rw[map_map,map_map];exact⟨h.2.nodup_iff.mpr h.1,h.2.symm⟩
end
structure br (H:Hp) (t na va:Addr) (mS:List (Str × Str)) (mI:List (Int × Int)):Prop where
 ht:H t=some (.tup [.ref na,.ref va])
 hn:H na=some (.dK (kvS mS))
 hv:H va=some (.dK (kvI mI))
 ps:PM mS
 pi:PM mI
 ls:mS.length<=40
 li:mI.length<=40
theorem br.same (h:br H t na va mS mI) (s:am H H'):br H' t na va mS mI:=⟨s _ _ h.ht,s _ _ h.hn,s _ _ h.hv,h.ps,h.pi,h.ls,h.li⟩
def idI (mI:List (Int × Int)):Bool:=mI.all λx=>decide (x.1=x.2)
theorem zE (h:idI mI=true) (x:Int):ld mI x=x:=by
 by_cases B:x∈mI.map (·.1)
 .unfold ld
  cases e:mI.find? (λy=>decide (y.1=x)) with
  | none=>rfl
  | some y =>
   have h1:=mem_of_find?_eq_some e;have h2:y.1=x:=by have h:=find?_some e;simpa using h
   have z:=of_decide_eq_true (all_eq_true.mp h y h1)
   show y.2=x
   rw[<- z,h2]
 .exact cR B
def cg (mS:List (Str × Str)) (mI:List (Int × Int)):Wi->Option Wi
 | .un cs=>some (.un (cs.map (ld mS)))
 | .mn B cs lo hi=>some (.mn (B.map (ld mI)) (cs.map (ld mS)) lo hi)
 | .sm ts lo hi=>if idI mI then some (.sm (ts.map λx=>(x.1,ld mS x.2)) lo hi) else none
 | .tb cs rows=>some (.tb (cs.map (ld mS)) (rows.map λr=>r.map (ld mI)))
 | .wy cs ps es=>some (.wy (cs.map (ld mS)) (ps.map λx=>(x.1,ld mI x.2.1,x.2.2)) es)
 | .bh cs z=>if idI mI then some (.bh (cs.map (ld mS)) z) else none
def bF (mS:List (Str × Str)) (mI:List (Int × Int)):Wx->Option Wx
 | .pl W=>(cg mS mI W).map .pl
 | .sa c vs W=>(cg mS mI W).map (.sa (ld mS c) (vs.map (ld mI)))
def WO (H:Hp) (v:V):Option Wx->Prop
 | none=>v = .non
 | some W=>∃w,v = .ref w/\WX H w W
def WOs (H:Hp) (v:V):Option Wi->Prop
 | none=>v = .non
 | some W=>∃w,v = .ref w/\WS H w W
def Em:Sp:=λvs H Q _=>∃(a:Addr) (s:Str) (m:List (Str × Str)),vs=[.ref a,.str s]/\H a=some (.dK (kvS m))/\Q (.str (ld m s)) H
def DH:Sp:=λvs H Q _=>∃(a:Addr) (s:Int) (m:List (Int × Int)),vs=[.ref a,.int s]/\H a=some (.dK (kvI m))/\Q (.int (ld m s)) H
def zx:Sp:=λvs H Q E=>∃x y,vs=[x,y]/\(Em vs H Q E\/DH vs H Q E)
def yy:Sp:=λvs H Q _=>∃(a t:Addr) (cs:List Str) (m:List (Str × Str)),vs=[.ref a,.ref t]/\H a=some (.dK (kvS m))/\H t=some (.tup (cs.map V.str))/\cs.length<=60/\∀p H',am H H'->H' p=some (.tup ((cs.map (ld m)).map V.str))->Q (.ref p) H'
def ye:Sp:=λvs H Q _=>∃(a t:Addr) (cs:List Int) (m:List (Int × Int)),vs=[.ref a,.ref t]/\H a=some (.dK (kvI m))/\H t=some (.tup (cs.map V.int))/\cs.length<=60/\∀p H',am H H'->H' p=some (.tup ((cs.map (ld m)).map V.int))->Q (.ref p) H'
def jR:Sp:=λvs H Q E=>∃x y,vs=[x,y]/\(yy vs H Q E\/ye vs H Q E)
theorem jF {s:Str} {m:List (Str × Str)} {Q:VK} {E:XK} (h1:H a=some (.dK (kvS m))) (k:Q (.str (ld m s)) H):zx [.ref a,.str s] H Q E:=⟨_,_,rfl,.inl ⟨a,s,m,rfl,h1,k⟩⟩
theorem qI {s:Int} {m:List (Int × Int)} {Q:VK} {E:XK} (h1:H a=some (.dK (kvI m))) (k:Q (.int (ld m s)) H):zx [.ref a,.int s] H Q E:=⟨_,_,rfl,.inr ⟨a,s,m,rfl,h1,k⟩⟩
theorem dC {cs:List Str} {m:List (Str × Str)} {Q:VK} {E:XK} (h1:H a=some (.dK (kvS m))) (h2:H t=some (.tup (cs.map V.str))) (hl:cs.length<=60) (k : ∀p H',am H H'->H' p=some (.tup ((cs.map (ld m)).map V.str))->Q (.ref p) H'):jR [.ref a,.ref t] H Q E:=⟨_,_,rfl,.inl ⟨a,t,cs,m,rfl,h1,h2,hl,k⟩⟩
theorem gm {cs:List Int} {m:List (Int × Int)} {Q:VK} {E:XK} (h1:H a=some (.dK (kvI m))) (h2:H t=some (.tup (cs.map V.int))) (hl:cs.length<=60) (k : ∀p H',am H H'->H' p=some (.tup ((cs.map (ld m)).map V.int))->Q (.ref p) H'):jR [.ref a,.ref t] H Q E:=⟨_,_,rfl,.inr ⟨a,t,cs,m,rfl,h1,h2,hl,k⟩⟩
abbrev Dz9:=Fn P w K mg base "led" 1 ["leads","thing"] (zx)
theorem Ga (T:Txt w K mg base) (L:FnL K mg "led" Ba ["leads","thing"]) : @Dz9 P w K mg base:=by
 ctx_has z EJ <;> obtain⟨U,F,rfl,h⟩:=h
 .rfl
 refine⟨_,(ai (aB (df hu (pvM 0) (pvM 1) (pvM 1) ⟨rfl,rfl,rfl,rfl⟩))),?_⟩
 rcases h with⟨a,s,m,e,B,q⟩ | ⟨a,s,m,e,B,q⟩ <;> cases e
 .ctx_has v ft B
  refine⟨.inl ⟨_,.inl B⟩,_,.inl ⟨_,Sum.inr s,.inl B,rfl,rfl⟩,?_⟩
  rw[Bw];exact q
 .ctx_has v ft B
  refine⟨.inl ⟨_,.inl B⟩,_,.inl ⟨_,Sum.inl s,.inl B,rfl,rfl⟩,?_⟩
  rw[DL];exact q
abbrev sU:=Fn P w K mg base "all_led" 2 ["leads","things"] (jR)
theorem vK (T:Txt w K mg base) (L:FnL K mg "all_led" iw ["leads","things"]) (Z : @Dz9 P w K mg base) : @sU P w K mg base:=by
 ctx_has z vd <;> obtain⟨x0,y0,rfl,h⟩:=h
 .rfl
 refine⟨_,(ai (aB (aF aO T.b_tuple (aa (aZ (N:=["thing","leads"]) (nt:=1) (js:=[0]) (aH ["leads","things"] (ak iw).names) (jq (K:=K) rfl (pvM 1)) (aA 0) aP aV (ah Z (aa (pvM 1) (aa (pvM 0) ac)))) ac)))),?_⟩
 rcases h with⟨a,t,cs,m,e,Y,B,hl,k⟩ | ⟨a,t,cs,m,e,Y,B,hl,k⟩ <;> cases e
 .ctx_has v B
  intro D F;refine cA ba (λv=>match v with | .str c=>.str (ld m c) | _=>.non) F (λH' s=>.of (s _ _ B)) (by simp;omega) ?_ ?_
  .intro x H2 Q2 hx sm q2
   obtain⟨y,hy,rfl⟩:=mem_map.mp hx;ctx_has v
   exact jF (sm _ _ Y) (q2 H2 (am.refl _))
  .intro H2 sm h2
   ctx_has v h2
   intro p U;refine k p _ (sm.upd_new U) ?_
   rw[ab,map_map,map_map];rfl
 .ctx_has v B
  intro D F;refine cA ba (λv=>match v with | .int c=>.int (ld m c) | _=>.non) F (λH' s=>.of (s _ _ B)) (by simp;omega) ?_ ?_
  .intro x H2 Q2 hx sm q2
   obtain⟨y,hy,rfl⟩:=mem_map.mp hx;ctx_has v
   exact qI (sm _ _ Y) (q2 H2 (am.refl _))
  .intro H2 sm h2
   ctx_has v h2
   intro p U;refine k p _ (sm.upd_new U) ?_
   rw[ab,map_map,map_map];rfl
theorem di {zs:List α} {e:α->V} (w:Wlk J (zs.map e) C) {g:TG} {te:TE} {σ0:St} {Q:VK} {H1:Hp} {D:Addr} (f:α->β) (c:β->List V) (hD:H1 D=none) (hC : ∀H',am H1 H'->C H') (hn:zs.length<=900)
  (he : ∀z∈zs,∀(H2:Hp) (Q2:VK),am H1 H2->(∀t B,am H2 B->B t=some (.tup (c (f z)))->Q2 (.ref t) B)->g (e z) σ0 H2 λZ B=>te Z B Q2)
  (hd : ∀(bs:List (Addr × β)) (H2:Hp),bs.map (·.2)=zs.map f->(∀x∈bs,H2 x.1=some (.tup (c x.2)))->am H1 H2->H2 D=some (.lst (bs.map λx=>V.ref x.1))->Q (.ref D) H2):lm J σ0 g pT te Q H1 D:=by
 refine cD w (λi ys H=>∃bs:List (Addr × β),ys=bs.map (λx=>V.ref x.1)/\bs.map (·.2)=(zs.take i).map f/\(∀x∈bs,H x.1=some (.tup (c x.2)))/\am H1 H/\H D=some (.lst ys)) ⟨[],rfl,rfl,by simp,am.upd0 hD,ab⟩ (λi ys H U=>by obtain⟨_,_,_,_,s,_⟩:=U;exact(hC _ s)) ?_ ?_
 .rintro i x ys H hi F ⟨bs,rfl,hb,hbt,sm,hd'⟩
  rw[length_map] at hi;obtain⟨z,hz,rfl⟩ : ∃z,zs[i]? = some z/\e z=x:=by
   rw[List.getElem?_map] at F;cases e1:zs[i]? with
   | none=>rw[e1] at F;cases F
   | some nm=>rw[e1] at F;exact⟨nm,rfl,Option.some.inj F⟩
  simp only[pT,if_true];have aa:bs.length<=i:=by
   have:=congrArg List.length hb
   rw[length_map,length_map] at this;rw[this];exact length_take_le _ _
  refine he z (mem_of_getElem? hz) H _ sm λt B s3 ht=>?_
  have Y:=s3 _ _ hd';have kt : ∀b xs,B b=some (.tup xs)->upd B D (.lst (bs.map (λx=>V.ref x.1)++[.ref t])) b=some (.tup xs):=λb xs q=>by rw[ag (aX q Y (by intro z;cases z))];exact q
  refine⟨Y,by rw[length_map];exact ax (by omega),bs++[(t,f z)],by simp,?_,λx F=>?_,λb o q=>by rw[ag (aj q hD)];exact s3 _ _ (sm b o q),ab⟩
  .rw[map_append,hb,take_add_one,hz,map_append];rfl
  .rcases mem_append.mp F with q | q
   .exact kt _ _ (s3 _ _ (hbt x q))
   .rw[mem_singleton.mp q];exact kt _ _ ht
 .rintro ys H ⟨bs,rfl,hb,hbt,sm,hd'⟩
  rw[length_map,take_length] at hb;exact hd bs H hb hbt sm hd'
def A3:Sp:=λvs H Q _=>∃(t na va:Addr) (mS:List (Str × Str)) (mI:List (Int × Int)),vs=[.ref t]/\br H t na va mS mI/\∀H',am H H'->Q (.bl (idI mI)) H'
def szT:Wi->Prop
 | .un cs=>cs.length<=12
 | .mn z cs _ _=>z.length<=20/\cs.length<=12
 | .sm ts _ _=>ts.length<=12
 | .tb cs rows=>cs.length<=12/\rows.length<=60/\∀r∈rows,r.length<=12
 | .wy cs ps _=>cs.length<=12/\ps.length<=60
 | .bh cs _=>cs.length<=12
def bH (x:Str):Sp:=λvs H Q _=>∃(t w na va:Addr) (mS:List (Str × Str)) (mI:List (Int × Int)) (W:Wi),vs=[.ref t,.ref w]/\br H t na va mS mI/\ib W=x/\WS H w W/\szT W/\∀v H',am H H'->WOs H' v (cg mS mI W)->Q v H'
abbrev Eh:=Fn P w K mg base "keeps_values" 1 ["turning"] (A3)
theorem lJ (T:Txt w K mg base) (L:FnL K mg "keeps_values" dk ["turning"]) : @Eh P w K mg base:=by
 ctx_has z lO <;> obtain⟨t,na,va,mS,mI,rfl,T0,k⟩:=h
 .rfl
 refine⟨_,(ai (aB (aE (fU rfl) T.b_all (aa (kq (aZ (N:=["value","other"]) (nt:=2) (js:=[]) (aH ["turning"] (ak dk).names) (og (ao ap (pvM 0) ae)) (de (n:=2) rfl (aW (aA 0) (aW (aA 1) cO))) cT aV (gj aT (pvM 0) (pvM 1)))) ac)))),?_⟩
 have h1:=T0.ht;have h2:=T0.hv;ctx_has v kK iI h1 h2
 refine⟨va,_,h2,λo D Y=>?_⟩
 have Z:D≠va:=λz=>by rw[z,ab] at Y;cases Y
 have F:H D=none:=by rw[ag Z] at Y;exact Y
 refine sv (λj ys H'=>ys=((mI.take j).map λx=>decide (x.1=x.2)).map V.bl/\H' D=some (.lst ys)/\H' va=some (.frz o (.dK (kvI mI)))/\∀b u,b≠va->H b=some u->H' b=some u)
  ⟨rfl,ab,by rw[ag Z.symm];exact ab,λb u B e=>by rw[ag (aj e F),ag B];exact e⟩ (λj ys H' U=>by obtain⟨_,_,h,_⟩:=U;exact(h)) ?_ ?_
 .rintro j kk x ys H2 tt hj ⟨rfl,h2D,h2v,k2⟩ htt
  obtain⟨y,hy,e⟩ : ∃y,mI[j]? = some y/\(Sum.inl y.1,V.int y.2)=(kk,x):=by
   unfold kvI at hj;rw[List.getElem?_map] at hj;cases e:mI[j]? with
   | none=>rw[e] at hj;cases hj
   | some nm=>rw[e] at hj;exact⟨nm,rfl,Option.some.inj hj⟩
  cases e;have ad:j < mI.length:=(List.getElem?_eq_some_iff.mp hy).1
  have s3:=am.upd0 (o:=.tup [kV (Sum.inl y.1),.int y.2]) htt;ctx_has v ab kV
  have af:=T0.li;have dD:D≠tt:=aj h2D htt
  refine⟨s3 _ _ h2D,by simp;exact ax (by omega),by rw[take_add_one,hy];simp,?_,?_⟩
  .rw[ag (Ne.symm Z),ag (aj h2v htt)];exact h2v
  .intro b u B e
   have e2:=k2 b u B e;rw[ag (aj e F),ag (aj e2 htt)];exact e2
 .rintro ys H2 ⟨rfl,h2D,h2v,k2⟩
  have hl2:(kvI mI).length=mI.length:=by unfold kvI;rw[length_map]
  rw[hl2,take_length] at h2D;refine⟨⟨o,h2v⟩,D,rfl,_,by rw[ag Z];exact h2D,?_⟩
  rw[show(mI.map λx=>decide (x.1=x.2)).all id=idI mI by unfold idI;rw[all_map];rfl]
  refine k _ λb u e=>?_
  by_cases B:b=va
  .subst B
   rw[ab,<- e,h2]
  .rw[ag B];exact k2 b u B e
abbrev HS:=Fn P w K mg base "turned_unlike" 3 ["turning","wish"] (bH "unlike")
theorem kJ (T:Txt w K mg base) (L:FnL K mg "turned_unlike" dR ["turning","wish"]) (Y : @sU P w K mg base) : @HS P w K mg base:=by
 ctx_has z kF <;> obtain⟨t,w,na,va,mS,mI,W,rfl,U,hS,hW,F,k⟩:=h
 .rfl
 refine⟨_,(ai (aB (aI (aa au (aa (ah Y (aa (ao ap (pvM 0) ae) (aa (ao ap (pvM 1) ae) ac))) ac))))),?_⟩
 obtain⟨cs,rfl⟩:=Hx hS;obtain⟨c,h1,h2⟩:=hW;have e1:=U.ht;have F:cs.length<=12:=F
 ctx_has v e1 h1
 refine dC U.hn h2 (by omega) λp H1 s1 Z=>⟨by decide,λw' B=>?_⟩
 exact k _ _ (s1.upd_new B) ⟨w',rfl,p,ab,(am.upd0 B) _ _ Z⟩
abbrev Ie:=Fn P w K mg base "turned_many" 3 ["turning","wish"] (bH "many")
theorem nV (T:Txt w K mg base) (L:FnL K mg "turned_many" fI ["turning","wish"]) (Fc : @sU P w K mg base) : @Ie P w K mg base:=by
 ctx_has z oq <;> obtain⟨t,w,na,va,mS,mI,W,rfl,Z,hS,hW,hk,k⟩:=h
 .rfl
 refine⟨_,(ai (aB (aI (aa au (aa (ah Fc (aa (ao ap (pvM 0) ae) (aa (ao ap (pvM 1) ae) ac))) (aa (ah Fc (aa (ao ap (pvM 0) ae) (aa (ao ap (pvM 1) ae) ac))) (aa (ao ap (pvM 1) ae) (aa (ao ap (pvM 1) ae) ac)))))))),?_⟩
 obtain⟨av,cs,lo,hi,rfl⟩:=HX hS;obtain⟨a,c,h1,h2,h3⟩:=hW;have e1:=Z.ht;have aj:av.length<=20:=hk.1
 have ag:cs.length<=12:=hk.2
 ctx_has v e1 h1
 refine gm Z.hv h2 (by omega) λp H1 F hp=>?_
 have T1:=Z.same F;have e2:=T1.ht;have B:=F _ _ h1;ctx_has v e2 B
 refine dC T1.hn (F _ _ h3) (by omega) λp2 H2 Y af=>?_
 have U:=Y _ _ B;ctx_has v U
 refine⟨by decide,λw' ad=>?_⟩
 have s3:=am.upd0 (o:=.tup [.str "many",.ref p,.ref p2,.int lo,.int hi]) ad;exact k _ _ ((F.trans Y).trans s3) ⟨w',rfl,p,p2,ab,s3 _ _ (Y _ _ hp),s3 _ _ af⟩
abbrev Ib:=Fn P w K mg base "turned_sum" 3 ["turning","wish"] (bH "sum")
theorem oY (T:Txt w K mg base) (L:FnL K mg "turned_sum" dZ ["turning","wish"]) (Fk : @Eh P w K mg base) (Fm : @Dz9 P w K mg base) : @Ib P w K mg base:=by
 ctx_has z pe <;> obtain⟨t,w,na,va,mS,mI,W,rfl,T0,hS,hW,hk,k⟩:=h
 .rfl
 refine⟨_,(af (aK (mV (oI (ah Fk (aa (pvM 0) ac)))) (ai (aB jo)) aD)
  (ai (aB (aI (aa au (aa (aF aO T.b_tuple (aa (aZ (N:=["term","turning"]) (nt:=1) (js:=[0]) (aH ["turning","wish"] (ak dZ).names) (cX K (ao ap (pvM 1) ae)) (aA 0) aP aV (aI (aa (ao ap (pvM 0) ae) (aa (ah Fm (aa (ao ap (pvM 1) ae) (aa (ao ap (pvM 0) ae) ac))) ac)))) ac)) (aa (ao ap (pvM 1) ae) (aa (ao ap (pvM 1) ae) ac)))))))),?_⟩
 obtain⟨ts,lo,hi,rfl⟩:=HQ hS;obtain⟨tt,h1,as,h2,rfl,h3⟩:=hW;have hk:as.length<=12:=by have:(as.map (·.2)).length<=12:=hk;simpa using this
 ctx_has v
 refine⟨t,na,va,mS,mI,rfl,T0,λH1 U=>?_⟩
 have k1 : ∀v H',am H H'->WOs H' v (if idI mI=true then some (.sm ((as.map (·.2)).map λx=>(x.1,ld mS x.2)) lo hi) else none)->Q v H':=k
 cases ad:idI mI with
 | false =>
  rw[ad,if_neg Bool.false_ne_true] at k1;ctx_has v Bool.not_false
  exact k1 _ _ U rfl
 | true =>
  rw[ad,if_pos rfl] at k1;have Y:=U _ _ h1;have Z:=U _ _ h2;have T1:=T0.same U;ctx_has v Bool.not_true Bool.false_eq_true Y Z
  intro D hD;refine di ba (f:=λx:Addr × Int × Str=>(x.2.1,ld mS x.2.2)) (c:=λy:Int × Str=>[V.int y.1,V.str y.2]) hD (λH' s=>.of (s _ _ Z)) (by omega) ?_ ?_
  .intro z hz H2 Q2 s2 q2
   have e3:=s2 _ _ (U _ _ (h3 z hz));have T2:=T1.same s2;have e4:=T2.ht;ctx_has v e3 e4
   refine jF T2.hn ⟨by decide,λt' aj=>q2 t' _ (am.upd0 aj) ab⟩
  .intro bs H2 hbs hbt s2 h2D
   have B:=s2 _ _ Y;ctx_has v h2D B
   intro p hp;have s3:=am.upd0 (o:=.tup (bs.map λx=>V.ref x.1)) hp
   refine⟨_,s3 _ _ B,_,aM (j:=2) rfl,_,s3 _ _ B,_,aM (j:=3) rfl,by decide,λw' F=>?_⟩
   have s4:=s3.upd_new (o:=.tup [.str "sum",.ref p,bV lo,bV hi]) F;have pw:p≠w':=λz=>by rw[<- z,ab] at F;cases F
   exact k1 _ _ (U.trans (s2.trans s4)) ⟨w',rfl,p,ab,bs,by rw[ag pw,ab],by rw[hbs,map_map];rfl,λx hx=>s4 _ _ (hbt x hx)⟩
abbrev Io:=Fn P w K mg base "turned_table" 3 ["turning","wish"] (bH "table")
theorem lM (T:Txt w K mg base) (L:FnL K mg "turned_table" db ["turning","wish"]) (Fc : @sU P w K mg base) : @Io P w K mg base:=by
 ctx_has z lP <;> obtain⟨t,w,na,va,mS,mI,W,rfl,T0,hS,hW,Y,k⟩:=h
 .rfl
 refine⟨_,(ai (aB (aI (aa au (aa (ah Fc (aa (ao ap (pvM 0) ae) (aa (ao ap (pvM 1) ae) ac))) (aa (aF aO T.b_tuple (aa (aZ (N:=["row","turning"]) (nt:=1) (js:=[0]) (aH ["turning","wish"] (ak db).names) (cX K (ao ap (pvM 1) ae)) (aA 0) aP aV (ah Fc (aa (ao ap (pvM 1) ae) (aa (pvM 0) ac)))) ac)) ac)))))),?_⟩
 obtain⟨cs,rows,rfl⟩:=HJ hS;obtain⟨c,tr,vs,h1,h2,h3,as,rfl,rfl,h4⟩:=hW;have e1:=T0.ht;have an:cs.length<=12:=Y.1
 have aj:as.length<=60:=by have:=Y.2.1;rw[length_map] at this;exact this
 ctx_has v e1 h1
 refine dC T0.hn h2 (by omega) λp H1 U hp=>?_
 have Z:=U _ _ h1;have F:=U _ _ h3;have T1:=T0.same U;ctx_has v Z F
 intro D hD;refine di ba (f:=λx:Addr × List Int=>x.2.map (ld mI)) (c:=λr:List Int=>r.map V.int) hD (λH' s=>.of (s _ _ F)) (by omega) ?_ ?_
 .intro z hz H2 Q2 s2 q2
  have T2:=T1.same s2;have e4:=T2.ht;ctx_has v e4
  exact gm T2.hv (s2 _ _ (U _ _ (h4 z hz))) (by have:=Y.2.2 z.2 (mem_map.mpr ⟨z,hz,rfl⟩);omega) λp' H3 s3 ad=>q2 p' H3 s3 ad
 .intro bs H2 hbs hbt s2 h2D
  ctx_has v h2D
  intro p2 af;refine⟨by decide,λw' B=>?_⟩
  have s3:=am.upd0 (o:=.tup (bs.map λx=>V.ref x.1)) af
  have s4:=s3.upd_new (o:=.tup [.str "table",.ref p,.ref p2]) B;have pw:p2≠w':=λz=>by rw[<- z,ab] at B;cases B
  exact k _ _ (U.trans (s2.trans s4)) ⟨w',rfl,p,p2,_,ab,s4 _ _ (s2 _ _ hp),by rw[ag pw,ab],bs,rfl,by rw[hbs,map_map];rfl,λx hx=>s4 _ _ (hbt x hx)⟩
abbrev Ik:=Fn P w K mg base "turned_way" 3 ["turning","wish"] (bH "way")
theorem pF (T:Txt w K mg base) (L:FnL K mg "turned_way" eB ["turning","wish"]) (Fc : @sU P w K mg base) (Fm : @Dz9 P w K mg base) : @Ik P w K mg base:=by
 ctx_has z pG <;> obtain⟨t,w,na,va,mS,mI,W,rfl,T0,hS,hW,hk,k⟩:=h
 .rfl
 refine⟨_,(af (az 2 (aF aO T.b_tuple (aa (aZ (N:=["step","turning"]) (nt:=1) (js:=[0]) (aH ["turning","wish","steps"] (ak eB).names) (cX K (ao ap (pvM 1) ae)) (aA 0) aP aV (aI (aa (ao ap (pvM 0) ae) (aa (ah Fm (aa (ao ap (pvM 1) ae) (aa (ao ap (pvM 0) ae) ac))) (aa (ao ap (pvM 0) ae) ac))))) ac)))
  (ai (aB (aI (aa au (aa (ah Fc (aa (ao ap (pvM 0) ae) (aa (ao ap (pvM 1) ae) ac))) (aa (pvM 2) (aa (ao ap (pvM 1) ae) ac)))))))),?_⟩
 obtain⟨cs,ps,es,rfl⟩:=Iu hS;obtain⟨c,tr,e,vs,h1,h2,h3,⟨as,rfl,rfl,h4⟩,h5⟩:=hW;have e1:=T0.ht;have aq:cs.length<=12:=hk.1
 have an:as.length<=60:=by have:=hk.2;rw[length_map] at this;exact this
 ctx_has v h1 h3
 intro D hD;refine di ba (f:=λx:Addr × Int × Int × Int=>(x.2.1,ld mI x.2.2.1,x.2.2.2)) (c:=λy:Int × Int × Int=>[V.int y.1,V.int y.2.1,V.int y.2.2]) hD (λH' s=>.of (s _ _ h3)) (by omega) ?_ ?_
 .intro z hz H2 Q2 s2 q2
  have e3:=s2 _ _ (h4 z hz);have T2:=T0.same s2;have e4:=T2.ht;ctx_has v e3 e4
  exact qI T2.hv ⟨_,e3,_,aM (j:=2) rfl,by decide,λt' ad=>q2 t' _ (am.upd0 ad) ab⟩
 .intro bs H2 hbs hbt s2 h2D
  ctx_has v h2D
  intro p2 aj;have s3:=am.upd0 (o:=.tup (bs.map λx=>V.ref x.1)) aj
  have B:=s2.trans s3;have T3:=T0.same B;refine⟨_,T3.ht,_,aM (j:=0) rfl,_,B _ _ h1,_,aM (j:=1) rfl,?_⟩
  refine dC T3.hn (B _ _ h2) (by omega) λp H4 U hp=>?_
  have Z:=U _ _ (B _ _ h1);ctx_has v Z
  refine⟨by decide,λw' ag=>?_⟩
  have Y:=am.upd0 (o:=.tup [.str "way",.ref p,.ref p2,.ref e]) ag;have F:=B.trans (U.trans Y);exact k _ _ F ⟨w',rfl,p,p2,e,_,ab,Y _ _ hp,Y _ _ (U _ _ ab),⟨bs,rfl,by rw[hbs,map_map];rfl,λx hx=>Y _ _ (U _ _ (s3 _ _ (hbt x hx)))⟩,F _ _ h5⟩
abbrev Ih:=Fn P w K mg base "turned_behind" 3 ["turning","wish"] (bH "behind")
theorem ky (T:Txt w K mg base) (L:FnL K mg "turned_behind" dO ["turning","wish"]) (Fk : @Eh P w K mg base) (Fc : @sU P w K mg base) : @Ih P w K mg base:=by
 ctx_has z kC <;> obtain⟨t,w,na,va,mS,mI,W,rfl,T0,hS,hW,hk,k⟩:=h
 .rfl
 refine⟨_,(af (aK (mV (oI (ah Fk (aa (pvM 0) ac)))) (ai (aB jo)) aD)
  (ai (aB (aI (aa au (aa (ah Fc (aa (ao ap (pvM 0) ae) (aa (ao ap (pvM 1) ae) ac))) (aa (ao ap (pvM 1) ae) ac))))))),?_⟩
 obtain⟨cs,B,rfl⟩:=HH hS;obtain⟨c,h1,h2⟩:=hW;have hk:cs.length<=12:=hk
 ctx_has v
 refine⟨t,na,va,mS,mI,rfl,T0,λH1 Y=>?_⟩
 have Z : ∀v H',am H H'->WOs H' v (if idI mI=true then some (.bh (cs.map (ld mS)) B) else none)->Q v H':=k
 cases U:idI mI with
 | false =>
  rw[U,if_neg Bool.false_ne_true] at Z;ctx_has v Bool.not_false
  exact Z _ _ Y rfl
 | true =>
  rw[U,if_pos rfl] at Z;have F:=Y _ _ h1;have T1:=T0.same Y;have e1:=T1.ht;ctx_has v Bool.not_true Bool.false_eq_true F e1
  refine dC T1.hn (Y _ _ h2) (by omega) λp H2 s2 hp=>?_
  have ad:=s2 _ _ F;ctx_has v ad
  refine⟨by decide,λw' ag=>?_⟩
  have s3:=am.upd0 (o:=.tup [.str "behind",.ref p,.int B]) ag;exact Z _ _ (Y.trans (s2.trans s3)) ⟨w',rfl,p,ab,s3 _ _ hp⟩
def ia:Sp:=λvs H Q _=>∃(t w na va:Addr) (mS:List (Str × Str)) (mI:List (Int × Int)) (c:Str) (us:List Int) (W:Wi),vs=[.ref t,.ref w]/\br H t na va mS mI/\WX H w (.sa c us W)/\szT W/\us.length<=20/\∀v H',am H H'->WO H' v (bF mS mI (.sa c us W))->Q v H'
def jC:Sp:=λvs H Q _=>∃(t w na va:Addr) (mS:List (Str × Str)) (mI:List (Int × Int)) (W:Wi),vs=[.ref t,.ref w]/\br H t na va mS mI/\WS H w W/\szT W/\∀v H',am H H'->WOs H' v (cg mS mI W)->Q v H'
def Dp:Wx->Prop
 | .pl W=>szT W
 | .sa _ us W=>szT W/\us.length<=20
def wU:Sp:=λvs H Q _=>∃(t w na va:Addr) (mS:List (Str × Str)) (mI:List (Int × Int)) (W:Wx),vs=[.ref t,.ref w]/\br H t na va mS mI/\WX H w W/\Dp W/\∀v H',am H H'->WO H' v (bF mS mI W)->Q v H'
def io (x:Str):Sp:=if x = "same" then ia else bH x
theorem WOs.up {v:V} {o:Option Wi} (h:WOs H v o):WO H v (o.map .pl):=by
 cases o with
 | none=>exact h
 | some W=>exact h
theorem lL (B : ∀y∈jc,FnT P w K mg base (iR mg "TURNERS") y 4 ["turning","wish"] (bH y)) (T:Txt w K mg base) (L:FnL K mg "turned_wish" cE ["turning","wish"]):Fn P w K mg base "turned_wish" 5 ["turning","wish"] (jC):=by
 ctx_has z gW <;> obtain⟨t,w,na,va,mS,mI,W,rfl,Y,F,U,k⟩:=h
 .rfl
 refine⟨_,(ai (aB (tK T.tb_TURNERS B T.at_TURNERS (ao ap (pvM 1) ae) (aa (pvM 0) (aa (pvM 1) ac))))),?_⟩
 cases W with
 | un cs=>obtain⟨c,h1,h2⟩:=id F;ctx_has v dm h1;exact⟨nX (.un cs),t,w,na,va,mS,mI,_,rfl,Y,rfl,F,U,k⟩
 | mn av cs lo hi=>obtain⟨a,c,h1,h2,h3⟩:=id F;ctx_has v dm h1;exact⟨nX (.mn av cs lo hi),t,w,na,va,mS,mI,_,rfl,Y,rfl,F,U,k⟩
 | sm ts lo hi=>obtain⟨tt,h1,h2⟩:=id F;ctx_has v dm h1;exact⟨nX (.sm ts lo hi),t,w,na,va,mS,mI,_,rfl,Y,rfl,F,U,k⟩
 | tb cs rows=>obtain⟨c,tt,vs,h1,h2,h3,h4⟩:=id F;ctx_has v dm h1;exact⟨nX (.tb cs rows),t,w,na,va,mS,mI,_,rfl,Y,rfl,F,U,k⟩
 | wy cs ps es=>obtain⟨c,tt,e,vs,h1,h2,h3,h4,h5⟩:=id F;ctx_has v dm h1;exact⟨nX (.wy cs ps es),t,w,na,va,mS,mI,_,rfl,Y,rfl,F,U,k⟩
 | bh cs Z=>obtain⟨c,h1,h2⟩:=id F;ctx_has v dm h1;exact⟨nX (.bh cs Z),t,w,na,va,mS,mI,_,rfl,Y,rfl,F,U,k⟩
theorem mL (T:Txt w K mg base) (L:FnL K mg "turned_same" eZ ["turning","wish"]) (Fu:Fn P w K mg base "turned_wish" 5 ["turning","wish"] (jC)) (Fm : @Dz9 P w K mg base) (Fc : @sU P w K mg base):Fn P w K mg base "turned_same" 6 ["turning","wish"] (ia):=by
 ctx_has z oB <;> obtain⟨t,w,na,va,mS,mI,c,us,W,rfl,T0,hW,hk,aj,k⟩:=h
 .rfl
 refine⟨_,(af (az 2 (ah Fu (aa (pvM 0) (aa (ao ap (pvM 1) ae) ac))))
  (af (aK (il (qN (pvM 2))) (ai (aB jo)) aD)
  (ai (aB (aI (aa au (aa (ah Fm (aa (ao ap (pvM 0) ae) (aa (ao ap (pvM 1) ae) ac))) (aa (ah Fc (aa (ao ap (pvM 0) ae) (aa (ao ap (pvM 1) ae) ac))) (aa (pvM 2) ac))))))))),?_⟩
 obtain⟨tt,uu,h1,h2,h3⟩:=hW;ctx_has v h1
 refine⟨t,uu,na,va,mS,mI,W,rfl,T0,h3,hk,λv H1 F hv=>?_⟩
 have U : ∀v H',am H H'->WO H' v ((cg mS mI W).map (.sa (ld mS c) (us.map (ld mI))))->Q v H':=k
 cases ho:cg mS mI W with
 | none =>
  rw[ho] at hv U;cases hv;ctx_has v decide_true
  exact U _ _ F rfl
 | some W' =>
  rw[ho] at hv U;obtain⟨w',rfl,ag⟩:=hv;have Y:=T0.same F;have e1:=Y.ht;have B:=F _ _ h1;ctx_has v e1 B decide_false Bool.false_eq_true
  refine jF Y.hn ⟨_,e1,_,aM (j:=1) rfl,_,B,_,aM (j:=2) rfl,?_⟩
  refine gm Y.hv (F _ _ h2) (by omega) λp H2 s2 hp=>⟨by decide,λw2 ad=>?_⟩
  have Z:=am.upd0 (o:=.tup [.str "same",.str (ld mS c),.ref p,.ref w']) ad;exact U _ _ (F.trans (s2.trans Z)) ⟨w2,rfl,p,w',ab,Z _ _ hp,cM ag λa xs e=>Z _ _ (s2 _ _ e)⟩
abbrev Cu:=Fn P w K mg base "turned_wish" 7 ["turning","wish"] (wU)
theorem lA (F : ∀y∈rM,FnT P w K mg base (iR mg "TURNERS") y 6 ["turning","wish"] (io y)) (T:Txt w K mg base) (L:FnL K mg "turned_wish" cE ["turning","wish"]) : @Cu P w K mg base:=by
 ctx_has z gW <;> obtain⟨t,w,na,va,mS,mI,W,rfl,Z,U,Y,k⟩:=h
 .rfl
 refine⟨_,(ai (aB (tK T.tb_TURNERS F T.at_TURNERS (ao ap (pvM 1) ae) (aa (pvM 0) (aa (pvM 1) ac))))),?_⟩
 cases W with
 | pl W =>
  have U:WS H w W:=U
  have Y:szT W:=Y
  have k : ∀v H',am H H'->WOs H' v (cg mS mI W)->Q v H':=λv H' s h=>k v H' s h.up
  have B : ∀{H:Hp} {Q:VK} {x:Str},x=ib W->bH x [.ref t,.ref w] H Q E0->io x [.ref t,.ref w] H Q E0:=λe h=>by
   subst e;unfold io;rw[if_neg (by cases W <;> exact(show ¬ (Str.ofString _=Str.ofString _) by decide+kernel))]
   exact h
  have mm : ∀{x:Str},x=ib W->x∈rM:=λe=>by subst e;exact mem_cons_of_mem _ (nX W)
  cases W with
  | un cs=>obtain⟨c,h1,h2⟩:=id U;ctx_has v dm h1;exact⟨mm rfl,B rfl ⟨t,w,na,va,mS,mI,_,rfl,Z,rfl,U,Y,k⟩⟩
  | mn av cs lo hi=>obtain⟨a,c,h1,h2,h3⟩:=id U;ctx_has v dm h1;exact⟨mm rfl,B rfl ⟨t,w,na,va,mS,mI,_,rfl,Z,rfl,U,Y,k⟩⟩
  | sm ts lo hi=>obtain⟨tt,h1,h2⟩:=id U;ctx_has v dm h1;exact⟨mm rfl,B rfl ⟨t,w,na,va,mS,mI,_,rfl,Z,rfl,U,Y,k⟩⟩
  | tb cs rows=>obtain⟨c,tt,vs,h1,h2,h3,h4⟩:=id U;ctx_has v dm h1;exact⟨mm rfl,B rfl ⟨t,w,na,va,mS,mI,_,rfl,Z,rfl,U,Y,k⟩⟩
  | wy cs ps es=>obtain⟨c,tt,e,vs,h1,h2,h3,h4,h5⟩:=id U;ctx_has v dm h1;exact⟨mm rfl,B rfl ⟨t,w,na,va,mS,mI,_,rfl,Z,rfl,U,Y,k⟩⟩
  | bh cs ad=>obtain⟨c,h1,h2⟩:=id U;ctx_has v dm h1;exact⟨mm rfl,B rfl ⟨t,w,na,va,mS,mI,_,rfl,Z,rfl,U,Y,k⟩⟩
 | sa c us W =>
  obtain⟨tt,uu,h1,h2,h3⟩:=id U;ctx_has v dm h1
  refine⟨mem_cons_self,?_⟩
  unfold io;rw[if_pos rfl];exact⟨t,w,na,va,mS,mI,c,us,W,rfl,Z,U,Y.1,Y.2,k⟩
def kvF (kf:List (Str × Int)):List (Key × V):=kf.map λx=>(Sum.inr x.1,.int x.2)
theorem gl {k:Key} : ∀{l:List (Key × V)},k∉l.map (·.1)->bu l k=none
 | [],_=>rfl
 | x :: l,h=>by
  rw[map_cons,mem_cons,not_or] at h;rw[aQ (λe=>h.1 e.symm)]
  exact gl h.2
theorem ic : ∀(l acc:List (Key × V)),((acc++l).map (·.1)).Nodup->fE acc l=acc++l
 | [],acc,_=>by rw[append_nil];rfl
 | x :: l,acc,h=>by
  have z:x.1∉acc.map (·.1):=λe=>by
   rw[map_append,nodup_append] at h;exact h.2.2 _ e _ (by rw[map_cons];exact mem_cons_self) rfl
  show fE (bp acc x.1 x.2) l=_
  rw[cF _ (gl z),ic l (acc++[(x.1,x.2)]) (by rw[append_assoc];exact h),append_assoc]
  rfl
def GA:Sp:=λvs H Q _=>∃(t na va f:Addr) (mS:List (Str × Str)) (mI:List (Int × Int)) (kf:List (Str × Int)),vs=[.ref t,.ref f]/\br H t na va mS mI/\(f≠na/\f≠va)/\H f=some (.dK (kvF kf))/\(kf.map (·.1)).Nodup/\kf.length<=40 /\
 ∀p H',H p=none->am H H'->H' p=some (.dK (kvF (kf.map λx=>(ld mS x.1,ld mI x.2))))->Q (.ref p) H'
theorem jQ (T:Txt w K mg base) (L:FnL K mg "turned_filling" cz ["turning","filling"]) (Fm : @Dz9 P w K mg base):Fn P w K mg base "turned_filling" 2 ["turning","filling"] (GA):=by
 ctx_has z jW <;> obtain⟨t,na,va,f,mS,mI,kf,rfl,T0,nf,hf,av,hl,k⟩:=h
 .rfl
 refine⟨_,(ai (aB (aF (oP rfl) T.b_dict (aa (kq (aZ (N:=["cell","value","turning"]) (nt:=2) (js:=[0]) (aH ["turning","filling"] (ak cz).names) (og (pvM 1)) (de (n:=2) rfl (aW (aA 0) (aW (aA 1) cO))) cT aV (aI (aa (ah Fm (aa (ao ap (pvM 2) ae) (aa (pvM 0) ac))) (aa (ah Fm (aa (ao ap (pvM 2) ae) (aa (pvM 1) ac))) ac))))) ac)))),?_⟩
 have e1:=T0.ht;ctx_has v kK iI hf vz
 refine⟨f,_,hf,λo D hD=>?_⟩
 have fD:D≠f:=λz=>by rw[z,ab] at hD;cases hD
 have F:H D=none:=by rw[ag fD] at hD;exact hD
 refine sv (λj ys H'=>∃bs:List (Addr × Str × Int),ys=bs.map (λx=>V.ref x.1)/\bs.map (·.2)=(kf.take j).map (λx=>(ld mS x.1,ld mI x.2))/\(∀x∈bs,H' x.1=some (.tup [.str x.2.1,.int x.2.2]))/\H' D=some (.lst ys)/\H' f=some (.frz o (.dK (kvF kf)))/\∀b u,b≠f->H b=some u->H' b=some u)
  ⟨[],rfl,rfl,by simp,ab,by rw[ag fD.symm];exact ab,λb u B e=>by rw[ag (aj e F),ag B];exact e⟩ (λj ys H' U=>by obtain⟨_,_,_,_,_,h,_⟩:=U;exact(h)) ?_ ?_
 .rintro j kk x ys H2 tt hj ⟨bs,rfl,B,hbt,h2D,h2f,k2⟩ htt
  obtain⟨y,Z,e⟩ : ∃y,kf[j]? = some y/\(Sum.inr y.1,V.int y.2)=(kk,x):=by
   unfold kvF at hj;rw[List.getElem?_map] at hj;cases e:kf[j]? with
   | none=>rw[e] at hj;cases hj
   | some nm=>rw[e] at hj;exact⟨nm,rfl,Option.some.inj hj⟩
  cases e;have ay:j < kf.length:=(List.getElem?_eq_some_iff.mp Z).1
  have Y:=am.upd0 (o:=.tup [.str y.1,.int y.2]) htt;have k3 : ∀b u,b≠f->H b=some u->upd H2 tt (.tup [.str y.1,.int y.2]) b=some u:=λb u B e=>Y _ _ (k2 b u B e)
  have e3:=k3 t _ (aX e1 hf (by intro z;cases z)) e1
  have ar:=k3 na _ nf.1.symm T0.hn;have aw:=k3 va _ nf.2.symm T0.hv;have aq:bs.length<=j:=by
   have:=congrArg List.length B
   rw[length_map,length_map] at this;rw[this];exact length_take_le _ _
  ctx_has v ab kV e3
  refine jF ar ?_
  refine⟨_,e3,_,aM (j:=1) rfl,?_⟩
  refine qI aw ?_
  refine⟨by decide,λt2 an=>?_⟩
  have s4:=Y.upd_new (o:=.tup [.str (ld mS y.1),.int (ld mI y.2)]) an;have af:=s4 _ _ h2D;have kt : ∀b xs,upd (upd H2 tt (.tup [.str y.1,.int y.2])) t2 (.tup [.str (ld mS y.1),.int (ld mI y.2)]) b=some (.tup xs)->upd (upd (upd H2 tt (.tup [.str y.1,.int y.2])) t2 (.tup [.str (ld mS y.1),.int (ld mI y.2)])) D (.lst (bs.map (λx=>V.ref x.1)++[.ref t2])) b=some (.tup xs):=λb xs q=>by rw[ag (aX q af (by intro z;cases z))];exact q
  refine⟨af,by rw[length_map];exact ax (by omega),bs++[(t2,ld mS y.1,ld mI y.2)],by simp,?_,λx hx=>?_,?_,λb u B e=>?_⟩
  .rw[map_append,B,take_add_one,Z,map_append];rfl
  .rcases mem_append.mp hx with q | q
   .exact kt _ _ (s4 _ _ (hbt x q))
   .rw[mem_singleton.mp q];exact kt _ _ ab
  .rw[ag fD.symm];exact s4 _ _ h2f
  .rw[ag (aj e F)];exact s4 _ _ (k2 b u B e)
 .rintro ys H2 ⟨bs,rfl,B,hbt,h2D,h2f,k2⟩
  have hl2:(kvF kf).length=kf.length:=by unfold kvF;rw[length_map]
  rw[hl2,take_length] at B;have Y:am H (upd H2 f (.dK (kvF kf))):=λb u e=>by
   by_cases B:b=f
   .subst B;rw[ab,<- e,hf]
   .rw[ag B];exact k2 b u B e
  have aq:bs.length=kf.length:=by have:=congrArg List.length B;simpa using this
  have ad:(bs.map λx=>((Sum.inr x.2.1:Key),V.int x.2.2))=kvF (kf.map λx=>(ld mS x.1,ld mI x.2)):=by
   unfold kvF;rw[<- B,map_map];rfl
  refine⟨⟨o,h2f⟩,D,rfl,_,.inr (by rw[ag fD];exact h2D),bs.map (λx=>(Sum.inr x.2.1,.int x.2.2)),⟨bs.map λx=>(x.1,Sum.inr x.2.1,.int x.2.2),by rw[map_map];rfl,by rw[map_map];rfl,λx hx=>?_⟩,by rw[length_map];exact le_of_lt (ax (by omega)),λp hp=>?_⟩
  .obtain⟨y,Z,rfl⟩:=mem_map.mp hx
   rw[ag (aX (hbt y Z) h2f (by intro z;cases z))]
   exact hbt y Z
  .rw[ad,ic _ [] ?_]
   .exact k p _ (Y.free hp) (Y.upd_new hp) ab
   .unfold kvF
    rw[nil_append,map_map,map_map];have:(kf.map λx=>(Sum.inr (ld mS x.1):Key))=(kf.map (·.1)).map λs=>Sum.inr (ld mS s):=by rw[map_map];rfl
    show(kf.map λx=>(Sum.inr (ld mS x.1):Key)).Nodup
    rw[this];exact List.Pairwise.map _ (λa b au e=>au (dj T0.ps (Sum.inr.inj e))) av
def kvK (m:List (Key × Key)):List (Key × V):=m.map λx=>(x.1,kV x.2)
def DN:V->Key | .str s=>Sum.inr s | .int i=>Sum.inl i | _=>Sum.inl 0
theorem AN (k:Key):DN (kV k)=k:=by cases k <;> rfl
def upS (m:List (Str × Str)):List (Key × Key):=m.map λx=>(Sum.inr x.1,Sum.inr x.2)
def upI (m:List (Int × Int)):List (Key × Key):=m.map λx=>(Sum.inl x.1,Sum.inl x.2)
theorem qk (m:List (Str × Str)):kvK (upS m)=kvS m:=by unfold kvK upS kvS;rw[map_map];rfl
theorem mO (m:List (Int × Int)):kvK (upI m)=kvI m:=by unfold kvK upI kvI;rw[map_map];rfl
theorem qh (f:α->β) (F : ∀a b,f a=f b->a=b) : ∀{l z:List α},(l.map f).Perm (z.map f)->l.Perm z:=by
 intro l
 induction l with
 | nil =>
  intro z h;have:z.map f=[]:=List.Perm.eq_nil h.symm
  rw[map_eq_nil_iff.mp this]
 | cons a l Z =>
  intro z h;have U:f a∈z.map f:=h.mem_iff.mp (by rw[map_cons];exact mem_cons_self)
  obtain⟨b,Y,e⟩:=mem_map.mp U;obtain rfl:=F _ _ e
  obtain⟨s,t,rfl⟩:=List.append_of_mem Y;have h2:(f b ::(l.map f)).Perm (f b ::((s++t).map f)):=by
   rw[map_cons] at h;refine h.trans ?_
   rw[map_append,map_cons,map_append];exact perm_middle
  have B:=Z ((perm_cons _).mp h2);exact(B.cons b).trans perm_middle.symm
theorem Hd (h:PM m) (Y : ∀x∈m,∃s,x.1=Sum.inr s) : ∃mS:List (Str × Str),m=upS mS/\PM mS:=by
 have h2 : ∀x∈m,∃s,x.2=Sum.inr s:=λx F=>by
  have:=h.2.mem_iff.mp (mem_map.mpr ⟨x,F,rfl⟩)
  obtain⟨y,Z,e⟩:=mem_map.mp this;obtain⟨s,es⟩:=Y y Z;exact⟨s,by rw[<- e,es]⟩
 have e:m=upS (m.map λx=>((match x.1 with | .inr s=>s | _ => ""),(match x.2 with | .inr s=>s | _ => ""))):=by
  unfold upS;rw[map_map]
  conv=>lhs;rw[<- map_id m]
  refine map_congr_left λx F=>?_
  obtain⟨s,es⟩:=Y x F;obtain⟨s',B⟩:=h2 x F;obtain⟨x1,x2⟩:=x;simp only at es B;subst es B;rfl
 generalize (m.map λx=>((match x.1 with | .inr s=>s | _=>("" : Str)),(match x.2 with | .inr s=>s | _=>("" : Str))))=mS at e
 refine⟨mS,e,?_⟩
 rw[e] at h;unfold PM upS at h;rw[map_map,map_map] at h;have e1:(mS.map ((λx:Key × Key=>x.1) ∘ λx=>(Sum.inr x.1,Sum.inr x.2)))=(mS.map (·.1)).map Sum.inr:=by rw[map_map];rfl
 have e2:(mS.map ((λx:Key × Key=>x.2) ∘ λx=>(Sum.inr x.1,Sum.inr x.2)))=(mS.map (·.2)).map Sum.inr:=by rw[map_map];rfl
 rw[e1,e2] at h;exact⟨(pairwise_map.mp h.1).imp λU z=>U (by rw[z]),qh _ (λ_ _ e=>Sum.inr.inj e) h.2⟩
theorem Hi (h:PM m) (Y : ∀x∈m,∃s,x.1=Sum.inl s) : ∃mI:List (Int × Int),m=upI mI/\PM mI:=by
 have h2 : ∀x∈m,∃s,x.2=Sum.inl s:=λx F=>by
  have:=h.2.mem_iff.mp (mem_map.mpr ⟨x,F,rfl⟩)
  obtain⟨y,Z,e⟩:=mem_map.mp this;obtain⟨s,es⟩:=Y y Z;exact⟨s,by rw[<- e,es]⟩
 have e:m=upI (m.map λx=>((match x.1 with | .inl s=>s | _=>0),(match x.2 with | .inl s=>s | _=>0))):=by
  unfold upI;rw[map_map]
  conv=>lhs;rw[<- map_id m]
  refine map_congr_left λx F=>?_
  obtain⟨s,es⟩:=Y x F;obtain⟨s',B⟩:=h2 x F;obtain⟨x1,x2⟩:=x;simp only at es B;subst es B;rfl
 generalize (m.map λx=>((match x.1 with | .inl s=>s | _=>(0:Int)),(match x.2 with | .inl s=>s | _=>(0:Int))))=mI at e
 refine⟨mI,e,?_⟩
 rw[e] at h;unfold PM upI at h;rw[map_map,map_map] at h;have e1:(mI.map ((λx:Key × Key=>x.1) ∘ λx=>(Sum.inl x.1,Sum.inl x.2)))=(mI.map (·.1)).map Sum.inl:=by rw[map_map];rfl
 have e2:(mI.map ((λx:Key × Key=>x.2) ∘ λx=>(Sum.inl x.1,Sum.inl x.2)))=(mI.map (·.2)).map Sum.inl:=by rw[map_map];rfl
 rw[e1,e2] at h;exact⟨(pairwise_map.mp h.1).imp λU z=>U (by rw[z]),qh _ (λ_ _ e=>Sum.inl.inj e) h.2⟩
theorem wX {i:Nat} {x:Key × Key} (hn:(m.map (·.1)).Nodup) (U:m[i]? = some x):bp (kvK (m.take i)) x.1 (kV x.2)=kvK (m.take (i+1)):=by
 have F:m.take (i+1)=m.take i++[x]:=by rw[take_add_one,U];rfl
 have B:((m.take i++[x]).map (·.1)).Nodup:=by
  rw[<- F,map_take];exact hn.sublist (take_sublist _ _)
 rw[map_append,nodup_append] at B;have z:x.1∉(kvK (m.take i)).map (·.1):=λh=>by
  unfold kvK at h;rw[map_map] at h;exact B.2.2 _ h _ (by simp) rfl
 rw[cF _ (gl z),F];unfold kvK;rw[map_append];rfl
theorem GR (hn:(m.map (·.1)).Nodup) {x:Key × Key} (z:x∈m):bu (kvK m) x.1=some (kV x.2):=by
 induction m with
 | nil=>cases z
 | cons y m B =>
  rw[map_cons,nodup_cons] at hn;unfold kvK;rw[map_cons];rcases mem_cons.mp z with rfl | z
  .exact bc rfl
  .rw[aQ (λe=>hn.1 (by rw[show y.1=x.1 from e];exact mem_map.mpr ⟨x,z,rfl⟩))]
   exact B hn.2 z
def sE:Sp:=λvs H Q _=>∃(d l a:Addr) (ks:List Key),vs=[.ref d,.ref a]/\aC H d l/\vL H a (ks.map kV)/\ks.Nodup/\ks.length<=40 /\
 ∀(r:Addr) (m:List (Key × Key)) (H':Hp),H r=none->H' r=some (.dK (kvK m))->PM m->(∀x∈m,x.1∈ks)->m.length<=40->aC H' d l->But d l H H'->Q (.ref r) H'
def rJ:Sp:=λvs H Q _=>∃(a:Addr) (m:List (Key × Key)),vs=[.ref a]/\H a=some (.dK (kvK m))/\(m.map (·.1)).Nodup/\(m.map (·.2)).Nodup/\m.length<=40/\∀r H',H r=none->am H H'->H' r=some (.dK (kvK (swp m)))->Q (.ref r) H'
abbrev EA:=Fn P w K mg base "_law_leads" 3 ["_law_deal_here","_law_things"] (sE)
theorem oX (T:Txt w K mg base) (L:FnL K mg "_law_leads" gx ["_law_deal_here","_law_things"]) (Fb : @Dz4 P w K mg base) : @EA P w K mg base:=by
 ctx_has z oV <;> obtain⟨d,l,a,ks,rfl,D,ha,ay,a6,k⟩:=h
 .rfl
 refine⟨_,(af (az 2 (ah Fb (aa (pvM 0) (aa (pvM 1) (aa ae ac)))))
  (af (az 3 (ah Fb (aa (pvM 0) (aa (pvM 2) (aa (aE eK T.b_len (aa (pvM 2) ac)) ac)))))
  (af (az 4 cm)
  (af (bC (cb rfl T.b_range (aa (aE eK T.b_len (aa (pvM 2) ac)) ac)) (aA 5) (ai (fV hu (pvM 4) (ao sO (pvM 2) (pvM 5)) (ao sO (pvM 3) (pvM 5)) rfl)))
  (ai (aB (pvM 4))))))),?_⟩
 ctx_has v
 refine⟨d,l,a,0,ks.map kV,rfl,D,ha,by decide,by rw[length_map];omega,by rw[length_map];omega,λsa a8 rest H1 a5 av _ h1 D1 B1=>?_⟩
 obtain⟨B,zs,rfl,hp⟩:=gT kV DN AN av;have a3:B.length<=40:=by have:=hp.length_eq;rw[length_append] at this;omega
 have aw:B.Nodup:=(nodup_append.mp (hp.nodup_iff.mpr ay)).1
 ctx_has v h1
 refine⟨d,l,sa,_,B.map kV,rfl,D1,.inr h1,by omega,by omega,by rw[length_map];omega,λoa a0 ar H2 a7 aj an h2 D2 B2=>?_⟩
 obtain⟨F,zo,rfl,U⟩:=gT kV DN AN aj;rw[length_map,length_map] at an;have au:zo=[]:=by
  have:=U.length_eq
  rw[length_append] at this;exact length_eq_zero_iff.mp (by omega)
 rw[au,append_nil] at U;have a4:=U.length_eq;ctx_has v
 intro r Z;have nr:=D2.ne Z;have ak:=(am.upd0 (o:=.dK []) Z) _ _ (B2.tup D1 h1);ctx_has v ak
 rw[length_map];refine⟨by omega,by omega,?_⟩
 have fr:H r=none:=(B1.trans B2).free D2 Z
 have e1:(B.zip F).map (·.1)=B:=map_fst_zip (by omega)
 have e2:(B.zip F).map (·.2)=F:=map_snd_zip (by omega)
 have Y:PM (B.zip F):=by unfold PM;rw[e1,e2];exact⟨aw,U⟩
 have aq:(B.zip F).length=B.length:=by rw[List.length_zip];omega
 refine bR bQ (λi σ H'=>∃v5,σ=[some (.ref d),some (.ref a),some (.ref sa),some (.ref oa),some (.ref r),v5]/\H' r=some (.dK (kvK ((B.zip F).take i)))/\H' sa=some (.tup (B.map kV))/\H' oa=some (.tup (F.map kV))/\aC H' d l/\But d l H H')
  ⟨_,rfl,ab,ak,(am.upd0 Z) _ _ h2,D2.new Z,(B1.trans B2).new Z⟩ (λ_ _ _ _=>True.intro) ?_ ?_
 .rintro i x σ H4 hi hx ⟨v5,rfl,h4r,h4s,h4o,D4,B4⟩
  rw[aJ] at hi;rw[gb hi] at hx;cases hx;have ad:i < B.length:=by omega
  have ap:i < F.length:=by omega
  have a1:atI (B.map kV) (0+(i:Int))=some (kV B[i]):=by rw[Int.zero_add];exact aM (by simp[ad])
  have a2:atI (F.map kV) (0+(i:Int))=some (kV F[i]):=by rw[Int.zero_add];exact aM (by simp[ap])
  have hz:(B.zip F)[i]? = some (B[i],F[i]):=by simp[List.getElem?_zip_eq_some,ad,ap]
  ctx_has v h4s h4o a1 a2
  refine⟨B[i],rfl,_,h4r,?_,by rw[ab,wX Y.1 hz],?_,?_,D4.put nr.1 nr.2,B4.put fr⟩
  .unfold kvK;rw[length_map,length_take];exact ax (by omega)
  .rw[ag (aX h4s h4r (by intro z;cases z))];exact h4s
  .rw[ag (aX h4o h4r (by intro z;cases z))];exact h4o
 .rintro σ H4 ⟨v5,rfl,h4r,h4s,h4o,D4,B4⟩
  rw[aJ,take_of_length_le (by rw[aq];omega)] at h4r
  ctx_has v
  exact k r _ H4 fr h4r Y (λx hx=>hp.mem_iff.mp (mem_append_left _ (by rw[<- e1];exact mem_map.mpr ⟨x,hx,rfl⟩))) (by omega) D4 B4
abbrev CH:=Fn P w K mg base "_law_moved" 2 ["_law_leads_here","_law_things"] (jR)
theorem pC (T:Txt w K mg base) (L:FnL K mg "_law_moved" eh ["_law_leads_here","_law_things"]) : @CH P w K mg base:=by
 ctx_has z pJ <;> obtain⟨x0,y0,rfl,h⟩:=h
 .rfl
 refine⟨_,(ai (aB (aF aO T.b_tuple (aa (aZ (N:=["_law_thing","_law_leads_here"]) (nt:=1) (js:=[0]) (aH ["_law_leads_here","_law_things"] (ak eh).names) (jq (K:=K) rfl (pvM 1)) (aA 0) aP aV (df hu (pvM 1) (pvM 0) (pvM 0) ⟨rfl,rfl,rfl,rfl⟩)) ac)))),?_⟩
 rcases h with⟨a,t,cs,m,e,Z,F,hl,k⟩ | ⟨a,t,cs,m,e,Z,F,hl,k⟩ <;> cases e
 .ctx_has v F
  intro D U;refine cA ba (λv=>match v with | .str c=>.str (ld m c) | _=>.non) U (λH' s=>.of (s _ _ F)) (by simp;omega) ?_ ?_
  .intro x H2 Q2 hx sm q2
   obtain⟨y,hy,rfl⟩:=mem_map.mp hx;have B:=sm _ _ Z;ctx_has v ft
   refine⟨.inl ⟨_,.inl B⟩,_,.inl ⟨_,Sum.inr y,.inl B,rfl,rfl⟩,?_⟩
   rw[Bw];exact q2 H2 (am.refl _)
  .intro H2 sm h2
   ctx_has v h2
   intro p Y;refine k p _ (sm.upd_new Y) ?_
   rw[ab,map_map,map_map];rfl
 .ctx_has v F
  intro D U;refine cA ba (λv=>match v with | .int c=>.int (ld m c) | _=>.non) U (λH' s=>.of (s _ _ F)) (by simp;omega) ?_ ?_
  .intro x H2 Q2 hx sm q2
   obtain⟨y,hy,rfl⟩:=mem_map.mp hx;have B:=sm _ _ Z;ctx_has v ft
   refine⟨.inl ⟨_,.inl B⟩,_,.inl ⟨_,Sum.inl y,.inl B,rfl,rfl⟩,?_⟩
   rw[DL];exact q2 H2 (am.refl _)
  .intro H2 sm h2
   ctx_has v h2
   intro p Y;refine k p _ (sm.upd_new Y) ?_
   rw[ab,map_map,map_map];rfl
theorem qD (T:Txt w K mg base) (L:FnL K mg "_law_back" gX ["_law_leads_here"]):Fn P w K mg base "_law_back" 1 ["_law_leads_here"] (rJ):=by
 ctx_has z qQ <;> obtain⟨a,m,rfl,Z,aa,ah,hl,k⟩:=h
 .rfl
 refine⟨_,(af (az 1 cm)
  (af (Bx (bC (DM (pvM 0)) (aA 2) (ai (fV hu (pvM 1) (yX hu (pvM 0) (pvM 2)) (pvM 2) rfl))))
  (ai (aB (pvM 1))))),?_⟩
 ctx_has v C9 Z
 intro r Y;have ar:a≠r:=aj Z Y
 have U:=(am.upd0 (o:=.dK []) Y) _ _ Z;refine⟨a,_,U,_,U,λo=>?_⟩
 have ac:((swp m).map (·.1)).Nodup:=by unfold swp;rw[map_map];exact ah
 refine bR vS (λi σ H'=>∃v2,σ=[some (.ref a),some (.ref r),v2]/\H' r=some (.dK (kvK ((swp m).take i)))/\H' a=some (.frz o (.dK (kvK m)))/\∀b u,b≠a->H b=some u->H' b=some u)
  ⟨_,rfl,by rw[ag ar.symm];exact ab,ab,λb u B e=>by rw[ag B];exact(am.upd0 Y) _ _ e⟩ (λi σ H' F=>by obtain⟨_,_,_,h,_⟩:=F;exact(h)) ?_ ?_
 .rintro i x σ H2 hi hx ⟨v2,rfl,h2r,h2a,k2⟩
  obtain⟨y,hy,rfl⟩ : ∃y,m[i]? = some y/\kV y.1=x:=by
   unfold kvK at hx;rw[map_map,List.getElem?_map] at hx;cases e:m[i]? with
   | none=>rw[e] at hx;cases hx
   | some nm=>rw[e] at hx;exact⟨nm,rfl,Option.some.inj hx⟩
  have ae:=mem_of_getElem? hy;have ad:(swp m)[i]? = some (y.2,y.1):=by unfold swp;rw[List.getElem?_map,hy];rfl
  ctx_has v Et
  have ak:(swp m).length<=40:=by unfold swp;rw[length_map];exact hl
  refine⟨y.1,rfl,o,_,h2a,_,GR aa ae,y.2,rfl,_,h2r,?_,by rw[ab];exact congrArg (λz=>some (HO.dK z)) (wX ac ad),?_,λb u B e=>?_⟩
  .unfold kvK
   rw[length_map];have:((swp m).take i).length<=(swp m).length:=List.length_take_le' _ _
   exact ax (by omega)
  .rw[ag ar];exact h2a
  .rw[ag (aj e Y)];exact k2 b u B e
 .rintro σ H2 ⟨v2,rfl,h2r,h2a,k2⟩
  have hl2:((kvK m).map λx=>kV x.1).length=(swp m).length:=by unfold kvK swp;simp
  rw[hl2,take_length] at h2r;refine⟨⟨o,h2a⟩,?_⟩
  ctx_has v
  refine k r _ Y (λb u e=>?_) (by rw[ag ar.symm];exact h2r)
  by_cases B:b=a
  .subst B;rw[ab,<- e,Z]
  .rw[ag B];exact k2 b u B e
theorem iJ (xs:List V):dQ xs (some 2) none=xs.drop 2:=by
 have:=jO (λx:V=>x) xs 2
 rwa [map_id',map_id'] at this
theorem yM (xs:List V):dQ xs (some 3) none=xs.drop 3:=by
 have:=jO (λx:V=>x) xs 3
 rwa [map_id',map_id'] at this
theorem Cr (mI:List (Int × Int)):(mI.map λx=>!decide (x.1=x.2)).any id = !idI mI:=by
 unfold idI
 induction mI with
 | nil=>rfl
 | cons y m z=>rw[map_cons,any_cons,all_cons,z];cases decide (y.1=y.2) <;> simp
def qZ (t u:TS):TS:=λD σ H=>∃R:St->Hp->Prop,t { D with nx:=R } σ H/\∀ σ H,R σ H->u D σ H
theorem bW {t u:TS} (h1:PS X st t) (h2:PSs X rest u):PSs X (st :: rest) (qZ t u):=by
 intro pins s σ H D I h;obtain⟨R,h,z⟩:=h;refine wpAny_execs_cons (thn (h1 pins s σ H { D with nx:=R } I h) λf F q=>?_)
 cases f with
 | next =>
  obtain⟨σ',H',B,q⟩:=q;exact h2 pins F σ' H' D B (z _ _ q)
 | ret v=>exact q
 | brk=>exact q
 | cont=>exact q
theorem jk {a b:TS} (R:St->Hp->Prop) (h1:a { D with nx:=R } σ H) (h2 : ∀ σ H,R σ H->b D σ H):qZ a b D σ H:=⟨R,h1,h2⟩
def ndW:Wi->Bool
 | .sm _ _ _=>true
 | .bh _ _=>true
 | _=>false
def zU:Wi->Str
 | .un _ => "unlike"
 | .mn _ _ _ _ => "many"
 | .sm _ _ _ => "sum"
 | .tb _ _ => "table"
 | .wy _ _ _ => "way"
 | .bh _ _ => "behind"
theorem Cd {w:Addr} {W:Wi} (h:WS H w W) : ∃xs,H w=some (.tup (.str (zU W) :: xs)):=by
 cases W with
 | un cs=>obtain⟨c,h1,_⟩:=h;exact⟨_,h1⟩
 | mn B cs lo hi=>obtain⟨a,c,h1,_⟩:=h;exact⟨_,h1⟩
 | sm ts lo hi=>obtain⟨t,h1,_⟩:=h;exact⟨_,h1⟩
 | tb cs rows=>obtain⟨c,t,vs,h1,_⟩:=h;exact⟨_,h1⟩
 | wy cs ps es=>obtain⟨c,t,e,vs,h1,_⟩:=h;exact⟨_,h1⟩
 | bh cs z=>obtain⟨c,h1,_⟩:=h;exact⟨_,h1⟩
theorem ym (W:Wi) : ¬ (zU W=Str.ofString "same"):=by cases W <;> simp only[zU] <;> decide+kernel
theorem CB (W:Wi):inV (V.str (zU W)) [V.str "sum",V.str "behind"]=ndW W:=by cases W <;> simp only[zU,ndW] <;> decide+kernel
theorem vX {W:Wi} (h:ndW W=true) (hi:idI mI=false):cg mS mI W=none:=by
 cases W <;> simp[ndW] at h <;> simp[cg,hi]
theorem aw {a rest:TS} (h : ∀R:TS,R=rest->fL a R D σ H):fL a rest D σ H:=h rest rfl
local macro_rules | `(tactic| ctx_has s $ids*) => `(tactic| (refine aw λR hR => ?_; ctx_has v $ids*; subst hR))
abbrev Dv:=Fn P w K mg base "_law_led_wish" 3 ["_law_turning","_law_wish_here"] (jC)
abbrev nz1:List Str:=["_law_turning","_law_wish_here","_law_names_here","_law_values","_law_inner","_law_found","_law_steps"]
theorem jH (T:Txt w K mg base) (L:FnL K mg "_law_led_wish" bn ["_law_turning","_law_wish_here"]) (Fe : @CH P w K mg base) : @Dv P w K mg base:=by
 ctx_has z fR <;> obtain⟨t,w,na,va,mS,mI,W,rfl,T0,hW,hk,k⟩:=h
 .rfl
 refine⟨_,(bW (rL (pvM 0) (de (n:=2) rfl (aW (aA 2) (aW (aA 3) cO))))
  (bW (aK (ay aT (ao ap (pvM 1) ae) au) (af aL
  (af aL
  (ai aL))) aD)
  (bW (aK (PW.pt (fK (ay vM (ao ap (pvM 1) ae) (aI (aa au (aa au ac)))) (eS (oI (aE (yL rfl) T.b_any (aa (kq (aZ (N:=["_law_key","_law_values"]) (nt:=1) (js:=[3]) (aH nz1 (ak bn).names) (DM (pvM 3)) (aA 0) aP aV (gj Aj (pvM 0) (yX hu (pvM 1) (pvM 0))))) ac)))))) (ai (aB jo)) aD)
  (af (aK (ay aT (ao ap (pvM 1) ae) au) (ai (aB (aN eO (aI (aa au (aa (aF aO T.b_tuple (aa (aZ (N:=["_law_a","_law_name","_law_names_here"]) (nt:=2) (js:=[2]) (aH nz1 (ak bn).names) (cX K (ao ap (pvM 1) ae)) (de (n:=2) rfl (aW (aA 0) (aW (aA 1) cO))) cT aV (aI (aa (pvM 0) (aa (df hu (pvM 2) (pvM 1) (pvM 1) ⟨rfl,rfl,rfl,rfl⟩) ac)))) ac)) ac))) (bG oM (pvM 1) (bN ae) cB)))) aD)
  (af (aK (ay aT (ao ap (pvM 1) ae) au) (ai (aB (aN eO (aI (aa au (aa (ah Fe (aa (pvM 3) (aa (ao ap (pvM 1) ae) ac))) (aa (ah Fe (aa (pvM 2) (aa (ao ap (pvM 1) ae) ac))) ac)))) (bG oM (pvM 1) (bN ae) cB)))) aD)
  (af (az 5 (aI (aa (ao ap (pvM 1) ae) (aa (ah Fe (aa (pvM 2) (aa (ao ap (pvM 1) ae) ac))) ac))))
  (af (aK (ay aT (ao ap (pvM 1) ae) au) (ai (aB (aN eO (pvM 5) (aI (aa (aF aO T.b_tuple (aa (aZ (N:=["_law_row","_law_values"]) (nt:=1) (js:=[3]) (aH nz1 (ak bn).names) (cX K (ao ap (pvM 1) ae)) (aA 0) aP aV (ah Fe (aa (pvM 1) (aa (pvM 0) ac)))) ac)) ac))))) aD)
  (af (aK (ay aT (ao ap (pvM 1) ae) au) (af (cH 6 (N:=["_law_step","_law_values"]) (nt:=1) (js:=[3]) (aH nz1 (ak bn).names) (cX K (ao ap (pvM 1) ae)) (aA 0) aP aV (aI (aa (ao ap (pvM 0) ae) (aa (df hu (pvM 1) (ao ap (pvM 0) ae) (ao ap (pvM 0) ae) ⟨rfl,rfl,rfl,rfl⟩) (aa (ao ap (pvM 0) ae) ac)))))
  (ai (aB (aN eO (pvM 5) (aI (aa (aF aO T.b_tuple (aa (pvM 6) ac)) (aa (ao ap (pvM 1) ae) ac))))))) aD)
  (ai (aB (aN eO (pvM 5) (bG oM (pvM 1) (bN ae) cB)))))))))))),?_⟩
 have e1:=T0.ht;refine jk (λσ H'=>σ=[some (.ref t),some (.ref w),some (.ref na),some (.ref va),none,none,none]/\H'=H) ?_ ?_
 .ctx_has v e1
 rintro σ H' ⟨rfl,rfl⟩
 obtain⟨xs,h0⟩:=Cd hW;refine jk (λσ H0=>σ=[some (.ref t),some (.ref w),some (.ref na),some (.ref va),none,none,none]/\H0=H') ?_ ?_
 .ctx_has v h0
  rw[if_neg (ym W)];trivial
 rintro σ H0 ⟨rfl,rfl⟩
 refine jk (λσ H1=>σ=[some (.ref t),some (.ref w),some (.ref na),some (.ref va),none,none,none]/\am H0 H1/\(ndW W=true->idI mI=true)) ?_ ?_
 .ctx_has v h0
  refine⟨by decide,λp0 bi=>?_⟩
  have s1:=am.upd0 (o:=.tup [V.str "sum",V.str "behind"]) bi;refine⟨_,ab,rfl,rfl,?_⟩
  rw[CB];generalize upd H0 p0 (.tup [V.str "sum",V.str "behind"])=H1 at s1 ⊢;cases hn:ndW W with
  | false =>
   rw[if_neg Bool.false_ne_true];exact⟨s1,λz=>by cases z⟩
  | true =>
   rw[if_pos rfl];have T1:=T0.same s1;have e3:=T1.hv;ctx_has v kK
   refine⟨va,_,e3,_,e3,λo D hD=>?_⟩
   have vD:D≠va:=λz=>by rw[z,ab] at hD;cases hD
   have aQ:H1 D=none:=by rw[ag vD] at hD;exact hD
   refine cD vS (λj ys H'=>ys=((mI.take j).map λx=>!decide (x.1=x.2)).map V.bl/\H' D=some (.lst ys)/\H' va=some (.frz o (.dK (kvI mI)))/\∀b u,b≠va->H1 b=some u->H' b=some u)
    ⟨rfl,ab,by rw[ag vD.symm];exact ab,λb u hb e=>by rw[ag (aj e aQ),ag hb];exact e⟩ (λj ys H' aU=>by obtain⟨_,_,h,_⟩:=aU;exact(h)) ?_ ?_
   .rintro j x ys H2 hj hx ⟨rfl,h2D,h2v,k2⟩
    obtain⟨y,hy,rfl⟩ : ∃y,mI[j]? = some y/\V.int y.1=x:=by
     unfold kvI at hx;rw[map_map,List.getElem?_map] at hx;cases e:mI[j]? with
     | none=>rw[e] at hx;cases hx
     | some nm=>rw[e] at hx;exact⟨nm,rfl,Option.some.inj hx⟩
    have bk:j < mI.length:=(List.getElem?_eq_some_iff.mp hy).1
    have bj:=T0.li;have bd:bu (kvI mI) (Sum.inl y.1)=some (.int y.2):=by
     rw[<- mO];exact GR (m:=upI mI) (x:=(Sum.inl y.1,Sum.inl y.2)) (by unfold upI;rw[map_map];exact(pairwise_map.mpr ((pairwise_map.mp T0.pi.1).imp λbf e=>bf (Sum.inl.inj e)))) (mem_map.mpr ⟨y,mem_of_getElem? hy,rfl⟩)
    ctx_has v Et
    refine⟨o,_,h2v,_,bd,rfl,h2D,by simp;exact ax (by omega),?_,ab,?_,λb u hb e=>?_⟩
    .rw[take_add_one,hy];simp
    .rw[ag vD.symm];exact h2v
    .rw[ag (aj e aQ)];exact k2 b u hb e
   .rintro ys H2 ⟨rfl,h2D,h2v,k2⟩
    have hl2:((kvI mI).map λx=>kV x.1).length=mI.length:=by unfold kvI;simp
    rw[hl2,take_length] at h2D;refine⟨⟨o,h2v⟩,D,rfl,_,by rw[ag vD];exact h2D,?_⟩
    have s2:am H1 (upd H2 va (.dK (kvI mI))):=λb u e=>by
     by_cases hb:b=va
     .subst hb;rw[ab,<- e,e3]
     .rw[ag hb];exact k2 b u hb e
    generalize upd H2 va (.dK (kvI mI))=H3 at s2 ⊢;rw[Cr];have B:=s1.trans s2;cases a4:idI mI with
    | false =>
     rw[if_pos (show(!false)=true from rfl)]
     have k1:=k .non H3 B;rw[vX hn a4] at k1;exact k1 rfl
    | true =>
     rw[if_neg (show ¬ (!true)=true from Bool.false_ne_true)]
     exact⟨B,λ_=>rfl⟩
 rintro σ H1 ⟨rfl,s1,a4⟩
 have T1:=T0.same s1;cases W with
 | un cs =>
  obtain⟨c,h1,h2⟩:=hW;have hk:cs.length<=12:=hk
  have F:=s1 _ _ h1;ctx_has s F;ctx_has s F;ctx_has v F
  refine dC T1.hn (s1 _ _ h2) (by omega) λp2 H2 s2 aq=>?_
  have ar:=s2 _ _ F;ctx_has v ar
  refine⟨by decide,λpf Y=>?_⟩
  have s3:=am.upd0 (o:=.tup [V.str "unlike",.ref p2]) Y;have an:upd H2 pf (.tup [V.str "unlike",.ref p2]) pf=some (.tup [V.str "unlike",.ref p2]):=ab
  generalize upd H2 pf (.tup [V.str "unlike",.ref p2])=H3 at s3 an ⊢;have B:=s1.trans (s2.trans s3);have ad:=B _ _ h1;have T3:=T0.same B;ctx_has v ad an
  intro p4 H4 h4 U;rw[iJ] at h4;refine⟨_,U _ _ an,_,h4,le_of_lt (ax (by simp)),λp5 H5 h5 s5=>?_⟩
  have aX:=U.trans s5;exact k _ _ (B.trans aX) ⟨p5,rfl,p2,h5,aX _ _ (s3 _ _ aq)⟩
 | mn av cs lo hi =>
  obtain⟨a,c,h1,h2,h3⟩:=hW;have aC:av.length<=20:=hk.1
  have aS:cs.length<=12:=hk.2
  have F:=s1 _ _ h1;ctx_has s F;refine aw λR hR=>?_
  ctx_has v F
  refine gm T1.hv (s1 _ _ h2) (by omega) λp2 H2 s2 aq=>?_
  have ar:=s2 _ _ F;have T2:=T1.same s2;ctx_has v ar
  refine dC T2.hn (s2 _ _ (s1 _ _ h3)) (by omega) λp3 H3 s3 be=>⟨by decide,λpf Y=>?_⟩
  have U:=am.upd0 (o:=.tup [V.str "many",.ref p2,.ref p3]) Y;have a6:upd H3 pf (.tup [V.str "many",.ref p2,.ref p3]) pf=some (.tup [V.str "many",.ref p2,.ref p3]):=ab
  generalize upd H3 pf (.tup [V.str "many",.ref p2,.ref p3])=H4 at U a6 ⊢;have a0:=U _ _ (s3 _ _ ar);ctx_has v a0 a6
  intro p5 H5 h5 s5;rw[yM] at h5;refine⟨_,s5 _ _ a6,_,h5,le_of_lt (ax (by simp)),λp6 H6 h6 s6=>?_⟩
  have Z:=s5.trans s6;exact k _ _ (s1.trans (s2.trans (s3.trans (U.trans Z)))) ⟨p6,rfl,p2,p3,h6,Z _ _ (U _ _ (s3 _ _ aq)),Z _ _ (U _ _ be)⟩
 | sm ts lo hi =>
  obtain⟨tt,h1,as,h2,rfl,h3⟩:=hW;have hk:as.length<=12:=by have:(as.map (·.2)).length<=12:=hk;simpa using this
  have k1 : ∀v H',am H0 H'->WOs H' v (if idI mI=true then some (.sm ((as.map (·.2)).map λx=>(x.1,ld mS x.2)) lo hi) else none)->Q v H':=k
  have F:=s1 _ _ h1;rw[a4 rfl,if_pos rfl] at k1;have B:=s1;have T3:=T1;have ad:=F;refine aw λR hR=>?_
  have aG:=B _ _ h2;ctx_has v ad aG
  intro D3 aY;refine di ba (f:=λx:Addr × Int × Str=>(x.2.1,ld mS x.2.2)) (c:=λy:Int × Str=>[V.int y.1,V.str y.2]) aY (λH' s=>.of (s _ _ aG)) (by omega) ?_ ?_
  .intro z hz H4 Q4 U q4
   have e4:=U _ _ (B _ _ (h3 z hz));have T4:=T3.same U;have e5:=T4.hn;ctx_has v e4 ft
   refine⟨.inl ⟨_,.inl e5⟩,_,.inl ⟨_,Sum.inr z.2.2,.inl e5,rfl,rfl⟩,?_⟩
   rw[Bw];exact⟨by decide,λt' a8=>q4 t' _ (am.upd0 a8) ab⟩
  .intro bs H4 hbs hbt U h4D
   ctx_has v h4D
   intro p hp;refine⟨by decide,λpf Y=>?_⟩
   have s5:=am.upd0 (o:=.tup (bs.map λx=>V.ref x.1)) hp
   have s6:=s5.upd_new (o:=.tup [V.str "sum",.ref p]) Y;have pp:p≠pf:=λz=>by rw[<- z,ab] at Y;cases Y
   have a2:upd (upd H4 p (.tup (bs.map λx=>V.ref x.1))) pf (.tup [V.str "sum",.ref p]) p=some (.tup (bs.map λx=>V.ref x.1)):=by rw[ag pp,ab]
   have aR:upd (upd H4 p (.tup (bs.map λx=>V.ref x.1))) pf (.tup [V.str "sum",.ref p]) pf=some (.tup [V.str "sum",.ref p]):=ab
   generalize upd (upd H4 p (.tup (bs.map λx=>V.ref x.1))) pf (.tup [V.str "sum",.ref p])=H6 at s6 a2 aR ⊢
   have bg:=s6 _ _ (U _ _ ad);refine⟨_,bg,λp7 H7 h7 s7=>?_⟩
   rw[iJ] at h7;refine⟨_,s7 _ _ aR,_,h7,le_of_lt (ax (by simp)),λp8 H8 h8 s8=>?_⟩
   have a9:=s7.trans s8;exact k1 _ _ (B.trans (U.trans (s6.trans a9))) ⟨p8,rfl,p,h8,bs,a9 _ _ a2,by rw[hbs,map_map];rfl,λx hx=>a9 _ _ (s6 _ _ (hbt x hx))⟩
 | tb cs rows =>
  obtain⟨c,tr,vs,h1,h2,h3,as,rfl,rfl,h4⟩:=hW;have aC:cs.length<=12:=hk.1
  have aS:as.length<=60:=by have:=hk.2.1;rw[length_map] at this;exact this
  have F:=s1 _ _ h1;ctx_has s F;ctx_has s F;ctx_has v F
  refine dC T1.hn (s1 _ _ h2) (by omega) λp2 H2 s2 aq=>?_
  have ar:=s2 _ _ F;ctx_has v ar
  refine⟨by decide,λpf Y=>?_⟩
  have s3:=am.upd0 (o:=.tup [V.str "table",.ref p2]) Y;have an:upd H2 pf (.tup [V.str "table",.ref p2]) pf=some (.tup [V.str "table",.ref p2]):=ab
  generalize upd H2 pf (.tup [V.str "table",.ref p2])=H3 at s3 an ⊢;have B:=s1.trans (s2.trans s3);have ad:=B _ _ h1;have T3:=T0.same B;have a3:=B _ _ h3;ctx_has v ad a3
  intro D hD;refine di ba (f:=λx:Addr × List Int=>x.2.map (ld mI)) (c:=λr:List Int=>r.map V.int) hD (λH' s=>.of (s _ _ a3)) (by omega) ?_ ?_
  .intro z hz H4 Q4 U q4
   have T4:=T3.same U;ctx_has v
   exact gm T4.hv (U _ _ (B _ _ (h4 z hz))) (by have:=hk.2.2 z.2 (mem_map.mpr ⟨z,hz,rfl⟩);omega) λp' H5 s5 h5=>q4 p' H5 s5 h5
  .intro bs H4 hbs hbt U h4D
   ctx_has v h4D
   intro p5 a7;have s5:=am.upd0 (o:=.tup (bs.map λx=>V.ref x.1)) a7
   refine⟨by decide,λp6 a1=>?_⟩
   have s6:=s5.upd_new (o:=.tup [V.ref p5]) a1;have pp:p5≠p6:=λz=>by rw[<- z,ab] at a1;cases a1
   have a2:upd (upd H4 p5 (.tup (bs.map λx=>V.ref x.1))) p6 (.tup [V.ref p5]) p5=some (.tup (bs.map λx=>V.ref x.1)):=by rw[ag pp,ab]
   have Z:=U.trans s6;refine⟨_,Z _ _ an,_,ab,le_of_lt (ax (by simp)),λp7 H7 h7 s7=>?_⟩
   exact k _ _ (B.trans (Z.trans s7)) ⟨p7,rfl,p2,p5,_,h7,s7 _ _ (Z _ _ (s3 _ _ aq)),s7 _ _ a2,bs,rfl,by rw[hbs,map_map];rfl,λx hx=>s7 _ _ (s6 _ _ (hbt x hx))⟩
 | wy cs ps es =>
  obtain⟨c,tr,e,vs,h1,h2,h3,⟨as,rfl,rfl,h4⟩,h5⟩:=hW;have aC:cs.length<=12:=hk.1
  have aS:as.length<=60:=by have:=hk.2;rw[length_map] at this;exact this
  have F:=s1 _ _ h1;ctx_has s F;ctx_has s F;ctx_has v F
  refine dC T1.hn (s1 _ _ h2) (by omega) λp2 H2 s2 aq=>?_
  have ar:=s2 _ _ F;ctx_has v ar
  refine⟨by decide,λpf Y=>?_⟩
  have s3:=am.upd0 (o:=.tup [V.str "way",.ref p2]) Y;have an:upd H2 pf (.tup [V.str "way",.ref p2]) pf=some (.tup [V.str "way",.ref p2]):=ab
  generalize upd H2 pf (.tup [V.str "way",.ref p2])=H3 at s3 an ⊢;have B:=s1.trans (s2.trans s3);have ad:=B _ _ h1;have T3:=T0.same B;have a3:=B _ _ h3;ctx_has v ad a3
  intro D hD;refine di ba (f:=λx:Addr × Int × Int × Int=>(x.2.1,ld mI x.2.2.1,x.2.2.2)) (c:=λy:Int × Int × Int=>[V.int y.1,V.int y.2.1,V.int y.2.2]) hD (λH' s=>.of (s _ _ a3)) (by omega) ?_ ?_
  .intro z hz H4 Q4 U q4
   have e4:=U _ _ (B _ _ (h4 z hz));have T4:=T3.same U;have e5:=T4.hv;ctx_has v e4 ft
   refine⟨.inl ⟨_,.inl e5⟩,_,.inl ⟨_,Sum.inl z.2.2.1,.inl e5,rfl,rfl⟩,?_⟩
   rw[DL];exact⟨by decide,λt' a8=>q4 t' _ (am.upd0 a8) ab⟩
  .intro bs H4 hbs hbt U h4D
   have a0:=U _ _ ad;ctx_has v h4D a0
   intro p5 a7;have s5:=am.upd0 (o:=.tup (bs.map λx=>V.ref x.1)) a7
   refine⟨_,s5 _ _ a0,_,aM (j:=3) rfl,by decide,λp6 a1=>?_⟩
   have s6:=s5.upd_new (o:=.tup [V.ref p5,V.ref e]) a1;have pp:p5≠p6:=λz=>by rw[<- z,ab] at a1;cases a1
   have a2:upd (upd H4 p5 (.tup (bs.map λx=>V.ref x.1))) p6 (.tup [V.ref p5,V.ref e]) p5=some (.tup (bs.map λx=>V.ref x.1)):=by rw[ag pp,ab]
   have Z:=U.trans s6;refine⟨_,Z _ _ an,_,ab,le_of_lt (ax (by simp)),λp7 H7 h7 s7=>?_⟩
   exact k _ _ (B.trans (Z.trans s7)) ⟨p7,rfl,p2,p5,e,_,h7,s7 _ _ (Z _ _ (s3 _ _ aq)),s7 _ _ a2,⟨bs,rfl,by rw[hbs,map_map];rfl,λx hx=>s7 _ _ (s6 _ _ (hbt x hx))⟩,s7 _ _ (Z _ _ (B _ _ h5))⟩
 | bh cs bc =>
  obtain⟨c,h1,h2⟩:=hW;have hk:cs.length<=12:=hk
  have k1 : ∀v H',am H0 H'->WOs H' v (if idI mI=true then some (.bh (cs.map (ld mS)) bc) else none)->Q v H':=k
  have F:=s1 _ _ h1;rw[a4 rfl,if_pos rfl] at k1;have B:=s1;have T3:=T1;have ad:=F;ctx_has s F;ctx_has s F;ctx_has v ad
  refine dC T3.hn (B _ _ h2) (by omega) λp2 H4 U aq=>?_
  have a0:=U _ _ ad;ctx_has v a0
  refine⟨by decide,λpf Y=>?_⟩
  have s5:=am.upd0 (o:=.tup [V.str "behind",.ref p2]) Y;have a5:upd H4 pf (.tup [V.str "behind",.ref p2]) pf=some (.tup [V.str "behind",.ref p2]):=ab
  generalize upd H4 pf (.tup [V.str "behind",.ref p2])=H5 at s5 a5 ⊢;have bb:=s5 _ _ a0;ctx_has v bb a5
  intro p6 H6 h6 s6;rw[iJ] at h6;refine⟨_,s6 _ _ a5,_,h6,le_of_lt (ax (by simp)),λp7 H7 h7 s7=>?_⟩
  have aJ:=s6.trans s7;exact k1 _ _ (B.trans (U.trans (s5.trans aJ))) ⟨p7,rfl,p2,h7,aJ _ _ (s5 _ _ aq)⟩
abbrev G9:=Fn P w K mg base "_law_led_wish" 4 ["_law_turning","_law_wish_here"] (ia)
theorem kn (T:Txt w K mg base) (L:FnL K mg "_law_led_wish" bn ["_law_turning","_law_wish_here"]) (ag : @Dv P w K mg base) (Fe : @CH P w K mg base) : @G9 P w K mg base:=by
 ctx_has z fR <;> obtain⟨t,w,na,va,mS,mI,c,us,W,rfl,Y,hW,hk,ak,k⟩:=h
 .rfl
 refine⟨_,(af (rL (pvM 0) (de (n:=2) rfl (aW (aA 2) (aW (aA 3) cO))))
  (af (aK (ay aT (ao ap (pvM 1) ae) au) (af (az 4 (ah ag (aa (pvM 0) (aa (ao ap (pvM 1) ae) ac))))
  (af (aK (il (qN (pvM 4))) (ai (aB jo)) aD)
  (ai (aB (aI (aa au (aa (df hu (pvM 2) (ao ap (pvM 1) ae) (ao ap (pvM 1) ae) ⟨rfl,rfl,rfl,rfl⟩) (aa (ah Fe (aa (pvM 3) (aa (ao ap (pvM 1) ae) ac))) (aa (pvM 4) ac))))))))) aD)
  (af aL
  (af aL
  (af aL
  (af aL
  (af aL
  (af aL
  (ai aL))))))))),?_⟩
 have e1:=Y.ht;obtain⟨tt,uu,h1,h2,h3⟩:=hW;ctx_has v e1 h1
 refine⟨t,uu,na,va,mS,mI,W,rfl,Y,h3,hk,λv H1 B hv=>?_⟩
 have F : ∀v H',am H H'->WO H' v ((cg mS mI W).map (.sa (ld mS c) (us.map (ld mI))))->Q v H':=k
 cases ho:cg mS mI W with
 | none =>
  rw[ho] at hv F;cases hv;ctx_has v decide_true
  exact F _ _ B rfl
 | some W' =>
  rw[ho] at hv F;obtain⟨w',rfl,aj⟩:=hv;have T1:=Y.same B;have e5:=T1.hn;have U:=B _ _ h1;ctx_has v U decide_false Bool.false_eq_true ft
  refine⟨.inl ⟨_,.inl e5⟩,_,.inl ⟨_,Sum.inr c,.inl e5,rfl,rfl⟩,?_⟩
  rw[Bw];refine gm T1.hv (B _ _ h2) (by omega) λp H2 s2 hp=>⟨by decide,λw2 ad=>?_⟩
  have Z:=am.upd0 (o:=.tup [.str "same",.str (ld mS c),.ref p,.ref w']) ad;exact F _ _ (B.trans (s2.trans Z)) ⟨w2,rfl,p,w',ab,Z _ _ hp,cM aj λa xs e=>Z _ _ (s2 _ _ e)⟩
def sk {α:Type} (f:α->PySem.W.Ky) (l:List α):List α:=l.mergeSort λa b=>!((f b).lt (f a))
theorem bI (f:α->PySem.W.Ky) (l:List α):(sk f l).Perm l:=List.mergeSort_perm l _
theorem CW (f:α->PySem.W.Ky) (l:List α):(sk f l).Pairwise λa b=>(f a).le (f b):=by
 have:=List.pairwise_mergeSort (le:=λa b:α=>!((f b).lt (f a))) (λa b c h1 h2=>by
  simp only[Bool.not_eq_true'] at h1 h2 ⊢;exact PySem.W.Ky.le_trans h1 h2) (λa b=>by
  cases h:(f b).lt (f a) with
  | false=>rfl
  | true=>simp[PySem.W.Ky.asym h]) l
 exact this.imp λh=>by simpa [PySem.W.Ky.le] using h
theorem iu (f:α->PySem.W.Ky) (l:List α):((sk f l).map f).Pairwise PySem.W.Ky.le:=pairwise_map.mpr (CW f l)
theorem el {f:α->PySem.W.Ky} {l z:List α} (B:z.Perm l) (U:(z.map f).Pairwise PySem.W.Ky.le) (hi : ∀a∈l,∀b∈l,f a=f b->a=b):z=sk f l :=
 List.Perm.eq_of_pairwise (le:=λa b=>(f a).le (f b)) (λa b F Y h1 h2=>hi a (B.mem_iff.mp F) b ((bI f l).mem_iff.mp Y) (PySem.W.Ky.le_antisymm h1 h2)) (pairwise_map.mp U) (CW f l) (B.trans (bI f l).symm)
theorem cJ {f:α->PySem.W.Ky} {l z:List α} (B:z.Perm l) (hi : ∀a∈l,∀b∈l,f a=f b->a=b):sk f z=sk f l:=el ((bI f z).trans B) (iu f z) hi
theorem ua (l:List Str) : ∀a∈l,∀b∈l,PySem.W.Ky.s a=PySem.W.Ky.s b->a=b:=λ_ _ _ _ h=>by cases h;rfl
theorem xb (l:List Int) : ∀a∈l,∀b∈l,PySem.W.Ky.i a=PySem.W.Ky.i b->a=b:=λ_ _ _ _ h=>by cases h;rfl
theorem CQ (l:List (List Int)) : ∀a∈l,∀b∈l,PySem.W.Ky.r a=PySem.W.Ky.r b->a=b:=λ_ _ _ _ h=>by cases h;rfl
def kP (p:Int × Int × Int):PySem.W.Ky:=.r [p.1,p.2.1,p.2.2]
theorem zk (l:List (Int × Int × Int)) : ∀a∈l,∀b∈l,kP a=kP b->a=b:=λa _ b _ h=>by
 obtain⟨z,Y,B⟩:=a;obtain⟨U,Z,F⟩:=b;unfold kP at h;simp at h
 obtain⟨rfl,rfl,rfl⟩:=h;rfl
def kT {α:Type} (t:α × Str):PySem.W.Ky:=.s t.2
theorem lW {α β:Type} {f:α->β} {t t':α} : ∀{l:List α},(l.map f).Nodup->t∈l->t'∈l->f t=f t'->t=t'
 | [],_,h,_,_=>by simp at h
 | x :: l,hn,h,h',e=>by
  have hn:(f x :: l.map f).Nodup:=hn
  obtain⟨h1,h2⟩:=nodup_cons.mp hn;rcases mem_cons.mp h with rfl | h
  .rcases mem_cons.mp h' with rfl | h'
   .rfl
   .exact absurd (mem_map.mpr ⟨t',h',e.symm⟩) h1
  .rcases mem_cons.mp h' with h' | h'
   .exact absurd (mem_map.mpr ⟨t,h,by rw[<- h'];exact e⟩:f x∈l.map f) h1
   .exact lW h2 h h' e
theorem ni {l:List (α × Str)} (hn:(l.map (·.2)).Nodup) : ∀a∈l,∀b∈l,kT a=kT b->a=b:=λa z b B h=>lW hn z B (by unfold kT at h;injection h)
abbrev noS:Str := ""
def bw {α:Type} (d:α) (pl:List Nat) (r:List α):List α:=pl.map λi=>r.getD i d
def plc (cs:List Str):List Nat:=(sk kT ((range cs.length).zip cs)).map (·.1)
theorem eJ (d:α) (r:List α):bw d (range r.length) r=r:=by
 apply ext_getElem?
 intro i;unfold bw
 by_cases hi:i < r.length
 .simp[hi]
 .simp[hi]
theorem fS (d:α) {pl:List Nat} {r:List α} (h:pl.Perm (range r.length)):(bw d pl r).Perm r:=by
 have:=h.map λi=>r.getD i d
 have e:=eJ d r;unfold bw at e ⊢
 rwa [e] at this
theorem zf {d:α} {r s:List α} (h:pl.Perm (range n)) (B:r.length=n) (z:s.length=n) (e:bw d pl r=bw d pl s):r=s:=by
 apply List.ext_getElem (B.trans z.symm)
 intro i h1 h2;have hi:i∈pl:=h.mem_iff.mpr (mem_range.mpr (by omega))
 have:=List.map_inj_left.mp e i hi
 simpa [getD_eq_getElem?_getD,h1,h2] using this
theorem dM (d:α) (e:β) {pl:List Nat} {r:List α} {s:List β}:(bw d pl r).zip (bw e pl s)=pl.map λi=>(r.getD i d,s.getD i e):=by
 unfold bw
 induction pl with
 | nil=>rfl
 | cons i pl z=>simp only[map_cons,List.zip_cons_cons,z]
theorem fP (cs:List Str):(plc cs).Perm (range cs.length):=by
 have:=(bI kT ((range cs.length).zip cs)).map (·.1)
 rwa [map_fst_zip (by simp)] at this
theorem si {r:List α} {cs:List Str} (hl:cs.length<=r.length) (hn:cs.Nodup):((r.zip cs).map (·.2)).Nodup:=by
 rw[map_snd_zip hl];exact hn
theorem pW {cs:List Str} (hn:cs.Nodup):bw noS (plc cs) cs=sk PySem.W.Ky.s cs:=by
 refine el (fS noS (fP cs)) ?_ (ua cs)
 have e:bw noS (plc cs) cs=(sk kT ((range cs.length).zip cs)).map (·.2):=by
  unfold bw plc;rw[map_map];refine map_congr_left λz Y=>?_
  have:=(bI kT ((range cs.length).zip cs)).mem_iff.mp Y
  obtain⟨k,F,U⟩:=List.getElem_of_mem this;have B:k < cs.length:=by simpa using F
  rw[<- U];simp[getD_eq_getElem?_getD,B]
 rw[e,map_map];exact iu kT ((range cs.length).zip cs)
theorem sL {cs:List Str} {r:List Int} (hn:cs.Nodup) (hl:r.length=cs.length):bw 0 (plc cs) r=(sk kT (r.zip cs)).map (·.1):=by
 have h1:(bw 0 (plc cs) r).zip (bw noS (plc cs) cs)=sk kT (r.zip cs):=by
  refine el ?_ ?_ (ni (si (by omega) hn))
  .rw[dM]
   have:=(fP cs).map λi=>(r.getD i 0,cs.getD i noS)
   rw[<- dM,<- dM,<- hl,eJ,hl,eJ] at this;rw[<- dM];exact this
  .have e:((bw 0 (plc cs) r).zip (bw noS (plc cs) cs)).map kT=(bw noS (plc cs) cs).map PySem.W.Ky.s:=by
    have:(kT:Int × Str->PySem.W.Ky)=PySem.W.Ky.s ∘ Prod.snd:=rfl
    rw[this,<- map_map,map_snd_zip (by unfold bw;simp)]
   rw[e,pW hn];exact iu PySem.W.Ky.s cs
 rw[<- h1,map_fst_zip (by unfold bw;simp)]
def dN:Wi->Wi
 | .un cs=>.un (sk .s cs)
 | .mn B cs lo hi=>.mn (sk .i B) (sk .s cs) lo hi
 | .sm ts lo hi=>.sm (sk kT ts) lo hi
 | .tb cs rows=>.tb (sk .s cs) (sk .r (rows.map (bw 0 (plc cs))))
 | .wy cs ps es=>.wy cs (sk kP ps) (sk .i es)
 | .bh cs z=>.bh cs z
def dv:Wx->Wx
 | .pl W=>.pl (dN W)
 | .sa c vs W=>.sa c (sk .i vs) (dN W)
def qJ:Wi->Wi->Prop
 | .un cs,.un cs'=>cs'.Perm cs
 | .mn av cs lo hi,.mn av' cs' lo' hi'=>av'.Perm av/\cs'.Perm cs/\lo'=lo/\hi'=hi
 | .sm ts lo hi,.sm ts' lo' hi'=>ts'.Perm ts/\lo'=lo/\hi'=hi
 | .tb cs rows,.tb cs' rows'=>∃pl:List Nat,pl.Perm (range cs.length)/\cs'=bw noS pl cs/\rows'.Perm (rows.map (bw 0 pl))
 | .wy cs ps es,.wy cs' ps' es'=>cs'=cs/\ps'.Perm ps/\es'.Perm es
 | .bh cs gap,.bh cs' gap'=>cs'=cs/\gap'=gap
 | _,_=>False
def wc:Wx->Wx->Prop
 | .pl W,.pl W'=>qJ W W'
 | .sa c vs W,.sa c' vs' W'=>c'=c/\vs'.Perm vs/\qJ W W'
 | _,_=>False
theorem iA : ∀{W:Wi},okW ws ns W->qJ W (dN W)
 | .un cs,_=>bI _ _
 | .mn av cs lo hi,_=>⟨bI _ _,bI _ _,rfl,rfl⟩
 | .sm ts lo hi,_=>⟨bI _ _,rfl,rfl⟩
 | .tb cs rows,h=>⟨plc cs,fP cs,(pW h.1.2.1).symm,bI _ _⟩
 | .wy cs ps es,_=>⟨rfl,bI _ _,bI _ _⟩
 | .bh cs gap,_=>⟨rfl,rfl⟩
theorem jt : ∀{W:Wx},okX ws ns W->wc W (dv W)
 | .pl W,h=>iA (W:=W) h
 | .sa c vs W,h=>⟨rfl,bI _ _,iA h.2.2.1⟩
theorem jX {cs:List Str} (h:okC ws cs) (p:cs'.Perm cs):okC ws cs':=⟨λe=>h.1 (by rw[e] at p;exact p.symm.eq_nil),p.nodup_iff.mpr h.2.1,λc z=>h.2.2.1 c (p.mem_iff.mp z),by rw[p.length_eq];exact h.2.2.2⟩
theorem ul {vs z:List Int} (h:okV ns vs) (p:z.Perm vs):okV ns z:=⟨p.nodup_iff.mpr h.1,λc B=>h.2.1 c (p.mem_iff.mp B),by rw[p.length_eq];exact h.2.2⟩
theorem qY : ∀{W z:Wi},okW ws ns W->qJ W z->okW ws ns z
 | .un cs,.un cs',h,m=>jX h m
 | .mn av cs lo hi,.mn av' cs' lo' hi',h,m=>⟨jX h.1 m.2.1,ul h.2 m.1⟩
 | .sm ts lo hi,.sm ts' lo' hi',h,m=>⟨jX h.1 (m.1.map _),λx F=>h.2 x (m.1.mem_iff.mp F)⟩
 | .tb cs rows,.tb cs' rows',h,⟨pl,hp,e,hr⟩=>by
  subst e;have hl:(bw noS pl cs).length=cs.length:=by unfold bw;rw[length_map,hp.length_eq,length_range]
  have U : ∀r,(bw (0:Int) pl r).length=cs.length:=λr=>by unfold bw;rw[length_map,hp.length_eq,length_range]
  refine⟨jX h.1 (fS noS hp),hr.nodup_iff.mpr ?_,λr B=>?_,by rw[hr.length_eq,length_map];exact h.2.2.2⟩
  .refine pairwise_map.mpr (List.Pairwise.imp_of_mem (λ{a b} ha hb ne e=>ne (zf hp (h.2.2.1 a ha) (h.2.2.1 b hb) e)) h.2.1)
  .obtain⟨r0,_,rfl⟩:=mem_map.mp (hr.mem_iff.mp B)
   rw[hl,U]
 | .wy cs ps es,.wy cs' ps' es',h,⟨e,p,q⟩=>by
  subst e;exact⟨h.1,(p.map _).nodup_iff.mpr h.2.1,by rw[p.length_eq];exact h.2.2.1,by rw[q.length_eq];exact h.2.2.2⟩
 | .bh cs gap,.bh cs' gap',h,m=>by
  obtain⟨rfl,rfl⟩:=m;exact h
theorem yI : ∀{W z:Wi},qJ W z->(fz z).Perm (fz W)
 | .un cs,.un cs',m=>m
 | .mn av cs lo hi,.mn av' cs' lo' hi',m=>m.2.1
 | .sm ts lo hi,.sm ts' lo' hi',m=>m.1.map _
 | .tb cs rows,.tb cs' rows',⟨pl,hp,e,hr⟩=>by subst e;exact fS noS hp
 | .wy cs ps es,.wy cs' ps' es',⟨e,p,q⟩=>by subst e;exact .refl _
 | .bh cs gap,.bh cs' gap',m=>by obtain⟨rfl,rfl⟩:=m;exact .refl _
theorem wV : ∀{W B:Wx},okX ws ns W->wc W B->okX ws ns B
 | .pl W,.pl B,h,m=>qY (W:=W) h m
 | .sa c vs W,.sa c' vs' B,h,⟨e,p,m⟩=>by
  subst e;exact⟨h.1,ul h.2.1 p,qY h.2.2.1 m,λz=>h.2.2.2 ((yI m).mem_iff.mp z)⟩
theorem pV : ∀{W Y:Wi},okW ws ns W->qJ W Y->dN Y=dN W
 | .un cs,.un cs',h,m=>by unfold dN;dsimp only;rw[cJ m (ua cs)]
 | .mn av cs lo hi,.mn av' cs' lo' hi',h,⟨a,b,c,d⟩=>by unfold dN;dsimp only;rw[cJ a (xb av),cJ b (ua cs),c,d]
 | .sm ts lo hi,.sm ts' lo' hi',h,⟨a,c,d⟩=>by unfold dN;dsimp only;rw[cJ a (ni h.1.2.1),c,d]
 | .tb cs rows,.tb cs' rows',h,⟨pl,hp,e,hr⟩=>by
  subst e;unfold dN;dsimp only;have B:=fS noS hp;have hl:(bw noS pl cs).length=cs.length:=B.length_eq
  rw[cJ B (ua cs)];have e2:(rows.map (bw 0 pl)).map (bw 0 (plc (bw noS pl cs)))=rows.map (bw 0 (plc cs)):=by
   rw[map_map];refine map_congr_left λr U=>?_
   have z:=h.2.2.1 r U
   show bw 0 (plc (bw noS pl cs)) (bw 0 pl r)=_
   have F:pl.Perm (range r.length):=by rw[z];exact hp
   rw[sL (B.nodup_iff.mpr h.1.2.1) (by rw[hl,(fS 0 F).length_eq];exact z),sL h.1.2.1 z]
   congr 1
   refine cJ ?_ (ni (si (by omega) h.1.2.1))
   rw[dM];have:=hp.map λi=>(r.getD i 0,cs.getD i noS)
   rw[<- dM,<- dM,<- z,eJ,z,eJ] at this;rw[<- dM];exact this
  rw[cJ (hr.map _) (CQ _),e2]
 | .wy cs ps es,.wy cs' ps' es',h,⟨e,p,q⟩=>by subst e;unfold dN;dsimp only;rw[cJ p (zk ps),cJ q (xb es)]
 | .bh cs gap,.bh cs' gap',h,m=>by obtain⟨rfl,rfl⟩:=m;rfl
theorem oG : ∀{W z:Wx},okX ws ns W->wc W z->dv z=dv W
 | .pl W,.pl z,h,m=>by unfold dv;dsimp only;rw[pV (W:=W) h m]
 | .sa c vs W,.sa c' vs' z,h,⟨e,p,m⟩=>by subst e;unfold dv;dsimp only;rw[pV h.2.2.1 m,cJ p (xb vs)]
def mT:Sp:=λvs H Q _=>∃(p:Addr) (zs:List (V × PySem.W.Ky)),vs=[.ref p]/\(H p=some (.lst (zs.map (·.1)))\/H p=some (.tup (zs.map (·.1))))/\zs.length<=60/\(∀z∈zs,KyV H z.1 z.2)/\(∃t:Nat,∀z∈zs,z.2.tag=t/\z.2≠.r []) /\
 ∀(r:Addr) (B:List (V × PySem.W.Ky)) (H':Hp),am H H'->B.Perm zs->(B.map (·.2)).Pairwise PySem.W.Ky.le->H' r=some (.tup (B.map (·.1)))->Q (.ref r) H'
def Ent (H:Hp) (e:Addr × V × PySem.W.Ky):Prop:=∃kv,H e.1=some (.tup [kv,e.2.1])/\KyV H kv e.2.2
theorem Ent.keep {e:Addr × V × PySem.W.Ky} (h:Ent H e) (k : ∀a xs,H a=some (.tup xs)->H' a=some (.tup xs)):Ent H' e:=by
 obtain⟨kv,h1,h2⟩:=h;refine⟨kv,k _ _ h1,?_⟩
 obtain⟨a,v,y⟩:=e;cases y with
 | s x=>exact h2
 | i x=>exact h2
 | r l=>obtain⟨b,e1,e2⟩:=h2;exact⟨b,e1,k _ _ e2⟩
def Gs:Sp:=λvs H Q _=>∃(p:Addr) (x kv:V) (k:PySem.W.Ky) (es:List (Addr × V × PySem.W.Ky)),vs=[.ref p,x,kv]/\H p=some (.lst (es.map λe=>V.ref e.1))/\es.length<=60/\(∀e∈es,Ent H e)/\KyV H kv k/\(∀e∈es,e.2.2.tag=k.tag)/\(es.map (·.2.2)).Pairwise PySem.W.Ky.le /\
 ∀(z:List (Addr × V × PySem.W.Ky)) (H':Hp),(∀b o,b≠p->H b=some o->H' b=some o)->H' p=some (.lst (z.map λe=>V.ref e.1))->(∀e∈z,Ent H' e)->(z.map (·.2)).Perm ((x,k) :: es.map (·.2))->(z.map (·.2.2)).Pairwise PySem.W.Ky.le->Q .non H'
def Hf:Sp:=λvs H Q _=>∃(a b:Addr) (zs:List (V × PySem.W.Ky)) (kvs:List V),vs=[.ref a,.ref b]/\H a=some (.lst (zs.map (·.1)))/\H b=some (.lst kvs)/\kvs.length=zs.length/\(∀(i:Nat) v z,kvs[i]? = some v->zs[i]? = some z->KyV H v z.2)/\zs.length<=60/\(∃t:Nat,∀z∈zs,z.2.tag=t) /\
 ∀(r:Addr) (B:List (V × PySem.W.Ky)) (H':Hp),am H H'->B.Perm zs->(B.map (·.2)).Pairwise PySem.W.Ky.le->H' r=some (.lst (B.map (·.1)))->Q (.ref r) H'
abbrev Bl:=Fn P w K mg base "in_order" 1 ["things"] (mT)
theorem sY (T:Txt w K mg base) (L:FnL K mg "in_order" jp ["things"]) : @Bl P w K mg base:=by
 ctx_has z uy <;> obtain⟨p,zs,rfl,Y,hl,Z,ht,k⟩:=h
 .rfl
 refine⟨_,(ai (aB (aF aO T.b_tuple (aa (aE jf T.b_sorted (aa (pvM 0) ac)) ac)))),?_⟩
 ctx_has v Ad
 refine⟨zs,Y,by omega,Z,ht,λq U hq F B=>⟨_,ab,λr hr=>?_⟩⟩
 exact k r U _ ((am.upd0 hq).upd_new hr) F B ab
abbrev Hv:=Fn P w K mg base "_law_insert" 1 ["_law_found","_law_thing","_law_key"] (Gs)
theorem no (T:Txt w K mg base) (L:FnL K mg "_law_insert" fh ["_law_found","_law_thing","_law_key"]) : @Hv P w K mg base:=by
 ctx_has z oz <;> obtain⟨p,x,kv,y,es,rfl,hp,hl,he,ah,aw,ak,k⟩:=h
 .rfl
 refine⟨_,(af (az 3 ae)
  (af (im PassesOwn.never (PW.pt (fK (ay CO (pvM 3) (aE bo T.b_len (aa (pvM 0) ac))) (eS (ay (EC hu) (ao sO (ao fC (pvM 0) (pvM 3)) ae) (pvM 2))))) (ai (az 3 (aN bz (pvM 3) ae))))
  (ai (bY (eL PySem.F.slot_list_insert PySem.F.type_list_insert yr (pvM 0) (aa (pvM 3) (aa (aI (aa (pvM 2) (aa (pvM 1) ac))) ac))))))),?_⟩
 dsimp only [fL,xf,vB,tC,dW,BX,iQ,uI,L2.gh,List.map,List.append_eq,length_cons,length_nil,replicate,cons_append,nil_append,Nat.reduceAdd,Nat.reduceSub,List.set,List.set_cons_zero,List.set_cons_succ];refine gL (λμ σ H'=>∃i:Nat,σ=[some (.ref p),some x,some kv,some (.int i)]/\H'=H/\i<=es.length/\(∀(j:Nat) e,j < i->es[j]? = some e->PySem.W.Ky.le e.2.2 y)/\μ=es.length - i)
  (λσ H'=>∃i:Nat,σ=[some (.ref p),some x,some kv,some (.int i)]/\H'=H/\i<=es.length/\(∀(j:Nat) e,j < i->es[j]? = some e->PySem.W.Ky.le e.2.2 y)/\(∀e,es[i]? = some e->¬ PySem.W.Ky.le e.2.2 y))
  ⟨_,0,rfl,rfl,zero_le _,λj e hj=>by omega,rfl⟩ ?_ ?_
 .rintro R hR μ σ H ⟨i,rfl,rfl,hi,hle,rfl⟩
  ctx_has v hp GK
  refine cG (λh1=>?_) (λh1=>?_)
  .have ad:i < es.length:=by rw[length_map] at h1;omega
   obtain⟨⟨ea,ev,ek⟩,B⟩ : ∃e,es[i]? = some e:=⟨_,List.getElem?_eq_getElem ad⟩;obtain⟨a0,e1,e2⟩:=he _ (mem_of_getElem? B);refine⟨_,aM (by rw[List.getElem?_map,B];rfl),ea,rfl,_,e1,_,aM (j:=0) rfl,ek,e2,y,ah,aw _ (mem_of_getElem? B),?_⟩
   refine cG (λh2=>?_) (λh2=>?_)
   .refine⟨λσ' H'=>σ'=[some (.ref p),some x,some kv,some (.int ((i:Int)+1))]/\H'=H,?_,rfl,rfl⟩
    rintro _ _ ⟨rfl,rfl⟩
    refine⟨es.length - (i+1),by omega,i+1,by simp,rfl,by omega,λj e hj Z=>?_,rfl⟩
    by_cases au:j=i
    .subst au
     rw[B] at Z;cases Z;exact h2
    .exact hle j e (by omega) Z
   .refine hR _ _ ⟨i,rfl,rfl,hi,hle,λe ee=>?_⟩
    rw[B] at ee;cases ee;exact h2
  .refine hR _ _ ⟨i,rfl,rfl,hi,hle,λe ee=>?_⟩
   have:=(List.getElem?_eq_some_iff.mp ee).1
   rw[length_map] at h1;omega
 .rintro σ H ⟨i,rfl,rfl,hi,hle,hno⟩
  ctx_has v hp
  refine⟨by decide,λt ht=>?_⟩
  have aq:p≠t:=aj hp ht
  have s1:=am.upd0 (o:=.tup [kv,x]) ht;refine⟨_,s1 _ _ hp,by omega,by rw[length_map];omega,by rw[length_map];exact ax (by omega),?_⟩
  have ap : ∀e∈es.drop i,PySem.W.Ky.le y e.2.2:=λe Y=>by
   obtain⟨j,hj,Z⟩:=List.getElem_of_mem Y;rw[List.getElem_drop] at Z;have ad:i < es.length:=by rw[length_drop] at hj;omega
   have h1:=PySem.W.Ky.le_of_not (hno _ (List.getElem?_eq_getElem ad))
   by_cases av:j=0
   .subst av
    rw[<- Z];exact h1
   .have h2:=List.pairwise_iff_getElem.mp (pairwise_map.mp ak) i (i+j) ad (by rw[length_drop] at hj;omega) (by omega)
    rw[Z] at h2;exact PySem.W.Ky.le_trans h1 h2
  have an : ∀e∈es.take i,PySem.W.Ky.le e.2.2 y:=λe Y=>by
   obtain⟨j,hj,Z⟩:=List.getElem_of_mem Y;rw[length_take] at hj;rw[List.getElem_take] at Z;exact hle j e (by omega) (by rw[List.getElem?_eq_getElem (by omega),Z])
  have kp : ∀b o,b≠p->H b=some o->upd (upd H t (.tup [kv,x])) p (.lst ((es.map λe=>V.ref e.1).take ((i:Int)).toNat++V.ref t ::(es.map λe=>V.ref e.1).drop ((i:Int)).toNat)) b=some o:=λb o hb e=>by rw[ag hb];exact s1 _ _ e
  have U : ∀a xs,H a=some (.tup xs)->upd (upd H t (.tup [kv,x])) p (.lst ((es.map λe=>V.ref e.1).take ((i:Int)).toNat++V.ref t ::(es.map λe=>V.ref e.1).drop ((i:Int)).toNat)) a=some (.tup xs):=λa xs e=>kp _ _ (aX e hp (by intro z;cases z)) e
  have hE:Ent (upd (upd H t (.tup [kv,x])) p (.lst ((es.map λe=>V.ref e.1).take ((i:Int)).toNat++V.ref t ::(es.map λe=>V.ref e.1).drop ((i:Int)).toNat))) (t,x,y):=by
   refine⟨kv,by rw[ag aq.symm,ab],?_⟩
   cases y with
   | s z=>exact ah
   | i z=>exact ah
   | r l=>obtain⟨c,c1,c2⟩:=ah;exact⟨c,c1,U _ _ c2⟩
  refine k (es.take i++(t,x,y) :: es.drop i) _ kp ?_ (λe Y=>?_) ?_ ?_
  .rw[ab,map_append,map_cons,map_take,map_drop]
   simp
  .rcases mem_append.mp Y with z | z
   .exact(he e (mem_of_mem_take z)).keep U
   .rcases mem_cons.mp z with rfl | z
    .exact hE
    .exact(he e (List.mem_of_mem_drop z)).keep U
  .rw[map_append,map_cons]
   refine perm_middle.trans ?_
   rw[<- map_append,List.take_append_drop]
  .rw[pairwise_map,List.pairwise_append]
   refine⟨(pairwise_map.mp ak).sublist (take_sublist _ _),pairwise_cons.mpr ⟨λe Y=>ap e Y,(pairwise_map.mp ak).sublist (List.drop_sublist _ _)⟩,λe Y e' ar=>?_⟩
   rcases mem_cons.mp ar with rfl | z
   .exact an e Y
   .exact PySem.W.Ky.le_trans (an e Y) (ap e' z)
abbrev Eg:=Fn P w K mg base "_law_by_key" 2 ["_law_things","_law_keys"] (Hf)
theorem oh (T:Txt w K mg base) (L:FnL K mg "_law_by_key" dz ["_law_things","_law_keys"]) (FM : @Hv P w K mg base) : @Eg P w K mg base:=by
 ctx_has z mW <;> obtain⟨a,b,zs,kvs,rfl,ha,hb,a0,av,hl,⟨tg,an⟩,k⟩:=h
 .rfl
 refine⟨_,(af (az 2 (bx ac))
  (af (bC (cb rfl T.b_range (aa (aE bo T.b_len (aa (pvM 0) ac)) ac)) (aA 3) (ai (bY (ah FM (aa (pvM 2) (aa (ao fC (pvM 0) (pvM 3)) (aa (ao fC (pvM 1) (pvM 3)) ac)))))))
  (ai (aB (aZ (N:=["_law_key","_law_thing"]) (nt:=2) (js:=[]) (aH ["_law_things","_law_keys","_law_found","_law_k"] (ak dz).names) (dr (K:=K) rfl (pvM 2)) (de (n:=2) rfl (aW (aA 0) (aW (aA 1) cO))) cT aV (pvM 1)))))),?_⟩
 ctx_has v ha
 refine⟨le_of_lt (ax (by simp)),λp hp=>?_⟩
 have s1:=am.upd0 (o:=.lst []) hp;refine⟨_,s1 _ _ ha,by omega,by rw[length_map];omega,?_⟩
 rw[show((((zs.map (·.1)).length:Nat):Int)).toNat=zs.length by simp]
 refine bR bQ (λi σ H'=>∃(v:Option V) (es:List (Addr × V × PySem.W.Ky)),σ=[some (.ref a),some (.ref b),some (.ref p),v]/\H' p=some (.lst (es.map λe=>V.ref e.1))/\(∀e∈es,Ent H' e)/\(es.map (·.2)).Perm (zs.take i)/\(es.map (·.2.2)).Pairwise PySem.W.Ky.le/\am H H')
  ⟨none,[],rfl,ab,by simp,by simp,by simp,s1⟩ (λ_ _ _ _=>True.intro) ?_ ?_
 .rintro i x σ H2 hi hx ⟨v,es,rfl,h2p,he,hpm,hso,s2⟩
  rw[aJ] at hi;rw[gb hi] at hx;cases hx;have ap:=s2 _ _ ha;have aq:=s2 _ _ hb;have B:zs[i]? = some zs[i]:=List.getElem?_eq_getElem hi
  have U:kvs[i]? = some kvs[i]:=List.getElem?_eq_getElem (by omega)
  have Z:es.length<=60:=by have:=hpm.length_eq;rw[length_map,length_take] at this;omega
  have e1:atI (zs.map (·.1)) ((0:Int)+i)=some zs[i].1:=by rw[Int.zero_add];exact aM (by rw[List.getElem?_map,B];rfl)
  have e2:atI kvs ((0:Int)+i)=some kvs[i]:=by rw[Int.zero_add];exact aM U
  ctx_has v ap aq e1 e2
  refine⟨p,_,_,zs[i].2,es,rfl,h2p,Z,he,(av i _ _ U B).same s2,λe hm=>?_,hso,λar H3 kp aw au ad ae=>⟨ar,aw,au,?_,ae,λb' o e=>kp b' o (aj e hp) (s2 _ _ e)⟩⟩
  .rw[an zs[i] (List.getElem_mem hi),an e.2 (mem_of_mem_take (hpm.mem_iff.mp (mem_map.mpr ⟨e,hm,rfl⟩)))]
  .refine ad.trans ?_
   rw[take_add_one,B];exact(hpm.cons _).trans (List.perm_append_comm (l₁:=[zs[i]]))
 .rintro σ H2 ⟨v,es,rfl,h2p,he,hpm,hso,s2⟩
  rw[aJ,take_length] at hpm;have Z:es.length<=60:=by have:=hpm.length_eq;rw[length_map] at this;omega
  ctx_has v h2p
  intro D hD;refine cD bB (λi ys H'=>ys=(es.take i).map (·.2.1)/\H' D=some (.lst ys)/\am H2 H') ⟨by simp,ab,am.upd0 hD⟩ (λi ys H' Y=>by obtain⟨_,_,s⟩:=Y;exact(.of (s _ _ h2p))) ?_ ?_
  .rintro i x ys H3 hi hx ⟨rfl,h3D,s3⟩
   rw[length_map] at hi;have F:es[i]? = some es[i]:=List.getElem?_eq_getElem hi
   rw[List.getElem?_map,F] at hx;cases hx;obtain⟨ay,e1,e2⟩:=(he es[i] (List.getElem_mem hi)).keep λa xs e=>s3 _ _ e
   ctx_has v e1
   refine⟨h3D,by simp;exact ax (by omega),?_,ab,λb' o e=>by rw[ag (aj e hD)];exact s3 _ _ e⟩
   rw[take_add_one,F,map_append];rfl
  .rintro ys H3 ⟨rfl,h3D,s3⟩
   rw[length_map,take_length] at h3D;refine k D (es.map (·.2)) H3 (s2.trans s3) hpm ?_ ?_
   .rw[map_map];exact hso
   .rw[map_map];exact h3D
abbrev DT:=Fn P w K mg base "_law_rising" 3 ["_law_things"] (mT)
theorem nY (T:Txt w K mg base) (L:FnL K mg "_law_rising" fG ["_law_things"]) (Fj : @Eg P w K mg base) : @DT P w K mg base:=by
 ctx_has z nK <;> obtain⟨p,zs,rfl,hp,hl,hk,ht,k⟩:=h
 .rfl
 refine⟨_,(ai (aB (aF aO T.b_tuple (aa (ah Fj (aa (aF je T.b_list (aa (pvM 0) ac)) (aa (aF je T.b_list (aa (pvM 0) ac)) ac))) ac)))),?_⟩
 ctx_has v qV
 have B:vL H p (zs.map (·.1)):=hp
 refine⟨_,B,λl1 h1=>?_⟩
 have Y:=am.upd0 (o:=.lst (zs.map (·.1))) h1;refine⟨_,B.imp (λe=>Y _ _ e) (λe=>Y _ _ e),λl2 h2=>?_⟩
 have s2:=Y.upd_new (o:=.lst (zs.map (·.1))) h2;have Z:l1≠l2:=λz=>by rw[<- z,ab] at h2;cases h2
 refine⟨l1,l2,zs,zs.map (·.1),rfl,by rw[ag Z,ab],ab,by simp,λi v z e1 e2=>?_,hl,?_,λr ad H3 s3 U ae F=>⟨r,rfl,_,F,λq B=>?_⟩⟩
 .rw[List.getElem?_map,e2] at e1
  cases e1;exact(hk z (mem_of_getElem? e2)).same s2
 .obtain⟨tg,h⟩:=ht
  exact⟨tg,λz hz=>(h z hz).1⟩
 .exact k q ad _ ((s2.trans s3).upd_new B) U ae ab
theorem bq {F:α->β} {zs m:List β} (h:zs.Perm m) : ∀{l:List α},m=l.map F->∃z:List α,z.Perm l/\zs=z.map F:=by
 induction h with
 | nil =>
  intro l e;cases l with
  | nil=>exact⟨[],.refl _,rfl⟩
  | cons a l=>cases e
 | cons x h Y =>
  intro l e;cases l with
  | nil=>cases e
  | cons a l =>
   obtain⟨e1,e2⟩:=List.cons.inj e;obtain⟨z,h1,h2⟩:=Y e2;exact⟨a :: z,h1.cons a,by rw[e1,h2];rfl⟩
 | swap x y m =>
  intro l e;cases l with
  | nil=>cases e
  | cons a l =>
   cases l with
   | nil=>cases (List.cons.inj e).2
   | cons b l =>
    obtain⟨e1,e2⟩:=List.cons.inj e;obtain⟨e2,e3⟩:=List.cons.inj e2;exact⟨b :: a :: l,.swap _ _ _,by rw[e1,e2,e3];rfl⟩
 | trans _ _ U B =>
  intro l e;obtain⟨l2,h1,h2⟩:=B e;obtain⟨l3,h3,Z⟩:=U h2;exact⟨l3,h3.trans h1,Z⟩
theorem zR (h:α->β) (g:β->PySem.W.Ky) {l:List α} (hi : ∀a∈l.map h,∀b∈l.map h,g a=g b->a=b):(sk (λa=>g (h a)) l).map h=sk g (l.map h) :=
 el ((bI _ l).map h) (by rw[map_map];exact iu (λa=>g (h a)) l) hi
theorem qF {p:Addr} {l:List α} {Q:VK} {E:XK} (F:α->V) (f:α->PySem.W.Ky) (hp:H p=some (.lst (l.map F))\/H p=some (.tup (l.map F))) (hl:l.length<=60) (hk : ∀a∈l,KyV H (F a) (f a)) (ht : ∃t:Nat,∀a∈l,(f a).tag=t/\f a≠.r [])
  (hi : ∀a∈l,∀b∈l,f a=f b->a=b) (q : ∀r H',am H H'->H' r=some (.tup ((sk f l).map F))->Q (.ref r) H'):mT [.ref p] H Q E:=by
 refine⟨p,l.map λa=>(F a,f a),rfl,by rw[map_map];exact hp,by simpa using hl,λz hz=>?_,?_,λr aa H' s Y B Z=>?_⟩
 .obtain⟨a,U,rfl⟩:=mem_map.mp hz
  exact hk a U
 .obtain⟨t,h⟩:=ht
  refine⟨t,λz hz=>?_⟩
  obtain⟨a,U,rfl⟩:=mem_map.mp hz;exact h a U
 .obtain⟨l',h1,rfl⟩:=bq Y rfl
  rw[map_map] at B Z;have e:l'=sk f l:=el h1 B hi
  rw[e] at Z;exact q r H' s Z
theorem iz {p:Addr} {cs:List Str} {Q:VK} {E:XK} (B:H p=some (.tup (cs.map V.str))) (hl:cs.length<=60) (q : ∀r H',am H H'->H' r=some (.tup ((sk .s cs).map V.str))->Q (.ref r) H'):mT [.ref p] H Q E :=
 qF V.str .s (.inr B) hl (λ_ _=>rfl) ⟨0,λ_ _=>⟨rfl,λz=>nomatch z⟩⟩ (ua cs) q
theorem ix {p:Addr} {cs:List Int} {Q:VK} {E:XK} (B:H p=some (.tup (cs.map V.int))) (hl:cs.length<=60) (q : ∀r H',am H H'->H' r=some (.tup ((sk .i cs).map V.int))->Q (.ref r) H'):mT [.ref p] H Q E :=
 qF V.int .i (.inr B) hl (λ_ _=>rfl) ⟨1,λ_ _=>⟨rfl,λz=>nomatch z⟩⟩ (xb cs) q
theorem uJ {p:Addr} {as:List (Addr × List Int)} {Q:VK} {E:XK} (Z:H p=some (.lst (as.map λx=>V.ref x.1))\/H p=some (.tup (as.map λx=>V.ref x.1))) (hl:as.length<=60) (U : ∀x∈as,H x.1=some (.tup (x.2.map V.int)))
  (hn:(as.map (·.2)).Nodup) (Y : ∀x∈as,x.2≠[]) (q : ∀r vs H',am H H'->H' r=some (.tup vs)->dn H' vs (sk .r (as.map (·.2)))->Q (.ref r) H'):mT [.ref p] H Q E :=
 qF (λx=>V.ref x.1) (λx=>.r x.2) Z hl (λx B=>⟨x.1,rfl,U x B⟩) ⟨2,λx B=>⟨rfl,λz=>Y x B (by injection z)⟩⟩ (λa ha b hb e=>lW hn ha hb (by injection e))
  λr H' s F=>q r _ H' s F ⟨sk (λx=>.r x.2) as,rfl,(zR (λx:Addr × List Int=>x.2) .r (CQ _)).symm,λx B=>s _ _ (U x ((bI _ as).mem_iff.mp B))⟩
theorem qy {p:Addr} {Q:VK} {E:XK} (hp:H p=some (.tup (as.map λx=>V.ref x.1))) (hl:as.length<=60) (Z : ∀x∈as,H x.1=some (.tup [.int x.2.1,.int x.2.2.1,.int x.2.2.2]))
  (hn:(as.map (·.2)).Nodup) (q : ∀r vs H',am H H'->H' r=some (.tup vs)->jJ H' vs (sk kP (as.map (·.2)))->Q (.ref r) H'):mT [.ref p] H Q E :=
 qF (λx:Addr × Int × Int × Int=>V.ref x.1) (λx=>kP x.2) (.inr hp) hl (λx B=>(⟨x.1,rfl,Z x B⟩ : ∃a,V.ref x.1 = .ref a/\H a=some (.tup ([x.2.1,x.2.2.1,x.2.2.2].map V.int)))) ⟨2,λx B=>⟨rfl,λz=>by unfold kP at z;injection z with z;cases z⟩⟩ (λa U b Y e=>lW hn U Y (zk (as.map (·.2)) _ (mem_map.mpr ⟨a,U,rfl⟩) _ (mem_map.mpr ⟨b,Y,rfl⟩) e))
  λr H' s F=>q r _ H' s F ⟨sk (λx=>kP x.2) as,rfl,zR (λx:Addr × Int × Int × Int=>x.2) kP (zk _),λx B=>s _ _ (Z x ((bI _ as).mem_iff.mp B))⟩
theorem qd {f:α->β} {l:List α} (h:(l.map f).Nodup):l.Nodup:=(pairwise_map.mp h).imp λne e=>ne (by rw[e])
def bP (H:Hp):Prop:=lq tabs H
theorem bP.same (h:bP H) (e:am H H'):bP H':=λt z=>e _ _ (h t z)
theorem bP.t1 (h:bP H):H 133=some (.tab (qL "plain_table")):=h (135,133,qL "plain_table") (by simp[tabs])
theorem bP.t2 (h:bP H):H 138=some (.tab (qL "plain_form")):=h (142,138,qL "plain_form") (by simp[tabs])
def GV:Sp:=λvs H Q _=>∃(w:Addr) (ws cs:List Str) (ns:List Int) (rows:List (List Int)),vs=[.ref w]/\bP H/\WS H w (.tb cs rows)/\okW ws ns (.tb cs rows)/\∀r H',am H H'->WS H' r (dN (.tb cs rows))->Q (.ref r) H'
def A9:Sp:=λvs H Q _=>∃(w:Addr) (ws:List Str) (ns:List Int) (W:Wi),vs=[.ref w]/\bP H/\WS H w W/\okW ws ns W/\∀r H',am H H'->WS H' r (dN W)->Q (.ref r) H'
def xJ:Sp:=λvs H Q _=>∃(w:Addr) (ws:List Str) (ns:List Int) (c:Str) (us:List Int) (W:Wi),vs=[.ref w]/\bP H/\WX H w (.sa c us W)/\okX ws ns (.sa c us W)/\∀r H',am H H'->WX H' r (dv (.sa c us W))->Q (.ref r) H'
theorem nN (T:Txt w K mg base) (L:sP K mg "plain_table" bO ["wish"] 133) (Ff : @Bl P w K mg base):Fn P w K mg base "plain_table" 2 ["wish"] (GV):=by
 have nd:=gM.nd;refine L.ok gM (λvs H Q E h=>?_) (λf c hc A outer s H vs Q E hr h=>?_) <;> obtain⟨w,ws,cs,ns,rows,rfl,tb,hW,B,k⟩:=h
 .rfl
 have hu:=ue hr;refine⟨_,(af (az 1 (Ae (pt:=133) (q:=qL "plain_table") (j:=0) hr rfl rfl T.b_sorted rfl T.b_range (aa (aE bZ T.b_len (aa (ao ap (pvM 0) ae) ac)) ac) rfl hc T.bm rfl rfl rfl rfl rfl rfl rfl (λ_ _ _ _=>rfl) rfl rfl rfl rfl rfl (by decide+kernel) (by decide) (by decide) (by decide) (λ_ _=>rfl) (λ_ _=>rfl)))
  (af (cH 2 (N:=["row","places"]) (nt:=1) (js:=[1]) (aH ["wish","places","rows"] (ak bO).names) (cX K (ao ap (pvM 0) ae)) (aA 0) aP aV (aF aO T.b_tuple (aa (aZ (N:=["place","row"]) (nt:=1) (js:=[0]) (aH ["row","places"] (GQ (ak bO).kind (ak bO).names _)) (dr (K:=K) rfl (pvM 1)) (aA 0) aP aV (ao sO (pvM 1) (pvM 0))) ac)))
  (ai (aB (aI (aa au (aa (ah Ff (aa (ao ap (pvM 0) ae) ac)) (aa (ah Ff (aa (pvM 2) ac)) ac)))))))),?_⟩
 obtain⟨c,t,vs,h1,h2,h3,as,rfl,rfl,h4⟩:=hW;ctx_has v h1 h2 zX
 have aJ:cs.length<=12:=B.1.2.2.2
 have a5:cs.Nodup:=B.1.2.1
 have aK:as.length<=7:=by have:=B.2.2.2;rw[length_map] at this;exact this
 refine⟨cs,rfl,by simp,by omega,tb.t1,λH2 r ad s2 a4 a0 a1=>?_⟩
 have ez:ad=sk kT ((range cs.length).zip cs):=el a0 a1 (ni (si (by simp) a5))
 have a7:ad.map (λz=>V.int z.1)=(plc cs).map λi:Nat=>V.int i:=by rw[ez];unfold plc;rw[map_map];rfl
 rw[a7];have Z:=s2.upd_new (o:=.lst ((plc cs).map λi:Nat=>V.int i)) a4
 have av:upd H2 r (.lst ((plc cs).map λi:Nat=>V.int i)) r=some (.lst ((plc cs).map λi:Nat=>V.int i)):=ab
 generalize upd H2 r (.lst ((plc cs).map λi:Nat=>V.int i))=H3 at Z av ⊢
 have aq:(plc cs).length=cs.length:=by rw[(fP cs).length_eq,length_range]
 refine⟨_,Z _ _ h1,_,aM (j:=2) rfl,t,rfl,_,Z _ _ h3,λD hD=>?_⟩
 refine di ba (f:=λx:Addr × List Int=>bw 0 (plc cs) x.2) (c:=λr:List Int=>r.map V.int) hD (λH' s=>.of (s _ _ (Z _ _ h3))) (by omega) ?_ ?_
 .intro z hz H4 Q4 s4 q4
  have aj:=s4 _ _ av;have aC:=s4 _ _ (Z _ _ (h4 z hz));have a8:z.2.length=cs.length:=B.2.2.1 z.2 (mem_map.mpr ⟨z,hz,rfl⟩)
  ctx_has v aj
  intro D2 aw;refine cA bB (λv=>match v with | .int i=>.int (z.2.getD i.toNat 0) | _=>.non) aw (λH' s=>.of (s _ _ aj)) (by rw[length_map];omega) ?_ ?_
  .intro x H5 Q5 hx U q5
   obtain⟨i,hi,rfl⟩:=mem_map.mp hx;have an:i < z.2.length:=by rw[a8];exact mem_range.mp ((fP cs).mem_iff.mp hi)
   have ax:=U _ _ aC;ctx_has v ax
   refine⟨_,aM (by rw[List.getElem?_map,List.getElem?_eq_getElem an];rfl),?_⟩
   have:=q5 H5 (am.refl _)
   simpa [getD_eq_getElem?_getD,an] using this
  .intro H5 U h5
   ctx_has v h5
   intro t' a3;refine q4 t' _ (U.upd_new a3) ?_
   rw[ab];unfold bw;rw[map_map,map_map];rfl
 .intro bs H4 hbs hbt s4 h4D
  have Y:=Z.trans s4;refine⟨_,Y _ _ h1,_,aM (j:=1) rfl,?_⟩
  refine iz (Y _ _ h2) (by omega) λr2 H5 U a6=>?_
  have ag:=qY B (iA B);have F:bs.map (·.2)=(as.map (·.2)).map (bw 0 (plc cs)):=by rw[hbs,map_map];rfl
  have a9:bs.length<=60:=by have:=congrArg List.length hbs;rw[length_map,length_map] at this;omega
  have ay:(bs.map (·.2)).Nodup:=by rw[F];exact(bI _ _).nodup_iff.mp ag.2.1
  refine uJ (.inl (U _ _ h4D)) a9 (λx hx=>U _ _ (hbt x hx)) ay (λx hx e=>?_) λr3 vs H6 s6 a2 ar=>⟨by decide,λw' aG=>?_⟩
  .have:x.2∈bs.map (·.2):=mem_map.mpr ⟨x,hx,rfl⟩
   rw[F,e] at this;obtain⟨r0,_,e0⟩:=mem_map.mp this;have aD:=B.1.1;unfold bw at e0;rw[map_eq_nil_iff] at e0;rw[e0] at aq;exact aD (length_eq_zero_iff.mp aq.symm)
  .have s7:=am.upd0 (o:=.tup [V.str "table",V.ref r2,V.ref r3]) aG
   refine k w' _ (((Y.trans U).trans s6).trans s7) ⟨r2,r3,vs,ab,s7 _ _ (s6 _ _ a6),s7 _ _ a2,?_⟩
   rw[F] at ar;exact ar.keep λa xs e=>s7 _ _ e
abbrev Bq:=Fn P w K mg base "plain_form" 3 ["wish"] (A9)
theorem mR (T:Txt w K mg base) (L:sP K mg "plain_form" cY ["wish"] 138) (Ff : @Bl P w K mg base) (FL:Fn P w K mg base "plain_table" 2 ["wish"] (GV)) : @Bq P w K mg base:=by
 have nd:=dB.nd;refine L.ok dB (λvs H Q E h=>?_) (λf c hc A outer s H vs Q E hr h=>?_) <;> obtain⟨w,ws,ns,W,rfl,tb,hW,B,k⟩:=h
 .rfl
 have hu:=ue hr;refine⟨_,(af (aK (ay aT (ao ap (pvM 0) ae) au) (ai (aB (aI (aa au (aa (ah Ff (aa (ao ap (pvM 0) ae) ac)) ac))))) aD)
  (af (aK (ay aT (ao ap (pvM 0) ae) au) (ai (aB (aI (aa au (aa (ah Ff (aa (ao ap (pvM 0) ae) ac)) (aa (ah Ff (aa (ao ap (pvM 0) ae) ac)) (aa (ao ap (pvM 0) ae) (aa (ao ap (pvM 0) ae) ac)))))))) aD)
  (af (aK (ay aT (ao ap (pvM 0) ae) au) (ai (aB (aI (aa au (aa (aF aO T.b_tuple (aa (Aa (pt:=138) (q:=qL "plain_form") hr rfl T.b_sorted (ao ap (pvM 0) ae) rfl hc T.bm rfl rfl rfl (λ_ _ _ _=>rfl) rfl rfl rfl rfl (by decide+kernel) (by decide) (λ_ _=>rfl)) ac)) (aa (ao ap (pvM 0) ae) (aa (ao ap (pvM 0) ae) ac))))))) aD)
  (af (aK (ay aT (ao ap (pvM 0) ae) au) (ai (aB (ah FL (aa (pvM 0) ac)))) aD)
  (af (aK (ay aT (ao ap (pvM 0) ae) au) (ai (aB (aI (aa au (aa (ao ap (pvM 0) ae) (aa (ah Ff (aa (ao ap (pvM 0) ae) ac)) (aa (ah Ff (aa (ao ap (pvM 0) ae) ac)) ac))))))) aD)
  (af (aK (ay aT (ao ap (pvM 0) ae) au) (ai aL) aD)
  (ai (aB (pvM 0))))))))),?_⟩
 cases W with
 | un cs =>
  obtain⟨c,h1,h2⟩:=hW;have aq:cs.length<=12:=B.2.2.2
  refine aw λR hR=>?_
  ctx_has v h1
  refine iz h2 (by omega) λr H1 Z U=>⟨by decide,λw' Y=>?_⟩
  have F:=am.upd0 (o:=.tup [V.str "unlike",V.ref r]) Y;exact k w' _ (Z.trans F) ⟨r,ab,F _ _ U⟩
 | mn av cs lo hi =>
  obtain⟨a,c,h1,h2,h3⟩:=hW;have aq:cs.length<=12:=B.1.2.2.2
  have a3:av.length<=20:=B.2.2.2
  ctx_has s h1;refine aw λR hR=>?_
  ctx_has v h1
  refine ix h2 (by omega) λr H1 Z U=>?_
  have ad:=Z _ _ h1;ctx_has v ad
  refine iz (Z _ _ h3) (by omega) λr2 H2 F ag=>?_
  have an:=F _ _ ad;ctx_has v an
  refine⟨by decide,λw' Y=>?_⟩
  have s3:=am.upd0 (o:=.tup [V.str "many",V.ref r,V.ref r2,V.int lo,V.int hi]) Y;exact k w' _ ((Z.trans F).trans s3) ⟨r,r2,ab,s3 _ _ (F _ _ U),s3 _ _ ag⟩
 | sm ts lo hi =>
  obtain⟨t,h1,as,h2,rfl,h3⟩:=hW;have a4:as.length<=12:=by have:=B.1.2.2.2;rw[length_map,length_map] at this;exact this
  ctx_has s h1;ctx_has s h1;refine aw λR hR=>?_
  ctx_has v h1 zI
  refine⟨as.map λx=>(V.ref x.1,x.2.2),by rw[map_map];exact h2,by rw[length_map];omega,tb.t2,λz hz=>?_,λH2 r a5 F a1 ar aj=>⟨_,ab,λl hl=>?_⟩⟩
  .obtain⟨x,hx,rfl⟩:=mem_map.mp hz
   exact⟨x.1,rfl,_,h3 x hx,aM (j:=1) rfl⟩
  .obtain⟨as',hp',rfl⟩:=bq ar rfl
   rw[map_map] at aj;have hT:as'.map (·.2)=sk kT (as.map (·.2)):=el (hp'.map _) (by rw[map_map];exact aj) (ni B.1.2.1)
   have s4:=(F.upd_new a1).upd_new (o:=.tup ((as'.map λx=>(V.ref x.1,x.2.2)).map λx=>x.1)) hl
   have ak:upd (upd H2 r (.lst ((as'.map λx=>(V.ref x.1,x.2.2)).map λx=>x.1))) l (.tup ((as'.map λx=>(V.ref x.1,x.2.2)).map λx=>x.1)) l=some (.tup (as'.map λx=>V.ref x.1)):=by rw[ab,map_map];rfl
   generalize upd (upd H2 r (.lst ((as'.map λx=>(V.ref x.1,x.2.2)).map λx=>x.1))) l (.tup ((as'.map λx=>(V.ref x.1,x.2.2)).map λx=>x.1))=H4 at s4 ak ⊢
   refine⟨_,s4 _ _ h1,_,aM (j:=2) rfl,_,s4 _ _ h1,_,aM (j:=3) rfl,by decide,λp hp=>?_⟩
   have s5:=am.upd0 (o:=.tup [V.str "sum",V.ref l,bV lo,bV hi]) hp;exact k p _ (s4.trans s5) ⟨l,ab,as',s5 _ _ ak,hT,λx hx=>s5 _ _ (s4 _ _ (h3 x (hp'.mem_iff.mp hx)))⟩
 | tb cs rows =>
  obtain⟨c,t,vs,h1,h2,h3,h4⟩:=id hW;ctx_has s h1;ctx_has s h1;ctx_has s h1;refine aw λR hR=>?_
  ctx_has v h1
  exact⟨w,ws,cs,ns,rows,rfl,tb,hW,B,k⟩
 | wy cs ps es =>
  obtain⟨c,t,e,vs,h1,h2,h3,⟨as,rfl,rfl,h4⟩,h5⟩:=hW;have a2:as.length<=60:=by have:=B.2.2.1;rw[length_map] at this;exact this
  have az:es.length<=60:=B.2.2.2
  have a0:(as.map (·.2)).Nodup:=qd B.2.1
  ctx_has s h1;ctx_has s h1;ctx_has s h1;ctx_has s h1;refine aw λR hR=>?_
  ctx_has v h1
  refine qy h3 a2 h4 a0 λr vs H1 Z U ax=>?_
  have ad:=Z _ _ h1;ctx_has v ad
  refine ix (Z _ _ h5) az λr2 H2 F ag=>⟨by decide,λw' Y=>?_⟩
  have s3:=am.upd0 (o:=.tup [V.str "way",V.ref c,V.ref r,V.ref r2]) Y;exact k w' _ ((Z.trans F).trans s3) ⟨c,r,r2,vs,ab,s3 _ _ (F _ _ (Z _ _ h2)),s3 _ _ (F _ _ U),ax.keep λa xs e=>s3 _ _ (F _ _ e),s3 _ _ ag⟩
 | bh cs a6 =>
  obtain⟨c,h1,h2⟩:=id hW;ctx_has s h1;ctx_has s h1;ctx_has s h1;ctx_has s h1;ctx_has s h1;ctx_has s h1;ctx_has v h1
  exact k w H (am.refl H) hW
abbrev Es:=Fn P w K mg base "plain_form" 4 ["wish"] (xJ)
theorem mJ (T:Txt w K mg base) (L:sP K mg "plain_form" cY ["wish"] 138) (Y : @Bq P w K mg base) (Ff : @Bl P w K mg base) : @Es P w K mg base:=by
 have nd:=dB.nd;refine L.ok dB (λvs H Q E h=>?_) (λf c hc A outer s H vs Q E hr h=>?_) <;> obtain⟨w,ws,ns,c,us,W,rfl,tb,hW,z,k⟩:=h
 .rfl
 have hu:=ue hr;refine⟨_,(af (aK (ay aT (ao ap (pvM 0) ae) au) (ai aL) aD)
  (af (aK (ay aT (ao ap (pvM 0) ae) au) (ai aL) aD)
  (af (aK (ay aT (ao ap (pvM 0) ae) au) (ai aL) aD)
  (af (aK (ay aT (ao ap (pvM 0) ae) au) (ai aL) aD)
  (af (aK (ay aT (ao ap (pvM 0) ae) au) (ai aL) aD)
  (af (aK (ay aT (ao ap (pvM 0) ae) au) (ai (aB (aI (aa au (aa (ao ap (pvM 0) ae) (aa (ah Ff (aa (ao ap (pvM 0) ae) ac)) (aa (ah Y (aa (ao ap (pvM 0) ae) ac)) ac))))))) aD)
  (ai aL))))))),?_⟩
 obtain⟨t,u,h1,h2,h3⟩:=hW;have aj:us.length<=20:=z.2.1.2.2
 ctx_has v h1
 refine ix h2 (by omega) λr H1 B ad=>?_
 have F:=B _ _ h1;ctx_has v F
 refine⟨u,ws,ns,W,rfl,tb.same B,cM h3 λa xs e=>B _ _ e,z.2.2.1,λr2 H2 s2 Z=>⟨by decide,λw' ag=>?_⟩⟩
 have U:=am.upd0 (o:=.tup [V.str "same",V.str c,V.ref r,V.ref r2]) ag;exact k w' _ ((B.trans s2).trans U) ⟨r,r2,ab,U _ _ (s2 _ _ ad),cM Z λa xs e=>U _ _ e⟩
abbrev EM:=Fn P w K mg base "_law_plain" 4 ["_law_wish_here"] (A9)
theorem nQ (T:Txt w K mg base) (L:FnL K mg "_law_plain" bX ["_law_wish_here"]) (Fd : @DT P w K mg base) (Fj : @Eg P w K mg base) : @EM P w K mg base:=by
 ctx_has z iS <;> obtain⟨w,ws,ns,W,rfl,tb,hW,B,k⟩:=h
 .rfl
 refine⟨_,(af (aK (ay aT (ao ap (pvM 0) ae) au) (ai aL) aD)
  (af (aK (ay aT (ao ap (pvM 0) ae) au) (ai (aB (aI (aa au (aa (ah Fd (aa (ao ap (pvM 0) ae) ac)) (aa (ah Fd (aa (ao ap (pvM 0) ae) ac)) (aa (ao ap (pvM 0) ae) (aa (ao ap (pvM 0) ae) ac)))))))) aD)
  (af (aK (ay aT (ao ap (pvM 0) ae) au) (ai (aB (aI (aa au (aa (ah Fd (aa (ao ap (pvM 0) ae) ac)) ac))))) aD)
  (af (aK (ay aT (ao ap (pvM 0) ae) au) (ai (aB (aN eO (aI (aa au (aa (aF aO T.b_tuple (aa (ah Fj (aa (aF ja T.b_list (aa (ao ap (pvM 0) ae) ac)) (aa (aZ (N:=["_law_a","_law_name"]) (nt:=2) (js:=[]) (aH ["_law_wish_here","_law_rows_here"] (ak bX).names) (cX K (ao ap (pvM 0) ae)) (de (n:=2) rfl (aW (aA 0) (aW (aA 1) cO))) cT aV (pvM 1)) ac))) ac)) ac))) (bG oM (pvM 0) (bN ae) cB)))) aD)
  (af (aK (ay aT (ao ap (pvM 0) ae) au) (ai (aB (aI (aa au (aa (ao ap (pvM 0) ae) (aa (ah Fd (aa (ao ap (pvM 0) ae) ac)) (aa (ah Fd (aa (ao ap (pvM 0) ae) ac)) ac))))))) aD)
  (af (aK (ay aT (ao ap (pvM 0) ae) au) (af (cH 1 (N:=["_law_row","_law_wish_here"]) (nt:=1) (js:=[0]) (aH ["_law_wish_here","_law_rows_here"] (ak bX).names) (cX K (ao ap (pvM 0) ae)) (aA 0) aP aV (aF aO T.b_tuple (aa (ah Fj (aa (aF ja T.b_list (aa (pvM 0) ac)) (aa (aF ja T.b_list (aa (ao ap (pvM 1) ae) ac)) ac))) ac)))
  (ai (aB (aI (aa au (aa (ah Fd (aa (ao ap (pvM 0) ae) ac)) (aa (ah Fd (aa (pvM 1) ac)) ac))))))) aD)
  (ai (aB (pvM 0))))))))),?_⟩
 cases W with
 | un cs =>
  obtain⟨c,h1,h2⟩:=hW;have a6:cs.length<=12:=B.2.2.2
  ctx_has s h1;ctx_has s h1;refine aw λR hR=>?_
  ctx_has v h1
  refine iz h2 (by omega) λr H1 F an=>⟨by decide,λw' U=>?_⟩
  have Y:=am.upd0 (o:=.tup [V.str "unlike",V.ref r]) U;exact k w' _ (F.trans Y) ⟨r,ab,Y _ _ an⟩
 | mn av cs lo hi =>
  obtain⟨a,c,h1,h2,h3⟩:=hW;have a6:cs.length<=12:=B.1.2.2.2
  have bn:av.length<=20:=B.2.2.2
  ctx_has s h1;refine aw λR hR=>?_
  ctx_has v h1
  refine ix h2 (by omega) λr H1 F an=>?_
  have aq:=F _ _ h1;ctx_has v aq
  refine iz (F _ _ h3) (by omega) λr2 H2 Y a1=>?_
  have aJ:=Y _ _ aq;ctx_has v aJ
  refine⟨by decide,λw' U=>?_⟩
  have Z:=am.upd0 (o:=.tup [V.str "many",V.ref r,V.ref r2,V.int lo,V.int hi]) U;exact k w' _ ((F.trans Y).trans Z) ⟨r,r2,ab,Z _ _ (Y _ _ an),Z _ _ a1⟩
 | sm ts lo hi =>
  obtain⟨t,h1,as,h2,rfl,h3⟩:=hW;have aU:as.length<=12:=by have:=B.1.2.2.2;rw[length_map,length_map] at this;exact this
  ctx_has s h1;ctx_has s h1;ctx_has s h1;refine aw λR hR=>?_
  ctx_has v h1 h2
  intro l1 hl1;have F:=am.upd0 (o:=.lst (as.map λx=>V.ref x.1)) hl1
  have a5:upd H l1 (.lst (as.map λx=>V.ref x.1)) l1=some (.lst (as.map λx=>V.ref x.1)):=ab
  generalize upd H l1 (.lst (as.map λx=>V.ref x.1))=H1 at F a5 ⊢
  refine⟨_,F _ _ h1,_,aM (j:=1) rfl,t,rfl,_,F _ _ h2,λD hD=>?_⟩
  refine cD ba (λi ys H'=>ys=(as.take i).map (λx=>V.str x.2.2)/\H' D=some (.lst ys)/\am H1 H') ⟨by simp,ab,am.upd0 hD⟩ (λi ys H' a7=>by obtain⟨_,_,s⟩:=a7;exact(.of (s _ _ (F _ _ h2)))) ?_ ?_
  .rintro i x ys H3 hi hx ⟨rfl,h3D,Z⟩
   rw[length_map] at hi;have a4:as[i]? = some as[i]:=List.getElem?_eq_getElem hi
   rw[List.getElem?_map,a4] at hx;cases hx;have e1:=Z _ _ (F _ _ (h3 as[i] (List.getElem_mem hi)));ctx_has v e1
   refine⟨h3D,by simp;exact ax (by omega),?_,ab,λb' o e=>by rw[ag (aj e hD)];exact Z _ _ e⟩
   rw[take_add_one,a4,map_append];rfl
  .rintro ys H2 ⟨rfl,h2D,Y⟩
   rw[length_map,take_length] at h2D;refine⟨l1,D,as.map λx=>(V.ref x.1,PySem.W.Ky.s x.2.2),as.map λx=>V.str x.2.2,rfl,by rw[map_map];exact Y _ _ a5,h2D,by simp,λi v z e1 e2=>?_,by simp;omega,⟨0,λz hz=>?_⟩,λr bc H3 Z az ad bk=>⟨r,rfl,_,bk,λl2 hl2=>⟨by decide,λp hp=>?_⟩⟩⟩
   .rw[List.getElem?_map] at e1 e2
    cases ea:as[i]? with
    | none=>rw[ea] at e1;cases e1
    | some x=>rw[ea] at e1 e2;cases e1;cases e2;rfl
   .obtain⟨x,_,rfl⟩:=mem_map.mp hz
    rfl
   .obtain⟨as',hp',rfl⟩:=bq az rfl
    rw[map_map] at ad;have hT:as'.map (·.2)=sk kT (as.map (·.2)):=el (hp'.map _) (by rw[map_map];exact ad) (ni B.1.2.1)
    have lp:l2≠p:=λz=>by rw[<- z,ab] at hp;cases hp
    have s5:=(am.upd0 hl2).upd_new (o:=.tup [V.str "sum",V.ref l2]) hp;have aC:upd (upd H3 l2 (.tup ((as'.map λx=>(V.ref x.1,PySem.W.Ky.s x.2.2)).map λx=>x.1))) p (.tup [V.str "sum",V.ref l2]) l2=some (.tup (as'.map λx=>V.ref x.1)):=by rw[ag lp,ab,map_map];rfl
    have aG:upd (upd H3 l2 (.tup ((as'.map λx=>(V.ref x.1,PySem.W.Ky.s x.2.2)).map λx=>x.1))) p (.tup [V.str "sum",V.ref l2]) p=some (.tup [V.str "sum",V.ref l2]):=ab
    generalize upd (upd H3 l2 (.tup ((as'.map λx=>(V.ref x.1,PySem.W.Ky.s x.2.2)).map λx=>x.1))) p (.tup [V.str "sum",V.ref l2])=H5 at s5 aC aG ⊢
    have a3:=((F.trans Y).trans Z).trans s5;refine⟨_,a3 _ _ h1,λp6 H6 h6 s6=>?_⟩
    rw[iJ] at h6;refine⟨_,s6 _ _ aG,_,h6,le_of_lt (ax (by simp)),λp7 H7 h7 s7=>?_⟩
    have a2:=s6.trans s7;exact k p7 _ (a3.trans a2) ⟨l2,h7,as',a2 _ _ aC,hT,λx hx=>a2 _ _ (a3 _ _ (h3 x (hp'.mem_iff.mp hx)))⟩
 | tb cs rows =>
  obtain⟨c,t,vs,h1,h2,h3,as,rfl,rfl,h4⟩:=hW;have a6:cs.length<=12:=B.1.2.2.2
  have a8:cs.Nodup:=B.1.2.1
  have aU:as.length<=7:=by have:=B.2.2.2;rw[length_map] at this;exact this
  have ar:(plc cs).length=cs.length:=by rw[(fP cs).length_eq,length_range]
  ctx_has s h1;ctx_has s h1;ctx_has s h1;ctx_has s h1;ctx_has s h1;refine aw λR hR=>?_
  ctx_has v h1 h3
  intro D hD;refine di ba (f:=λx:Addr × List Int=>bw 0 (plc cs) x.2) (c:=λr:List Int=>r.map V.int) hD (λH' s=>.of (s _ _ h3)) (by omega) ?_ ?_
  .intro z hz H4 Q4 s4 q4
   have bj:=s4 _ _ (h4 z hz);have be:=s4 _ _ h1;have bg:z.2.length=cs.length:=B.2.2.1 z.2 (mem_map.mpr ⟨z,hz,rfl⟩)
   ctx_has v bj
   intro l1 hl1;have s5:=am.upd0 (o:=.lst (z.2.map V.int)) hl1;refine⟨_,s5 _ _ be,_,aM (j:=1) rfl,c,rfl,_,s5 _ _ (s4 _ _ h2),λl2 hl2=>?_⟩
   have s6:=s5.upd_new (o:=.lst (cs.map V.str)) hl2;have bf:l1≠l2:=λe=>by rw[<- e,ab] at hl2;cases hl2
   refine⟨l1,l2,(z.2.zip cs).map λy=>(V.int y.1,PySem.W.Ky.s y.2),cs.map V.str,rfl,?_,ab,by simp;omega,λi v y e1 e2=>?_,by simp;omega,⟨0,λy hy=>?_⟩,λr bc H7 s7 az ad aQ=>⟨r,rfl,_,aQ,λq hq=>?_⟩⟩
   .rw[ag bf,ab,map_map]
    have e:((λx:V × PySem.W.Ky=>x.1) ∘ λy:Int × Str=>(V.int y.1,PySem.W.Ky.s y.2))=V.int ∘ Prod.fst:=rfl
    rw[e,<- map_map,map_fst_zip (by omega)]
   .rw[List.getElem?_map] at e1 e2
    cases ey:(z.2.zip cs)[i]? with
    | none=>rw[ey] at e2;cases e2
    | some y' =>
     rw[ey] at e2;cases e2;obtain⟨_,ec⟩:=List.getElem?_zip_eq_some.mp ey;rw[ec] at e1;cases e1;rfl
   .obtain⟨x,_,rfl⟩:=mem_map.mp hy
    rfl
   .obtain⟨l',hp',rfl⟩:=bq az rfl
    rw[map_map] at ad;have hT:l'=sk kT (z.2.zip cs):=el hp' ad (ni (si (by omega) a8))
    refine q4 q _ ((s6.trans s7).upd_new hq) ?_
    rw[ab,hT,sL a8 bg,map_map,map_map];rfl
  .intro bs H4 hbs hbt s4 h4D
   refine⟨_,s4 _ _ h1,_,aM (j:=1) rfl,?_⟩
   refine iz (s4 _ _ h2) (by omega) λr2 H5 s5 bd=>?_
   have a9:=qY B (iA B);have a0:bs.map (·.2)=(as.map (·.2)).map (bw 0 (plc cs)):=by rw[hbs,map_map];rfl
   have bi:bs.length<=60:=by have:=congrArg List.length hbs;rw[length_map,length_map] at this;omega
   have aR:(bs.map (·.2)).Nodup:=by rw[a0];exact(bI _ _).nodup_iff.mp a9.2.1
   refine uJ (.inl (s5 _ _ h4D)) bi (λx hx=>s5 _ _ (hbt x hx)) aR (λx hx e=>?_) λr3 vs H6 s6 aX aE=>⟨by decide,λw' U=>?_⟩
   .have:x.2∈bs.map (·.2):=mem_map.mpr ⟨x,hx,rfl⟩
    rw[a0,e] at this;obtain⟨r0,_,e0⟩:=mem_map.mp this;have bm:=B.1.1;unfold bw at e0;rw[map_eq_nil_iff] at e0;rw[e0] at ar;exact bm (length_eq_zero_iff.mp ar.symm)
   .have s7:=am.upd0 (o:=.tup [V.str "table",V.ref r2,V.ref r3]) U
    refine k w' _ (((s4.trans s5).trans s6).trans s7) ⟨r2,r3,vs,ab,s7 _ _ (s6 _ _ bd),s7 _ _ aX,?_⟩
    rw[a0] at aE;exact aE.keep λa xs e=>s7 _ _ e
 | wy cs ps es =>
  obtain⟨c,t,e,vs,h1,h2,h3,⟨as,rfl,rfl,h4⟩,h5⟩:=hW;have ar:as.length<=60:=by have:=B.2.2.1;rw[length_map] at this;exact this
  have aY:es.length<=60:=B.2.2.2
  have bb:(as.map (·.2)).Nodup:=qd B.2.1
  ctx_has s h1;ctx_has s h1;ctx_has s h1;ctx_has s h1;refine aw λR hR=>?_
  ctx_has v h1
  refine qy h3 ar h4 bb λr vs H1 F an aS=>?_
  have aq:=F _ _ h1;ctx_has v aq
  refine ix (F _ _ h5) aY λr2 H2 Y a1=>⟨by decide,λw' U=>?_⟩
  have Z:=am.upd0 (o:=.tup [V.str "way",V.ref c,V.ref r,V.ref r2]) U;exact k w' _ ((F.trans Y).trans Z) ⟨c,r,r2,vs,ab,Z _ _ (Y _ _ (F _ _ h2)),Z _ _ (Y _ _ an),aS.keep λa xs e=>Z _ _ (Y _ _ e),Z _ _ a1⟩
 | bh cs bo =>
  obtain⟨c,h1,h2⟩:=id hW;ctx_has s h1;ctx_has s h1;ctx_has s h1;ctx_has s h1;ctx_has s h1;ctx_has s h1;ctx_has v h1
  exact k w H (am.refl H) hW
theorem nO (T:Txt w K mg base) (L:FnL K mg "_law_plain" bX ["_law_wish_here"]) (Y : @EM P w K mg base) (Fd : @DT P w K mg base):Fn P w K mg base "_law_plain" 5 ["_law_wish_here"] (xJ):=by
 ctx_has z iS <;> obtain⟨w,ws,ns,c,us,W,rfl,tb,hW,B,k⟩:=h
 .rfl
 refine⟨_,(af (aK (ay aT (ao ap (pvM 0) ae) au) (ai (aB (aI (aa au (aa (ao ap (pvM 0) ae) (aa (ah Fd (aa (ao ap (pvM 0) ae) ac)) (aa (ah Y (aa (ao ap (pvM 0) ae) ac)) ac))))))) aD)
  (af (aK (ay aT (ao ap (pvM 0) ae) au) (ai aL) aD)
  (af (aK (ay aT (ao ap (pvM 0) ae) au) (ai aL) aD)
  (af (aK (ay aT (ao ap (pvM 0) ae) au) (ai aL) aD)
  (af (aK (ay aT (ao ap (pvM 0) ae) au) (ai aL) aD)
  (af (aK (ay aT (ao ap (pvM 0) ae) au) (af aL
  (ai aL)) aD)
  (ai aL))))))),?_⟩
 obtain⟨t,u,h1,h2,h3⟩:=hW;have ak:us.length<=20:=B.2.1.2.2
 ctx_has v h1
 refine ix h2 (by omega) λr H1 F ag=>?_
 have U:=F _ _ h1;ctx_has v U
 refine⟨u,ws,ns,W,rfl,tb.same F,cM h3 λa xs e=>F _ _ e,B.2.2.1,λr2 H2 s2 ad=>⟨by decide,λw' aj=>?_⟩⟩
 have Z:=am.upd0 (o:=.tup [V.str "same",V.str c,V.ref r,V.ref r2]) aj;exact k w' _ ((F.trans s2).trans Z) ⟨r,r2,ab,Z _ _ (s2 _ _ ag),cM ad λa xs e=>Z _ _ e⟩
theorem cW {Q:VK} {E:XK} {m:Int} (D:aC H d l) (Y:vL H a xs) (hm:m=xs.length) (hl:xs.length<=60) (q : ∀p z H',z.Perm xs->H' p=some (.tup z)->aC H' d l->But d l H H'->Q (.ref p) H'):Bd [.ref d,.ref a,.int m] H Q E:=by
 refine⟨d,l,a,m,xs,rfl,D,Y,by omega,by omega,hl,λp z rest H' _ B aa U F B'=>?_⟩
 have Z:rest=[]:=by
  have:=B.length_eq
  rw[length_append] at this;exact length_eq_zero_iff.mp (by omega)
 rw[Z,append_nil] at B;exact q p z H' B U F B'
def zu:Sp:=λvs H Q _=>∃(d l w:Addr) (ws:List Str) (ns:List Int) (W:Wi),vs=[.ref d,.ref w]/\aC H d l/\WS H w W/\okW ws ns W/\∀r z H',WS H' r z->qJ W z->aC H' d l->But d l H H'->Q (.ref r) H'
def Aq:Sp:=λvs H Q _=>∃(d l w:Addr) (ws:List Str) (ns:List Int) (c:Str) (us:List Int) (W:Wi),vs=[.ref d,.ref w]/\aC H d l/\WX H w (.sa c us W)/\okX ws ns (.sa c us W)/\∀r z H',WX H' r z->wc (.sa c us W) z->aC H' d l->But d l H H'->Q (.ref r) H'
abbrev Eb:=Fn P w K mg base "_law_mixed_up" 3 ["_law_deal_here","_law_wish_here"] (zu)
abbrev nz2:List Str:=["_law_deal_here","_law_wish_here","_law_cells","_law_steps","_law_places","_law_rows_here"]
theorem jD (T:Txt w K mg base) (L:FnL K mg "_law_mixed_up" bj ["_law_deal_here","_law_wish_here"]) (Fb : @Dz4 P w K mg base) : @Eb P w K mg base:=by
 ctx_has z fW <;> obtain⟨d,l,w,ws,ns,W,rfl,D,hW,ad,k⟩:=h
 .rfl
 refine⟨_,(af (aK (ay aT (ao ap (pvM 1) ae) au) (ai aL) aD)
  (af (aK (ay aT (ao ap (pvM 1) ae) au) (af (az 2 (ah Fb (aa (pvM 0) (aa (ao ap (pvM 1) ae) (aa (aE bZ T.b_len (aa (ao ap (pvM 1) ae) ac)) ac)))))
  (ai (aB (aI (aa au (aa (ah Fb (aa (pvM 0) (aa (ao ap (pvM 1) ae) (aa (aE bZ T.b_len (aa (ao ap (pvM 1) ae) ac)) ac)))) (aa (pvM 2) (aa (ao ap (pvM 1) ae) (aa (ao ap (pvM 1) ae) ac))))))))) aD)
  (af (aK (ay vM (ao ap (pvM 1) ae) (aI (aa au (aa au ac)))) (ai (aB (aN eO (aI (aa (ao ap (pvM 1) ae) (aa (ah Fb (aa (pvM 0) (aa (ao ap (pvM 1) ae) (aa (aE bZ T.b_len (aa (ao ap (pvM 1) ae) ac)) ac)))) ac))) (bG oM (pvM 1) (bN ae) cB)))) aD)
  (af (aK (ay aT (ao ap (pvM 1) ae) au) (af (az 3 (ah Fb (aa (pvM 0) (aa (ao ap (pvM 1) ae) (aa (aE bZ T.b_len (aa (ao ap (pvM 1) ae) ac)) ac)))))
  (ai (aB (aI (aa au (aa (ao ap (pvM 1) ae) (aa (pvM 3) (aa (ah Fb (aa (pvM 0) (aa (ao ap (pvM 1) ae) (aa (aE bZ T.b_len (aa (ao ap (pvM 1) ae) ac)) ac)))) ac)))))))) aD)
  (af (aK (ay aT (ao ap (pvM 1) ae) au) (af (az 4 (ah Fb (aa (pvM 0) (aa (uC rfl rfl T.b_list rfl T.b_range (aa (aE bZ T.b_len (aa (ao ap (pvM 1) ae) ac)) ac)) (aa (aE bZ T.b_len (aa (ao ap (pvM 1) ae) ac)) ac)))))
  (af (cH 5 (N:=["_law_row","_law_places"]) (nt:=1) (js:=[4]) (aH nz2 (ak bj).names) (cX K (ao ap (pvM 1) ae)) (aA 0) aP aV (aF aO T.b_tuple (aa (aZ (N:=["_law_place","_law_row"]) (nt:=1) (js:=[0]) (aH ["_law_row","_law_places"] (GQ (ak bj).kind (ak bj).names _)) (jq (K:=K) rfl (pvM 1)) (aA 0) aP aV (ao sO (pvM 1) (pvM 0))) ac)))
  (ai (aB (aI (aa au (aa (aF aO T.b_tuple (aa (aZ (N:=["_law_place","_law_wish_here"]) (nt:=1) (js:=[1]) (aH nz2 (ak bj).names) (jq (K:=K) rfl (pvM 4)) (aA 0) aP aV (ao sO (ao ap (pvM 1) ae) (pvM 0))) ac)) (aa (ah Fb (aa (pvM 0) (aa (pvM 5) (aa (aE bo T.b_len (aa (pvM 5) ac)) ac)))) ac)))))))) aD)
  (ai (aB (pvM 1)))))))),?_⟩
 cases W with
 | un cs =>
  obtain⟨c,h1,h2⟩:=hW;have aG:cs.length<=12:=ad.2.2.2
  ctx_has s h1;ctx_has s h1;refine aw λR hR=>?_
  ctx_has v h1 h2
  refine⟨by decide,λp0 ag=>⟨_,ab,rfl,by decide,?_⟩⟩
  have U:=am.upd0 (o:=.tup [V.str "unlike",V.str "sum"]) ag;rw[if_pos (show inV (V.str "unlike") [V.str "unlike",V.str "sum"]=true by decide+kernel)]
  generalize upd H p0 (.tup [V.str "unlike",V.str "sum"])=H1 at U ⊢;have D1:=D.same U;have B1:=(But.refl (d:=d) (l:=l) H).same U;have B:=U _ _ h1;have Z:=U _ _ h2;ctx_has v B Z
  refine cW D1 (.inr Z) rfl (by rw[length_map];omega) λp2 aq H2 hg an D2 B2=>?_
  obtain⟨cs',a8,rfl⟩:=bq hg rfl;have Y:=B2.tup D1 B;ctx_has v Y
  refine⟨by decide,λp3 a4=>?_⟩
  have s3:=am.upd0 (o:=.tup [V.str "unlike",V.ref p2]) a4;have a2:upd H2 p3 (.tup [V.str "unlike",V.ref p2]) p3=some (.tup [V.str "unlike",V.ref p2]):=ab
  generalize upd H2 p3 (.tup [V.str "unlike",V.ref p2])=H3 at s3 a2 ⊢;refine⟨_,s3 _ _ Y,λp4 H4 h4 s4=>?_⟩
  rw[iJ] at h4;refine⟨_,s4 _ _ a2,_,h4,le_of_lt (ax (by simp)),λp5 H5 h5 s5=>?_⟩
  have aj:=(s3.trans s4).trans s5;exact k p5 (.un cs') H5 ⟨p2,h5,aj _ _ an⟩ a8 (D2.same aj) ((B1.trans B2).same aj)
 | mn av cs lo hi =>
  obtain⟨a,c,h1,h2,h3⟩:=hW;have aG:cs.length<=12:=ad.1.2.2.2
  have b8:av.length<=20:=ad.2.2.2
  ctx_has s h1;refine aw λR hR=>?_
  ctx_has v h1 h3
  refine cW D (.inr h3) rfl (by rw[length_map];omega) λp1 aq H1 hg b6 D1 B1=>?_
  obtain⟨cs',a8,rfl⟩:=bq hg rfl;have B:=B1.tup D h1;have Z:=B1.tup D h2;ctx_has v B Z
  refine cW D1 (.inr Z) rfl (by rw[length_map];omega) λp2 aq H2 hg an D2 B2=>?_
  obtain⟨b0,ar,rfl⟩:=bq hg rfl;have Y:=B2.tup D1 B;ctx_has v Y
  refine⟨by decide,λp3 a4=>?_⟩
  have s3:=am.upd0 (o:=.tup [V.str "many",V.ref p2,V.ref p1,V.int lo,V.int hi]) a4;exact k p3 (.mn b0 cs' lo hi) _ ⟨p2,p1,ab,s3 _ _ an,s3 _ _ (B2.tup D1 b6)⟩ ⟨ar,a8,rfl,rfl⟩ (D2.same s3) ((B1.trans B2).same s3)
 | sm ts lo hi =>
  obtain⟨t,h1,as,h2,rfl,h3⟩:=hW;have bm:as.length<=12:=by have:=ad.1.2.2.2;rw[length_map,length_map] at this;exact this
  ctx_has s h1;ctx_has s h1;refine aw λR hR=>?_
  ctx_has v h1 h2
  refine⟨by decide,λp0 ag=>⟨_,ab,rfl,by decide,?_⟩⟩
  have U:=am.upd0 (o:=.tup [V.str "unlike",V.str "sum"]) ag;rw[if_pos (show inV (V.str "sum") [V.str "unlike",V.str "sum"]=true by decide+kernel)]
  generalize upd H p0 (.tup [V.str "unlike",V.str "sum"])=H1 at U ⊢;have D1:=D.same U;have B1:=(But.refl (d:=d) (l:=l) H).same U;have B:=U _ _ h1;have Z:=U _ _ h2;ctx_has v B Z
  refine cW D1 (.inr Z) rfl (by rw[length_map];omega) λp2 aq H2 hg an D2 B2=>?_
  obtain⟨a0,ar,rfl⟩:=bq hg rfl;have Y:=B2.tup D1 B;ctx_has v Y
  refine⟨by decide,λp3 a4=>?_⟩
  have s3:=am.upd0 (o:=.tup [V.str "sum",V.ref p2]) a4;have a2:upd H2 p3 (.tup [V.str "sum",V.ref p2]) p3=some (.tup [V.str "sum",V.ref p2]):=ab
  generalize upd H2 p3 (.tup [V.str "sum",V.ref p2])=H3 at s3 a2 ⊢;refine⟨_,s3 _ _ Y,λp4 H4 h4 s4=>?_⟩
  rw[iJ] at h4;refine⟨_,s4 _ _ a2,_,h4,le_of_lt (ax (by simp)),λp5 H5 h5 s5=>?_⟩
  have aj:=(s3.trans s4).trans s5;exact k p5 (.sm (a0.map (·.2)) lo hi) H5 ⟨p2,h5,a0,aj _ _ an,rfl,λx hx=>aj _ _ (B2.tup D1 (U _ _ (h3 x (ar.mem_iff.mp hx))))⟩ ⟨ar.map _,rfl,rfl⟩ (D2.same aj) ((B1.trans B2).same aj)
 | tb cs rows =>
  obtain⟨c,t,vs,h1,h2,h3,as,rfl,rfl,h4⟩:=hW;have aG:cs.length<=12:=ad.1.2.2.2
  have bm:as.length<=7:=by have:=ad.2.2.2;rw[length_map] at this;exact this
  ctx_has s h1;ctx_has s h1;refine aw λR hR=>?_
  ctx_has v h1 h2 re
  refine⟨by decide,λp0 ag=>⟨_,ab,rfl,by decide,?_⟩⟩
  have U:=am.upd0 (o:=.tup [V.str "unlike",V.str "sum"]) ag;rw[if_neg (show ¬ inV (V.str "table") [V.str "unlike",V.str "sum"]=true by decide+kernel)]
  generalize upd H p0 (.tup [V.str "unlike",V.str "sum"])=H1 at U ⊢;have D1:=D.same U;have B1:=(But.refl (d:=d) (l:=l) H).same U;have B:=U _ _ h1;subst hR;ctx_has s B;refine aw λR hR=>?_
  have Z:=U _ _ h2;ctx_has v B Z re
  refine⟨by omega,by rw[length_map];omega,λl1 hl1=>?_⟩
  rw[show((((cs.map V.str).length:Nat):Int)).toNat=cs.length by simp]
  have s2:=am.upd0 (o:=.lst (jG 0 cs.length)) hl1;have bd:upd H1 l1 (.lst (jG 0 cs.length)) l1=some (.lst (jG 0 cs.length)):=ab
  generalize upd H1 l1 (.lst (jG 0 cs.length))=H2 at s2 bd ⊢;have Y:=s2 _ _ B;have bf:=s2 _ _ Z;ctx_has v Y bf
  refine cW (D1.same s2) (.inl bd) (by rw[aJ,length_map]) (by rw[aJ];omega) λp3 aq H3 hg a6 D3 B3=>?_
  obtain⟨pl,a5,rfl⟩:=bq (F:=λi:Nat=>V.int ((0:Int)+i)) hg rfl
  have D2:=D1.same s2;have aW:=B3.tup D2 Y;have aU:=B3.tup D2 (s2 _ _ (U _ _ h3));ctx_has v aW aU
  intro D0 bv;have bc : ∀b xs,H b=some (.tup xs)->H3 b=some (.tup xs):=λb xs e=>B3.tup D2 (s2 _ _ (U _ _ e))
  have a7 : ∀i∈pl,i < cs.length:=λi hi=>mem_range.mp (a5.mem_iff.mp hi)
  have b7:pl.length=cs.length:=by rw[a5.length_eq,length_range]
  refine di ba (f:=λx:Addr × List Int=>bw 0 pl x.2) (c:=λr:List Int=>r.map V.int) bv (λH' s=>.of (s _ _ aU)) (by omega) ?_ ?_
  .intro z hz H4 Q4 s4 q4
   have a1:=s4 _ _ a6;have b3:=s4 _ _ (bc _ _ (h4 z hz));have b1:z.2.length=cs.length:=ad.2.2.1 z.2 (mem_map.mpr ⟨z,hz,rfl⟩)
   ctx_has v a1
   intro D5 a9;refine cA ba (λv=>match v with | .int i=>.int (z.2.getD i.toNat 0) | _=>.non) a9 (λH' s=>.of (s _ _ a1)) (by rw[length_map];omega) ?_ ?_
   .intro x H5 Q5 hx s5 q5
    obtain⟨i,hi,rfl⟩:=mem_map.mp hx;have a3:i < z.2.length:=by rw[b1];exact a7 i hi
    have bg:=s5 _ _ b3;ctx_has v bg
    refine⟨_,by rw[Int.zero_add];exact aM (by rw[List.getElem?_map,List.getElem?_eq_getElem a3];rfl),?_⟩
    have:=q5 H5 (am.refl _)
    simpa [getD_eq_getElem?_getD,a3] using this
   .intro H5 s5 h5
    ctx_has v h5
    intro t' br;refine q4 t' _ (s5.upd_new br) ?_
    rw[ab];unfold bw;rw[map_map,map_map];refine congrArg (λz=>some (HO.tup z)) (map_congr_left λi _=>?_)
    simp
  .intro bs H4 hbs hbt s4 h4D
   have a1:=s4 _ _ a6;have be:=s4 _ _ aW;have bx:=s4 _ _ (bc _ _ h2);refine⟨_,a1,λD5 a9=>?_⟩
   refine cA ba (λv=>match v with | .int i=>.str (cs.getD i.toNat noS) | _=>.non) a9 (λH' s=>.of (s _ _ a1)) (by rw[length_map];omega) ?_ ?_
   .intro x H5 Q5 hx s5 q5
    obtain⟨i,hi,rfl⟩:=mem_map.mp hx;have a3:i < cs.length:=a7 i hi
    have bi:=s5 _ _ be;have bk:=s5 _ _ bx;ctx_has v bi bk
    refine⟨_,by rw[Int.zero_add];exact aM (by rw[List.getElem?_map,List.getElem?_eq_getElem a3];rfl),?_⟩
    have:=q5 H5 (am.refl _)
    simpa [getD_eq_getElem?_getD,a3] using this
   .intro H5 s5 h5
    have e5:(pl.map λi:Nat=>V.int ((0:Int)+i)).map (λv=>match v with | .int i=>V.str (cs.getD i.toNat noS) | _=>V.non)=(bw noS pl cs).map V.str:=by
     unfold bw;rw[map_map,map_map];refine map_congr_left λi _=>?_
     simp
    rw[e5] at h5;refine⟨D5,rfl,_,h5,λl6 b4=>?_⟩
    have s6:=am.upd0 (o:=.tup ((bw noS pl cs).map V.str)) b4;have aS:upd H5 l6 (.tup ((bw noS pl cs).map V.str)) l6=some (.tup ((bw noS pl cs).map V.str)):=ab
    generalize upd H5 l6 (.tup ((bw noS pl cs).map V.str))=H6 at s6 aS ⊢;have aX:=(s4.trans s5).trans s6;have aR:=s6 _ _ (s5 _ _ h4D);have D6:=D3.same aX;have b2:bs.length<=60:=by have:=congrArg List.length hbs;rw[length_map,length_map] at this;omega
    refine⟨_,aR,cW D6 (.inl aR) rfl (by rw[length_map];exact b2) λp7 aq H7 hg bt D7 B7=>⟨by decide,λp8 bz=>?_⟩⟩
    obtain⟨aY,aC,rfl⟩:=bq hg rfl;have s8:=am.upd0 (o:=.tup [V.str "table",V.ref l6,V.ref p7]) bz;refine k p8 (.tb (bw noS pl cs) (aY.map (·.2))) _ ⟨l6,p7,_,ab,s8 _ _ (B7.tup D6 aS),s8 _ _ bt,aY,rfl,rfl,λx hx=>s8 _ _ (B7.tup D6 (s6 _ _ (s5 _ _ (hbt x (aC.mem_iff.mp hx)))))⟩ ⟨pl,a5,rfl,?_⟩ (D7.same s8) (((((B1.same s2).trans B3).same aX).trans B7).same s8)
    have:=aC.map (·.2)
    rw[hbs] at this;rw[map_map];exact this
 | wy cs ps es =>
  obtain⟨c,t,e,vs,h1,h2,h3,⟨as,rfl,rfl,h4⟩,h5⟩:=hW;have a5:as.length<=60:=by have:=ad.2.2.1;rw[length_map] at this;exact this
  have b9:es.length<=60:=ad.2.2.2
  ctx_has s h1;ctx_has s h1;refine aw λR hR=>?_
  ctx_has v h1 h3
  refine⟨by decide,λp0 ag=>⟨_,ab,rfl,by decide,?_⟩⟩
  have U:=am.upd0 (o:=.tup [V.str "unlike",V.str "sum"]) ag;rw[if_neg (show ¬ inV (V.str "way") [V.str "unlike",V.str "sum"]=true by decide+kernel)]
  generalize upd H p0 (.tup [V.str "unlike",V.str "sum"])=H1 at U ⊢;have D1:=D.same U;have B1:=(But.refl (d:=d) (l:=l) H).same U;have B:=U _ _ h1;subst hR;refine aw λR hR=>?_
  have aQ:=U _ _ h3;ctx_has v B aQ
  refine cW D1 (.inr aQ) rfl (by rw[length_map];omega) λp2 aq H2 hg an D2 B2=>?_
  obtain⟨a0,ar,rfl⟩:=bq hg rfl;have Y:=B2.tup D1 B;have bb:=B2.tup D1 (U _ _ h5);ctx_has v Y bb
  refine cW D2 (.inr bb) rfl (by rw[length_map];omega) λp3 aq H3 hg a6 D3 B3=>?_
  obtain⟨bn,b5,rfl⟩:=bq hg rfl;refine⟨by decide,λp4 bp=>?_⟩
  have s4:=am.upd0 (o:=.tup [V.str "way",V.ref c,V.ref p2,V.ref p3]) bp;have kt : ∀b xs,H b=some (.tup xs)->upd H3 p4 (.tup [V.str "way",V.ref c,V.ref p2,V.ref p3]) b=some (.tup xs):=λb xs e=>s4 _ _ (B3.tup D2 (B2.tup D1 (U _ _ e)))
  exact k p4 (.wy cs (a0.map (·.2)) bn) _ ⟨c,p2,p3,_,ab,kt _ _ h2,s4 _ _ (B3.tup D2 an),⟨a0,rfl,rfl,λx hx=>kt _ _ (h4 x (ar.mem_iff.mp hx))⟩,s4 _ _ a6⟩ ⟨rfl,ar.map _,b5⟩ (D3.same s4) (((B1.trans B2).trans B3).same s4)
 | bh cs bu =>
  obtain⟨c,h1,h2⟩:=id hW;ctx_has s h1;ctx_has s h1;refine aw λR hR=>?_
  ctx_has v h1
  refine⟨by decide,λp0 ag=>⟨_,ab,rfl,by decide,?_⟩⟩
  have U:=am.upd0 (o:=.tup [V.str "unlike",V.str "sum"]) ag;rw[if_neg (show ¬ inV (V.str "behind") [V.str "unlike",V.str "sum"]=true by decide+kernel)]
  generalize upd H p0 (.tup [V.str "unlike",V.str "sum"])=H1 at U ⊢;have D1:=D.same U;have B1:=(But.refl (d:=d) (l:=l) H).same U;have B:=U _ _ h1;subst hR;ctx_has s B;ctx_has s B;ctx_has v B
  exact k w (.bh cs bu) H1 (cM hW λa xs e=>U _ _ e) ⟨rfl,rfl⟩ D1 B1
abbrev GE:=Fn P w K mg base "_law_mixed_up" 4 ["_law_deal_here","_law_wish_here"] (Aq)
theorem jZ (T:Txt w K mg base) (L:FnL K mg "_law_mixed_up" bj ["_law_deal_here","_law_wish_here"]) (Z : @Eb P w K mg base) (Fb : @Dz4 P w K mg base) : @GE P w K mg base:=by
 ctx_has z fW <;> obtain⟨d,l,w,ws,ns,c,us,W,rfl,D,hW,B,k⟩:=h
 .rfl
 refine⟨_,(af (aK (ay aT (ao ap (pvM 1) ae) au) (ai (aB (aI (aa au (aa (ao ap (pvM 1) ae) (aa (ah Fb (aa (pvM 0) (aa (ao ap (pvM 1) ae) (aa (aE bZ T.b_len (aa (ao ap (pvM 1) ae) ac)) ac)))) (aa (ah Z (aa (pvM 0) (aa (ao ap (pvM 1) ae) ac))) ac))))))) aD)
  (af (aK (ay aT (ao ap (pvM 1) ae) au) (af aL
  (ai aL)) aD)
  (af (aK (ay vM (ao ap (pvM 1) ae) (aI (aa au (aa au ac)))) (ai aL) aD)
  (af (aK (ay aT (ao ap (pvM 1) ae) au) (af aL
  (ai aL)) aD)
  (af (aK (ay aT (ao ap (pvM 1) ae) au) (af aL
  (af aL
  (ai aL))) aD)
  (ai aL)))))),?_⟩
 obtain⟨t,u,h1,h2,h3⟩:=hW;have ak:us.length<=20:=B.2.1.2.2
 ctx_has v h1 h2
 refine cW D (.inr h2) rfl (by rw[length_map];omega) λp1 an H1 hg ad D1 B1=>?_
 obtain⟨Y,aj,rfl⟩:=bq hg rfl;have U:=B1.tup D h1;ctx_has v U
 refine⟨d,l,u,ws,ns,W,rfl,D1,cM h3 λa xs e=>B1.tup D e,B.2.2.1,λr W' H2 hr hm D2 B2=>⟨by decide,λp3 ag=>?_⟩⟩
 have F:=am.upd0 (o:=.tup [V.str "same",V.str c,V.ref p1,V.ref r]) ag;exact k p3 (.sa c Y W') _ ⟨p1,r,ab,F _ _ (B2.tup D1 ad),cM hr λa xs e=>F _ _ e⟩ ⟨rfl,aj,hm⟩ (D2.same F) ((B1.trans B2).same F)
def bD:Option Int->PyData | none=>.none | some i=>.int i
def bL:Wi->PyData
 | .un cs=>.tuple [.str "unlike",.tuple (cs.map .str)]
 | .mn B cs lo hi=>.tuple [.str "many",.tuple (B.map .int),.tuple (cs.map .str),.int lo,.int hi]
 | .sm ts lo hi=>.tuple [.str "sum",.tuple (ts.map λx=>.tuple [.int x.1,.str x.2]),bD lo,bD hi]
 | .tb cs rows=>.tuple [.str "table",.tuple (cs.map .str),.tuple (rows.map λr=>.tuple (r.map .int))]
 | .wy cs ps es=>.tuple [.str "way",.tuple (cs.map .str),.tuple (ps.map λx=>.tuple [.int x.1,.int x.2.1,.int x.2.2]),.tuple (es.map .int)]
 | .bh cs z=>.tuple [.str "behind",.tuple (cs.map .str),.int z]
def cC:Wx->PyData
 | .pl W=>bL W
 | .sa c vs W=>.tuple [.str "same",.str c,.tuple (vs.map .int),bL W]
theorem CJ (o:Option Int):Rep K H (bV o) (bD o):=by
 cases o with
 | none=>exact .non
 | some i=>exact .int i
theorem lT {K:PySem.W.Frag} {H:Hp} {α:Type} {f:α->V} {d:α->PyData} : ∀{l:List α},(∀x∈l,Rep K H (f x) (d x))->cj K H (l.map f) (l.map d)
 | [],_=>.nil
 | x :: l,h=>.cons (h x mem_cons_self) (lT λy z=>h y (mem_cons_of_mem _ z))
theorem C0 {w:Addr} {W:Wi} (h:WS H w W):Rep K H (.ref w) (bL W):=by
 cases W with
 | un cs =>
  obtain⟨c,h1,h2⟩:=h;exact .tup (.of h1) (.cons (.str _) (.cons (.tup (.of h2) (cj.strs cs)) .nil))
 | mn Y cs lo hi =>
  obtain⟨a,c,h1,h2,z⟩:=h;exact .tup (.of h1) (.cons (.str _) (.cons (.tup (.of h2) (cj.ints Y)) (.cons (.tup (.of z) (cj.strs cs)) (.cons (.int _) (.cons (.int _) .nil)))))
 | sm ts lo hi =>
  obtain⟨t,h1,as,h2,rfl,z⟩:=h;refine .tup (.of h1) (.cons (.str _) (.cons (.tup (.of h2) ?_) (.cons (CJ lo) (.cons (CJ hi) .nil))))
  rw[map_map];exact lT λx B=>.tup (.of (z x B)) (.cons (.int _) (.cons (.str _) .nil))
 | tb cs rows =>
  obtain⟨c,t,vs,h1,h2,z,as,rfl,rfl,F⟩:=h;refine .tup (.of h1) (.cons (.str _) (.cons (.tup (.of h2) (cj.strs cs)) (.cons (.tup (.of z) ?_) .nil)))
  rw[map_map];exact lT λx B=>.tup (.of (F x B)) (cj.ints x.2)
 | wy cs ps es =>
  obtain⟨c,t,e,vs,h1,h2,z,⟨as,rfl,rfl,F⟩,Z⟩:=h;refine .tup (.of h1) (.cons (.str _) (.cons (.tup (.of h2) (cj.strs cs)) (.cons (.tup (.of z) ?_) (.cons (.tup (.of Z) (cj.ints es)) .nil))))
  rw[map_map];exact lT λx B=>.tup (.of (F x B)) (.cons (.int _) (.cons (.int _) (.cons (.int _) .nil)))
 | bh cs U =>
  obtain⟨c,h1,h2⟩:=h;exact .tup (.of h1) (.cons (.str _) (.cons (.tup (.of h2) (cj.strs cs)) (.cons (.int _) .nil)))
theorem lj {w:Addr} {W:Wx} (h:WX H w W):Rep K H (.ref w) (cC W):=by
 cases W with
 | pl W=>exact C0 h
 | sa c vs W =>
  obtain⟨t,u,h1,h2,z⟩:=h;exact .tup (.of h1) (.cons (.str _) (.cons (.str _) (.cons (.tup (.of h2) (cj.ints vs)) (.cons (C0 z) .nil))))
theorem qM {α:Type} {d:α->PyData} : ∀{l:List α},(∀x∈l,(d x).canLay0=true)->PyData.canLayAll0 (l.map d)=true
 | [],_=>rfl
 | x :: l,h=>by rw[map_cons,PyData.canLayAll0,h x mem_cons_self,qM λy z=>h y (mem_cons_of_mem _ z)];rfl
theorem mo {α:Type} {d:α->PyData} {n:Nat} : ∀{l:List α},(∀x∈l,(d x).depth<=n)->PyData.depthAll (l.map d)<=n
 | [],_=>zero_le _
 | x :: l,h=>by rw[map_cons,PyData.depthAll];exact Nat.max_le.mpr ⟨h x mem_cons_self,mo λy z=>h y (mem_cons_of_mem _ z)⟩
theorem tG {s:Str} (h:bS s):(PyData.str s).canLay0=true:=by
 have:=dF (ws:=[s]) (λw hw=>by rw[mem_singleton.mp hw];exact h)
 rw[map_cons,PyData.canLayAll0,Bool.and_eq_true] at this;exact this.1
theorem GU (i:Int):(PyData.int i).canLay0=true:=by
 have:=lay_ints [i]
 rw[map_cons,PyData.canLayAll0,Bool.and_eq_true] at this;exact this.1
theorem Ge (o:Option Int):(bD o).canLay0=true:=by cases o with
 | none=>rfl
 | some i=>exact GU i
theorem Gw (o:Option Int):(bD o).depth=0:=by cases o <;> rfl
theorem Gx:PyData.strOk (Str.ofString "unlike")=true:=by decide+kernel
theorem Gn:PyData.strOk (Str.ofString "many")=true:=by decide+kernel
theorem Hr:PyData.strOk (Str.ofString "sum")=true:=by decide+kernel
theorem Hg:PyData.strOk (Str.ofString "table")=true:=by decide+kernel
theorem Ht:PyData.strOk (Str.ofString "way")=true:=by decide+kernel
theorem Gy:PyData.strOk (Str.ofString "behind")=true:=by decide+kernel
theorem Gk:PyData.strOk (Str.ofString "same")=true:=by decide+kernel
theorem C2 {W:Wi} (h : ∀c∈fz W,bS c):(bL W).canLay0=true:=by
 cases W with
 | un cs=>simp[bL,PyData.canLay0,PyData.canLayAll0,dF (ws:=cs) h,Gx]
 | mn z cs lo hi=>simp[bL,PyData.canLay0,PyData.canLayAll0,dF (ws:=cs) h,lay_ints z,Gn]
 | sm ts lo hi =>
  have h1:PyData.canLayAll0 (ts.map λx=>.tuple [.int x.1,.str x.2])=true:=qM λx F=>by
   have:=tG (h x.2 (mem_map.mpr ⟨x,F,rfl⟩))
   simp[PyData.canLay0,PyData.canLayAll0] at this ⊢
   exact this
  simp[bL,PyData.canLay0,PyData.canLayAll0,h1,Ge,Hr]
 | tb cs rows =>
  have h1:PyData.canLayAll0 (rows.map λr=>.tuple (r.map .int))=true:=qM λr _=>by rw[PyData.canLay0];exact lay_ints r
  simp[bL,PyData.canLay0,PyData.canLayAll0,dF (ws:=cs) h,h1,Hg]
 | wy cs ps es =>
  have h1:PyData.canLayAll0 (ps.map λx=>.tuple [.int x.1,.int x.2.1,.int x.2.2])=true:=qM λx _=>by
   simp[PyData.canLay0,PyData.canLayAll0]
  simp[bL,PyData.canLay0,PyData.canLayAll0,dF (ws:=cs) h,lay_ints,h1,Ht]
 | bh cs B=>simp[bL,PyData.canLay0,PyData.canLayAll0,dF (ws:=cs) h,Gy]
theorem Ah {W:Wx} (h : ∀c∈rX W,bS c):(cC W).canLay0=true:=by
 cases W with
 | pl W=>exact C2 h
 | sa c vs W =>
  have z:=tG (h c mem_cons_self);have hw:=C2 λc B=>h c (mem_cons_of_mem _ B)
  rw[PyData.canLay0] at z;simp[cC,PyData.canLay0,PyData.canLayAll0,lay_ints,hw,z,Gk]
theorem wH (W:Wi):(bL W).depth<=3:=by
 cases W with
 | un cs=>simp[bL,PyData.depth,PyData.depthAll,cS]
 | mn B cs lo hi=>simp[bL,PyData.depth,PyData.depthAll,cS,depth_ints]
 | sm ts lo hi =>
  have h1:PyData.depthAll (ts.map λx=>.tuple [.int x.1,.str x.2])<=1:=mo λx _=>by simp[PyData.depth,PyData.depthAll]
  simp[bL,PyData.depth,PyData.depthAll,Gw]
  omega
 | tb cs rows =>
  have h1:PyData.depthAll (rows.map λr=>.tuple (r.map .int))<=1:=mo λr _=>by simp[PyData.depth,depth_ints]
  simp[bL,PyData.depth,PyData.depthAll,cS]
  omega
 | wy cs ps es =>
  have h1:PyData.depthAll (ps.map λx=>.tuple [.int x.1,.int x.2.1,.int x.2.2])<=1:=mo λx _=>by simp[PyData.depth,PyData.depthAll]
  simp[bL,PyData.depth,PyData.depthAll,cS,depth_ints]
  omega
 | bh cs z=>simp[bL,PyData.depth,PyData.depthAll,cS]
theorem Hc (W:Wx):(cC W).depth<=100:=by
 cases W with
 | pl W=>exact le_trans (wH W) (by decide)
 | sa c vs W =>
  have:=wH W
  simp[cC,PyData.depth,PyData.depthAll,depth_ints]
  omega
def kvR (xs:List (Str × Addr × List Int)):List (Key × V):=xs.map λx=>(Sum.inr x.1,.ref x.2.1)
def RmT (H:Hp) (xs:List (Str × Addr × List Int)):Prop:=∀x∈xs,H x.2.1=some (.tup (x.2.2.map V.int))
def dat (xs:List (Str × Addr × List Int)):List (Str × List Int):=xs.map λx=>(x.1,x.2.2)
def srt (l:List Int):List Int:=l.mergeSort λa b=>decide (a<=b)
theorem gU (l:List Int):(srt l).Perm l:=List.mergeSort_perm _ _
theorem sD (l:List Int):(srt l).Pairwise (·<=·):=by
 have:=List.pairwise_mergeSort (le:=λa b:Int=>decide (a<=b)) (λa b c h g=>by simp only[decide_eq_true_eq] at *;omega) (λa b=>by simp only[Bool.or_eq_true,decide_eq_true_eq];omega) l
 exact this.imp λh=>of_decide_eq_true h
theorem zQ : ∀{l m:List Int},l.Perm m->l.Pairwise (·<=·)->m.Pairwise (·<=·)->l=m
 | [],m,hp,_,_=>(List.Perm.eq_nil hp.symm).symm
 | a :: l,[],hp,_,_=>absurd (List.Perm.eq_nil hp) (by simp)
 | a :: l,b :: m,hp,h1,h2=>by
  rw[pairwise_cons] at h1 h2;have B:a=b:=by
   have z:a∈b :: m:=hp.mem_iff.mp mem_cons_self
   have F:b∈a :: l:=hp.mem_iff.mpr mem_cons_self
   rcases mem_cons.mp z with e | z
   .exact e
   .rcases mem_cons.mp F with e | F
    .exact e.symm
    .exact Int.le_antisymm (h1.1 b F) (h2.1 a z)
  subst B;rw[zQ ((perm_cons a).mp hp) h1.2 h2.2]
theorem qC {l m:List Int} (h:m.Perm l) (z:m.Pairwise (·<=·)):m=srt l:=zQ (h.trans (gU l).symm) z (sD l)
def eX (mS:List (Str × Str)) (mI:List (Int × Int)) (x:Str × List Int):Str × List Int:=(ld mS x.1,srt (x.2.map (ld mI)))
def Im:Sp:=λvs H Q _=>∃(t na va f:Addr) (mS:List (Str × Str)) (mI:List (Int × Int)) (xs:List (Str × Addr × List Int)),vs=[.ref t,.ref f]/\br H t na va mS mI/\(f≠na/\f≠va)/\H f=some (.dK (kvR xs))/\RmT H xs/\(xs.map (·.1)).Nodup/\xs.length<=40/\(∀x∈xs,x.2.2.length<=60) /\
 ∀p ys H',H p=none->am H H'->H' p=some (.dK (kvR ys))->RmT H' ys->dat ys=(dat xs).map (eX mS mI)->Q (.ref p) H'
abbrev Ec:=Fn P w K mg base "turned_rooms" 3 ["turning","rooms"] (Im)
theorem lH (T:Txt w K mg base) (L:FnL K mg "turned_rooms" dh ["turning","rooms"]) (Fm : @Dz9 P w K mg base) (Fc : @sU P w K mg base) : @Ec P w K mg base:=by
 ctx_has z lG <;> obtain⟨t,na,va,f,mS,mI,xs,rfl,T0,nf,hf,ad,az,hl,ar,k⟩:=h
 .rfl
 refine⟨_,(ai (aB (aF (oP rfl) T.b_dict (aa (kq (aZ (N:=["cell","room","turning"]) (nt:=2) (js:=[0]) (aH ["turning","rooms"] (ak dh).names) (og (pvM 1)) (de (n:=2) rfl (aW (aA 0) (aW (aA 1) cO))) cT aV (aI (aa (ah Fm (aa (ao ap (pvM 2) ae) (aa (pvM 0) ac))) (aa (aF aO T.b_tuple (aa (aE gu T.b_sorted (aa (ah Fc (aa (ao ap (pvM 2) ae) (aa (pvM 1) ac))) ac)) ac)) ac))))) ac)))),?_⟩
 have e1:=T0.ht;ctx_has v kK iI hf vz
 refine⟨f,_,hf,λo D hD=>?_⟩
 have fD:D≠f:=λz=>by rw[z,ab] at hD;cases hD
 have an:H D=none:=by rw[ag fD] at hD;exact hD
 refine sv (λj ys H'=>∃bs:List (Addr × Str × Addr × List Int),ys=bs.map (λx=>V.ref x.1)/\dat (bs.map (·.2))=(dat (xs.take j)).map (eX mS mI)/\(∀x∈bs,H' x.1=some (.tup [.str x.2.1,.ref x.2.2.1]))/\RmT H' (bs.map (·.2))/\H' D=some (.lst ys)/\H' f=some (.frz o (.dK (kvR xs)))/\∀b u,b≠f->H b=some u->H' b=some u)
  ⟨[],rfl,rfl,by simp,by unfold RmT;simp,ab,by rw[ag fD.symm];exact ab,λb u B e=>by rw[ag (aj e an),ag B];exact e⟩ (λj ys H' aq=>by obtain⟨_,_,_,_,_,_,h,_⟩:=aq;exact(h)) ?_ ?_
 .rintro j kk x ys H2 tt hj ⟨bs,rfl,B,hbt,hbr,h2D,h2f,k2⟩ htt
  obtain⟨y,Z,e⟩ : ∃y,xs[j]? = some y/\(Sum.inr y.1,V.ref y.2.1)=(kk,x):=by
   unfold kvR at hj;rw[List.getElem?_map] at hj;cases e:xs[j]? with
   | none=>rw[e] at hj;cases hj
   | some nm=>rw[e] at hj;exact⟨nm,rfl,Option.some.inj hj⟩
  cases e;have a3:j < xs.length:=(List.getElem?_eq_some_iff.mp Z).1
  have U:=mem_of_getElem? Z;have s3:=am.upd0 (o:=.tup [.str y.1,.ref y.2.1]) htt;have k3 : ∀b u,b≠f->H b=some u->upd H2 tt (.tup [.str y.1,.ref y.2.1]) b=some u:=λb u B e=>s3 _ _ (k2 b u B e)
  have e3:=k3 t _ (aX e1 hf (by intro z;cases z)) e1
  have aw:=k3 na _ nf.1.symm T0.hn;have a1:=k3 va _ nf.2.symm T0.hv;have a0:=k3 y.2.1 _ (aX (ad y U) hf (by intro z;cases z)) (ad y U)
  have a2:bs.length<=j:=by
   have:=congrArg List.length B
   unfold dat at this;rw[length_map,length_map,length_map,length_map] at this;rw[this];exact length_take_le _ _
  ctx_has v ab kV e3
  refine jF aw ?_
  refine⟨_,e3,_,aM (j:=1) rfl,?_⟩
  refine gm a1 a0 (ar y U) λp H4 s4 hp=>?_
  ctx_has v hp
  refine⟨_,rfl,by rw[length_map];have:=ar y U;omega,λq ms hq au av l hl=>⟨by decide,λp2 Y=>?_⟩⟩
  have s5:=((am.upd0 (o:=HO.lst (ms.map V.int)) hq).upd_new (o:=HO.tup (ms.map V.int)) hl).upd_new (o:=HO.tup [.str (ld mS y.1),.ref l]) Y;have lp:l≠p2:=λz=>by rw[<- z,ab] at Y;cases Y
  have e5:upd (upd (upd H4 q (HO.lst (ms.map V.int))) l (HO.tup (ms.map V.int))) p2 (HO.tup [.str (ld mS y.1),.ref l]) l=some (HO.tup (ms.map V.int)):=by rw[ag lp];exact ab
  have e6:upd (upd (upd H4 q (HO.lst (ms.map V.int))) l (HO.tup (ms.map V.int))) p2 (HO.tup [.str (ld mS y.1),.ref l]) p2=some (HO.tup [.str (ld mS y.1),.ref l]):=ab
  generalize upd (upd (upd H4 q (HO.lst (ms.map V.int))) l (HO.tup (ms.map V.int))) p2 (HO.tup [.str (ld mS y.1),.ref l])=H5 at s5 e5 e6 ⊢;have sA:=s3.trans (s4.trans s5);have af:=sA _ _ h2D;have kt : ∀b vs,H5 b=some (.tup vs)->upd H5 D (.lst (bs.map (λx=>V.ref x.1)++[.ref p2])) b=some (.tup vs):=λb vs q=>by rw[ag (aX q af (by intro z;cases z))];exact q
  refine⟨af,by rw[length_map];exact ax (by omega),bs++[(p2,ld mS y.1,l,ms)],by simp,?_,λx F=>?_,λx F=>?_,?_,λb u B e=>?_⟩
  .have et:xs.take (j+1)=xs.take j++[y]:=by rw[take_add_one,Z];rfl
   rw[et];unfold dat at B ⊢;rw[map_append,map_append,B,map_append,map_append]
   show _++[(ld mS y.1,ms)]=_++[(ld mS y.1,srt (y.2.2.map (ld mI)))]
   rw[qC au av]
  .rcases mem_append.mp F with q | q
   .exact kt _ _ (sA _ _ (hbt x q))
   .rw[mem_singleton.mp q];exact kt _ _ e6
  .rw[map_append] at F
   rcases mem_append.mp F with q | q
   .exact kt _ _ (sA _ _ (hbr x q))
   .rw[show x=(ld mS y.1,l,ms) by simpa using q];exact kt _ _ e5
  .rw[ag fD.symm];exact sA _ _ h2f
  .rw[ag (aj e an)];exact sA _ _ (k2 b u B e)
 .rintro ys H2 ⟨bs,rfl,B,hbt,hbr,h2D,h2f,k2⟩
  have hl2:(kvR xs).length=xs.length:=by unfold kvR;rw[length_map]
  rw[hl2,take_length] at B;have s3:am H (upd H2 f (.dK (kvR xs))):=λb u e=>by
   by_cases B:b=f
   .subst B;rw[ab,<- e,hf]
   .rw[ag B];exact k2 b u B e
  have a2:bs.length=xs.length:=by have:=congrArg List.length B;unfold dat at this;simpa using this
  refine⟨⟨o,h2f⟩,D,rfl,_,.inr (by rw[ag fD];exact h2D),kvR (bs.map (·.2)),⟨bs.map λx=>(x.1,Sum.inr x.2.1,.ref x.2.2.1),by rw[map_map];rfl,by unfold kvR;rw[map_map,map_map];rfl,λx F=>?_⟩,by unfold kvR;rw[length_map,length_map];exact le_of_lt (ax (by omega)),λp hp=>?_⟩
  .obtain⟨y,Z,rfl⟩:=mem_map.mp F
   rw[ag (aX (hbt y Z) h2f (by intro z;cases z))]
   exact hbt y Z
  .rw[ic _ [] ?_]
   .refine k p _ _ (s3.free hp) (s3.upd_new hp) ab (λx F=>?_) B
    rw[ag (aj (show upd H2 f (HO.dK (kvR xs)) x.2.1=some (.tup (x.2.2.map V.int)) by rw[ag (aX (hbr x F) h2f (by intro z;cases z))];exact hbr x F) hp),ag (aX (hbr x F) h2f (by intro z;cases z))]
    exact hbr x F
   .have hk:=congrArg (List.map λx:Str × List Int=>(Sum.inr x.1:Key)) B
    have e1:(kvR (bs.map (·.2))).map (·.1)=(dat (bs.map (·.2))).map λx=>(Sum.inr x.1:Key):=by unfold kvR dat;simp only[map_map];rfl
    have e2:((dat xs).map (eX mS mI)).map (λx=>(Sum.inr x.1:Key))=(xs.map (·.1)).map λs=>Sum.inr (ld mS s):=by unfold dat;simp only[map_map];rfl
    rw[nil_append,e1,hk,e2];exact List.Pairwise.map _ (λa b ay e=>ay (dj T0.ps (Sum.inr.inj e))) az
theorem xL : ∀{W:Wi},okW ws ns W->szT W
 | .un _,⟨_,_,_,d⟩=>d
 | .mn _ _ _ _,⟨⟨_,_,_,d⟩,_,_,e⟩=>⟨e,d⟩
 | .sm ts _ _,⟨⟨_,_,_,d⟩,_⟩=>by simpa [szT] using d
 | .tb cs rows,⟨⟨_,_,_,d⟩,_,e,f⟩=>⟨d,by omega,λr z=>by rw[e r z];exact d⟩
 | .wy _ _ _,⟨⟨_,_,_,d⟩,_,f,_⟩=>⟨d,f⟩
 | .bh _ _,⟨_,_,_,d⟩=>d
theorem ma : ∀{W:Wx},okX ws ns W->Dp W
 | .pl _,h=>xL h
 | .sa _ _ _,h=>⟨xL h.2.2.1,h.2.1.2.2⟩
theorem gi (h:PM mS) {ws:List Str} (F : ∀x∈mS,x.1∈ws) {c:Str} (U:c∈ws):ld mS c∈ws:=by
 by_cases z:c∈mS.map (·.1)
 .have:=kY h z
  obtain⟨y,B,e⟩:=mem_map.mp this;rw[<- e];exact F y B
 .rw[cR z];exact U
theorem rK {w:Addr} {W:Wx} {Q:VK} {E:XK} (tb:bP H) (B:WX H w W) (z:okX ws ns W) (k : ∀r H',am H H'->WX H' r (dv W)->Q (.ref r) H'):A9 [.ref w] H Q E\/xJ [.ref w] H Q E:=by
 cases W with
 | pl W=>exact .inl ⟨w,ws,ns,W,rfl,tb,B,z,k⟩
 | sa c vs W=>exact .inr ⟨w,ws,ns,c,vs,W,rfl,tb,B,z,k⟩
theorem Ee {w:Addr} {W:Wx} {Q:VK} {E:XK} (D:aC H d l) (F:WX H w W) (B:okX ws ns W) (k : ∀r z H',WX H' r z->wc W z->aC H' d l->But d l H H'->Q (.ref r) H'):zu [.ref d,.ref w] H Q E\/Aq [.ref d,.ref w] H Q E:=by
 cases W with
 | pl W=>exact .inl ⟨d,l,w,ws,ns,W,rfl,D,F,B,λr z H' h m=>k r (.pl z) H' h m⟩
 | sa c vs W=>exact .inr ⟨d,l,w,ws,ns,c,vs,W,rfl,D,F,B,k⟩
theorem bP.but (h:bP H) (D:aC H d l) (B:But d l H H'):bP H':=λt F=>by
 obtain⟨m,U,n,xs,e1,e2,_⟩:=D.ex;exact B _ _ (aX (h t F) e1 (by intro z;cases z)) (aX (h t F) e2 (by intro z;cases z)) (h t F)
noncomputable def dP (W:Wx):PyData:=cC (dv W)
noncomputable def cn (l:List PyData) (d:PyData):Nat:=l.count d
noncomputable def nZ (l:List PyData) (d:PyData):Option Int:=if cn l d=0 then none else some (cn l d:Nat)
theorem wg (d:PyData):cn [] d=0:=by unfold cn;exact List.count_nil
theorem qX (l:List PyData) (x d:PyData):cn (l++[x]) d=cn l d+if d=x then 1 else 0:=by
 unfold cn;rw[List.count_append,List.count_singleton]
 by_cases h:d=x
 .subst h;simp
 .have : ¬ x=d:=λe=>h e.symm
  simp[h,this]
theorem sf (l:List PyData) (x d:PyData):cn (x :: l) d=cn l d+if d=x then 1 else 0:=by
 unfold cn;rw[List.count_cons]
 by_cases h:d=x
 .subst h;simp
 .have : ¬ x=d:=λe=>h e.symm
  simp[h,this]
theorem mG (l:List PyData) (d:PyData):(nZ l d).getD 0=(cn l d:Nat):=by
 unfold nZ;split
 .next h=>rw[h];rfl
 .rfl
theorem iG {α:Type} {f:α->PyData} : ∀{l:List α},(∀x∈l,eu (f x)=true)->bM (l.map f)=true
 | [],_=>rfl
 | x :: l,h=>by rw[map_cons,bM,h x (by simp),iG λy z=>h y (by simp[z])];rfl
theorem jM (ns:List Int):bM (ns.map PyData.int)=true:=iG λ_ _=>rfl
theorem ir {cs:List Str} (h : ∀c∈cs,bS c):bM (cs.map PyData.str)=true:=iG λc z=>by
 have:=tG (h c z)
 rw[PyData.canLay0] at this;exact this
theorem GS (o:Option Int):eu (bD o)=true:=by cases o <;> rfl
theorem C1 {W:Wi} (h : ∀c∈fz W,bS c):eu (bL W)=true:=by
 cases W with
 | un cs=>simp[bL,eu,bM,ir (cs:=cs) h,Gx]
 | mn F cs lo hi=>simp[bL,eu,bM,ir (cs:=cs) h,jM,Gn]
 | sm ts lo hi =>
  have h1:bM (ts.map λx=>.tuple [.int x.1,.str x.2])=true:=iG λx B=>by
   have:=tG (h x.2 (mem_map.mpr ⟨x,B,rfl⟩))
   rw[PyData.canLay0] at this;simp[eu,bM,this]
  simp[bL,eu,bM,h1,GS,Hr]
 | tb cs rows =>
  have h1:bM (rows.map λr=>.tuple (r.map .int))=true:=iG λr _=>by rw[eu];exact jM r
  simp[bL,eu,bM,ir (cs:=cs) h,h1,Hg]
 | wy cs ps es =>
  have h1:bM (ps.map λx=>.tuple [.int x.1,.int x.2.1,.int x.2.2])=true:=iG λx _=>by simp[eu,bM]
  simp[bL,eu,bM,ir (cs:=cs) h,jM,h1,Ht]
 | bh cs z=>simp[bL,eu,bM,ir (cs:=cs) h,Gy]
theorem CV {W:Wx} (h : ∀c∈rX W,bS c):oR (cC W):=by
 cases W with
 | pl W=>exact⟨C1 h,le_trans (wH W) (by decide)⟩
 | sa c vs W =>
  have z:=tG (h c mem_cons_self);have hw:=C1 (W:=W) λc B=>h c (mem_cons_of_mem _ B)
  have F:=wH W;rw[PyData.canLay0] at z;refine⟨by simp[cC,eu,bM,jM,hw,z,Gk],?_⟩
  simp[cC,PyData.depth,PyData.depthAll,depth_ints]
  omega
theorem AU {W:Wx} (nm : ∀c∈ws,bS c) (ok:okX ws ns W):oR (dP W):=CV λc z=>nm c (kU (wV ok (jt ok)) c z)
def kg (H:Hp) (us:List V) (Ws:List Wx):Prop:=∃bs:List (Addr × Wx),us=bs.map (λx=>V.ref x.1)/\bs.map (·.2)=Ws/\∀x∈bs,WX H x.1 x.2
theorem kg.keep {us:List V} {Ws:List Wx} (h:kg H us Ws) (k : ∀a xs,H a=some (.tup xs)->H' a=some (.tup xs)):kg H' us Ws:=by
 obtain⟨bs,h1,h2,z⟩:=h;exact⟨bs,h1,h2,λx B=>bU (z x B) k⟩
structure pz (H:Hp) (t:Addr) (us:List V) (Ws:List Wx) (ws:List Str) (ns:List Int):Prop where
 ht:H t=some (.tup us)
 wa:kg H us Ws
 ok : ∀W∈Ws,okX ws ns W
 nm : ∀c∈ws,bS c
 ln:Ws.length<=40
theorem pz.same {us:List V} {Ws:List Wx} (h:pz H t us Ws ws ns) (s:am H H'):pz H' t us Ws ws ns :=
 ⟨s _ _ h.ht,h.wa.keep λa xs e=>s _ _ e,h.ok,h.nm,h.ln⟩
theorem pz.at {H:Hp} {t:Addr} {us:List V} {Ws:List Wx} {ws:List Str} {ns:List Int} (h:pz H t us Ws ws ns) {i:Nat} {x:V} (z:us[i]? = some x) : ∃w W,x = .ref w/\Ws[i]? = some W/\WX H w W/\W∈Ws:=by
 obtain⟨bs,rfl,rfl,B⟩:=h.wa;rw[List.getElem?_map] at z;cases e:bs[i]? with
 | none=>rw[e] at z;cases z
 | some y =>
  rw[e] at z;cases Option.some.inj z;exact⟨y.1,y.2,rfl,by rw[List.getElem?_map,e];rfl,B y (mem_of_getElem? e),mem_map.mpr ⟨y,mem_of_getElem? e,rfl⟩⟩
theorem pz.len {us:List V} {Ws:List Wx} (h:pz H t us Ws ws ns):us.length=Ws.length:=by
 obtain⟨bs,rfl,rfl,z⟩:=h.wa;rw[length_map,length_map]
def fQ (H:Hp) (kvs:List CT):Prop:=∀x∈kvs,∃W,oR (cC W)/\x.1=cC W/\WX H x.2.1 W
theorem fQ.ins {kvs:List CT} (h:fQ H kvs):kI K H kvs:=λx z=>by
 obtain⟨W,a,b,c⟩:=h x z;rw[b];exact⟨a,lj c⟩
theorem fQ.keep {kvs:List CT} (h:fQ H kvs) (k : ∀a xs,H a=some (.tup xs)->H' a=some (.tup xs)):fQ H' kvs:=λx z=>by
 obtain⟨W,a,b,c⟩:=h x z;exact⟨W,a,b,bU c k⟩
theorem fQ.put {kvs:List CT} {W:Wx} {n:Int} (h:fQ H kvs) (U:oR (cC W)) (F:WX H b W):fQ H (gZ kvs (cC W) b n):=λx B=>by
 unfold gZ at B
 split at B
 .obtain⟨y,hy,rfl⟩:=mem_map.mp B
  have:=h y hy
  by_cases z:y.1=cC W
  .rw[if_pos z];exact this
  .rw[if_neg z];exact this
 .rcases mem_append.mp B with z | z
  .exact h x z
  .rw[mem_singleton.mp z];exact⟨W,U,rfl,F⟩
theorem qr {p:Addr} (h:H p=some (.ext φ)) : ∀a xs,H a=some (.tup xs)->upd H p o a=some (.tup xs):=λa xs e=>by
 rw[ag (aX e h (by intro z;cases z))];exact e
def GZ (P:Program) (w:World):Sp:=λvs H Q _=>∃(t:Addr) (us:List V) (Ws:List Wx) (ws:List Str) (ns:List Int),vs=[.ref t]/\bP H/\pz H t us Ws ws ns /\
 ∀r o kvs H',am H H'->H' r=some (cU P w r o kvs)->fQ H' kvs->(∀d,atC kvs d=nZ (Ws.map dP) d)->kvs.length<=Ws.length->Q (.ref r) H'
theorem tE {l:List PyData} {kvs:List CT} {x:PyData} (h : ∀d,atC kvs d=nZ l d) (d:PyData):atC (gZ kvs x a ((cn l x:Nat)+1)) d=nZ (l++[x]) d:=by
 rw[xj,h];unfold nZ;rw[qX]
 by_cases e:d=x
 .subst e
  rw[if_pos rfl,if_pos rfl,if_neg (by omega)]
  rfl
 .rw[if_neg e,if_neg e,Nat.add_zero]
theorem oS (T:Txt w K mg base) (L:FnL K mg "plain_forms" fj ["wishes"]) (Fi : @Bq P w K mg base) (Fl : @Es P w K mg base):Fn P w K mg base "plain_forms" 5 ["wishes"] (GZ P w):=by
 ctx_has z mH <;> obtain⟨t,us,Ws,ws,ns,rfl,tb,U,k⟩:=h
 .rfl
 refine⟨_,(af (az 1 (uQ (P:=P) (w:=w) rfl rfl))
  (af (bC (jq (K:=K) rfl (pvM 0)) (aA 2) (af (az 3 (eE Fi Fl (aa (pvM 2) ac)))
  (ai (wP (P:=P) (w:=w) (K:=K) rfl rfl rfl (hu9 hr) (pvM 1) (pvM 3) (aN bz (sK (P:=P) (w:=w) (K:=K) rfl rfl rfl (hu9 hr) (pvM 1) (pvM 3) ae ⟨rfl,rfl,rfl,rfl⟩) ae) rfl))))
  (ai (aB (pvM 1))))),?_⟩
 have h1:=U.ht;have aj:=U.len;ctx_has v
 intro p o H2 hp s2 h2;refine⟨us,s2 _ _ h1,?_⟩
 refine bR ba (λi σ H'=>∃v2 v3 o kvs,σ=[some (.ref t),some (.ref p),v2,v3]/\H' p=some (cU P w p o kvs)/\fQ H' kvs/\(∀d,atC kvs d=nZ ((Ws.take i).map dP) d)/\kvs.length<=i/\am H H') ⟨_,_,o,[],rfl,h2,(λx hx=>by cases hx),(λd=>by unfold nZ;rw[List.take_zero,map_nil,wg];rfl),zero_le _,s2⟩ (λi σ H' Y=>by obtain⟨_,_,_,_,_,_,_,_,_,s⟩:=Y;exact(.of (s _ _ h1))) ?_ ?_
 .rintro i x σ H3 hi hx ⟨v2,v3,o3,kvs,rfl,h3,hk,hc,hl,s3⟩
  obtain⟨wv,W,rfl,ag,ah,hm⟩:=(U.same s3).at hx;ctx_has v
  refine rK (tb.same s3) ah (U.ok W hm) λr H4 s4 h4=>?_
  have B:=hk.keep (λa xs e=>s4 a _ e)
  have ad:=lj (K:=K) h4;have F:=AU U.nm (U.ok W hm);have ak:=U.ln;have Z:=s4 _ _ h3;ctx_has v Z
  have et:(Ws.take (i+1)).map dP=(Ws.take i).map dP++[dP W]:=by rw[take_add_one,ag];simp
  refine⟨⟨_,_,rfl,B.ins⟩,_,_,rfl,B.ins,_,F,ad,_,_,rfl,B.ins,by omega,_,F,ad,λo'=>⟨_,_,ab,(B.put F h4).keep (qr Z),λd=>?_,?_,(s3.trans s4).putN hp⟩⟩
  .rw[hc,mG,et]
   exact tE hc d
  .exact le_trans (mZ _ _ _ _) (by omega)
 .rintro σ H3 ⟨v2,v3,o3,kvs,rfl,h3,hk,hc,hl,s3⟩
  rw[aj,take_length] at hc;ctx_has v
  exact k p o3 kvs H3 s3 h3 hk hc (by omega)
def Led (mS:List (Str × Str)) (mI:List (Int × Int)) (Ws:List Wx) (L:List PyData):Prop:=∃z:List Wx,Ws.map (bF mS mI)=z.map some/\∀d,cn (z.map dP) d<=cn L d
theorem Cc {Ws:List Wx} {L:List PyData} (h:Led mS mI Ws L) {i:Nat} {B:List Wx} (U:(Ws.take i).map (bF mS mI)=B.map some) (d:PyData):cn (B.map dP) d<=cn L d:=by
 obtain⟨F,e,h⟩:=h;have:B=F.take i:=by
  have e2:(B.map some:List (Option Wx))=(F.take i).map some:=by rw[<- U,map_take,e,map_take]
  exact(List.map_inj_right λa b z=>Option.some.inj z).mp e2
 subst this;refine le_trans ?_ (h d)
 unfold cn;rw[map_take];exact(take_sublist i _).count_le d
theorem zm {Ws:List Wx} {L:List PyData} (h:Led mS mI Ws L) {i:Nat} {W:Wx} (U:Ws[i]? = some W):bF mS mI W≠none:=λz=>by
 obtain⟨F,e,h⟩:=h;have:(Ws.map (bF mS mI))[i]? = some none:=by rw[List.getElem?_map,U,Option.map_some,z]
 rw[e,List.getElem?_map] at this;cases B:F[i]? with
 | none=>rw[B] at this;cases this
 | some u=>rw[B] at this;cases this
structure TOk (mS:List (Str × Str)) (mI:List (Int × Int)) (Ws:List Wx) (ws':List Str) (ns:List Int):Prop where
 ok : ∀W∈Ws,∀V,bF mS mI W=some V->okX ws' ns V
 nm : ∀c∈ws',bS c
def GI (P:Program) (w:World):Sp:=λvs H Q _=>∃(t na va B z:Addr) (mS:List (Str × Str)) (mI:List (Int × Int)) (us:List V) (Ws:List Wx) (ws ws':List Str) (ns:List Int) (o:Obj) (kvs:List CT) (L:List PyData),vs=[.ref t,.ref B,.ref z]/\bP H/\br H t na va mS mI/\pz H B us Ws ws ns/\TOk mS mI Ws ws' ns /\
 H z=some (cU P w z o kvs)/\fQ H kvs/\(∀d,atC kvs d=nZ L d)/\∀(b:Bool) H',am H H'->(b=true↔Led mS mI Ws L)->Q (.bl b) H'
abbrev GB:=Fn P w K mg base "leads_wishes_among" 8 ["turning","wishes","forms"] (GI P w)
theorem gE (T:Txt w K mg base) (L:FnL K mg "leads_wishes_among" cu ["turning","wishes","forms"]) (Fu : @Cu P w K mg base) (Fi : @Bq P w K mg base) (Fl : @Es P w K mg base) : @GB P w K mg base:=by
 ctx_has z gF <;> obtain⟨t,na,va,tw,fm,mS,mI,us,Ws,ws,ws',ns,o,kvs,L,rfl,tb,T0,hW,hT,ar,aq,av,k⟩:=h
 .rfl
 refine⟨_,(af (az 3 (uQ (P:=P) (w:=w) rfl rfl))
  (af (bC (jq (K:=K) rfl (pvM 1)) (aA 4) (af (az 5 (ah Fu (aa (pvM 0) (aa (pvM 4) ac))))
  (af (aK (il (qN (pvM 5))) (ai (aB jT)) aD)
  (af (az 6 (eE Fi Fl (aa (pvM 5) ac)))
  (af (wP (P:=P) (w:=w) (K:=K) rfl rfl rfl (hu9 hr) (pvM 3) (pvM 6) (aN bz (sK (P:=P) (w:=w) (K:=K) rfl rfl rfl (hu9 hr) (pvM 3) (pvM 6) ae ⟨rfl,rfl,rfl,rfl⟩) ae) rfl)
  (ai (aK (ay uc (DW (P:=P) (w:=w) (K:=K) rfl rfl rfl (hu9 hr) (pvM 3) (pvM 6) (λ_ _=>rfl)) (sK (P:=P) (w:=w) (K:=K) rfl rfl rfl (hu9 hr) (pvM 2) (pvM 6) ae ⟨rfl,rfl,rfl,rfl⟩)) (ai (aB jT)) aD)))))))
  (ai (aB jT)))),?_⟩
 have h1:=hW.ht;have aw:=hW.len;have a0:=hW.ln;ctx_has v
 intro p o2 H2 hp s2 h2;refine⟨us,s2 _ _ h1,?_⟩
 refine bR ba (λi σ H'=>∃v4 v5 v6 o kvs,σ=[some (.ref t),some (.ref tw),some (.ref fm),some (.ref p),v4,v5,v6]/\H' p=some (cU P w p o kvs)/\fQ H' kvs/\(∃F,(Ws.take i).map (bF mS mI)=F.map some/\(∀d,atC kvs d=nZ (F.map dP) d)/\∀d,cn (F.map dP) d<=cn L d)/\kvs.length<=i/\am H H')
  ⟨_,_,_,o2,[],rfl,h2,(λx hx=>by cases hx),⟨[],by simp,(λd=>by unfold nZ;rw[map_nil,wg];rfl),λd=>by rw[map_nil,wg];exact zero_le _⟩,zero_le _,s2⟩ (λi σ H' ao=>by obtain⟨_,_,_,_,_,_,_,_,_,_,s⟩:=ao;exact(.of (s _ _ h1))) ?_ ?_
 .rintro i x σ H3 hi hx ⟨v4,v5,v6,o3,kv3,rfl,h3,hk,⟨F,hV,hc,hle⟩,hl,s3⟩
  obtain⟨wv,W,rfl,ak,ax,hm⟩:=(hW.same s3).at hx;have eT:(Ws.take (i+1)).map (bF mS mI)=F.map some++[bF mS mI W]:=by rw[take_add_one,ak,map_append,hV];rfl
  ctx_has v
  refine⟨t,wv,na,va,mS,mI,W,rfl,T0.same s3,ax,ma (hW.ok W hm),λv H4 s4 hv=>?_⟩
  have Z:=s3.trans s4;cases ht:bF mS mI W with
  | none =>
   rw[ht] at hv;cases (show v = .non from hv)
   ctx_has v
   exact k false H4 Z ⟨λz=>(by cases z),λz=>absurd ht (zm z ak)⟩
  | some B =>
   rw[ht] at hv eT;obtain⟨wt,rfl,ap⟩:=hv;have ad:=hT.ok W hm B ht;have aj:(Ws.take (i+1)).map (bF mS mI)=(F++[B]).map some:=by rw[eT,map_append];rfl
   ctx_has v
   refine rK (tb.same Z) ap ad λr H5 s5 h5=>?_
   have au:=Z.trans s5;have Y:=hk.keep (λa xs e=>s5 a _ (s4 a _ e))
   have ag:=lj (K:=K) h5;have U:=AU hT.nm ad;have an:=s5 _ _ (s4 _ _ h3);ctx_has v an
   refine⟨⟨_,_,rfl,Y.ins⟩,_,_,rfl,Y.ins,_,U,ag,_,_,rfl,Y.ins,by omega,_,U,ag,λo'=>?_⟩
   rw[hc,mG];have gp:upd H5 p (cU P w p o' (gZ kv3 (dP B) r ((cn (F.map dP) (dP B):Nat)+1))) p=some (cU P w p o' (gZ kv3 (dP B) r ((cn (F.map dP) (dP B):Nat)+1))):=ab
   have sG:am H (upd H5 p (cU P w p o' (gZ kv3 (dP B) r ((cn (F.map dP) (dP B):Nat)+1)))):=au.putN hp
   have gt:=qr (o:=cU P w p o' (gZ kv3 (dP B) r ((cn (F.map dP) (dP B):Nat)+1))) an;have kp:=(Y.put (n:=(cn (F.map dP) (dP B):Nat)+1) U h5).keep gt;have rg:=lj (K:=K) (bU h5 gt);change fQ _ (gZ kv3 (dP B) r _) at kp;change Rep K _ _ (dP B) at rg;generalize upd H5 p (cU P w p o' (gZ kv3 (dP B) r ((cn (F.map dP) (dP B):Nat)+1)))=G at gp sG gt kp rg ⊢;have gf:=sG _ _ ar;have kf:=aq.keep (λa xs e=>sG a _ e)
   have ec:((F++[B]).map dP)=F.map dP++[dP B]:=by rw[map_append];rfl
   refine⟨_,_,gp,kp.ins,_,U,rg,_,by rw[xj,if_pos rfl],⟨_,_,gf,kf.ins⟩,_,_,gf,kf.ins,_,U,rg,?_⟩
   rw[av,mG];refine cG (λh=>?_) (λh=>?_)
   .refine k false G sG ⟨λz=>(by cases z),λz=>?_⟩
    have:=Cc z aj (dP B)
    rw[ec,qX,if_pos rfl] at this;omega
   .refine⟨_,_,gp,kp,⟨F++[B],aj,λd=>?_,λd=>?_⟩,le_trans (mZ _ _ _ _) (by omega),sG⟩
    .rw[ec];exact tE hc d
    .rw[ec,qX]
     by_cases e:d=dP B
     .subst e;rw[if_pos rfl];omega
     .rw[if_neg e];exact hle d
 .rintro σ H3 ⟨v4,v5,v6,o3,kv3,rfl,h3,hk,⟨F,hV,hc,hle⟩,hl,s3⟩
  rw[aw,take_length] at hV;ctx_has v
  exact k true H3 s3 ⟨λ_=>⟨F,hV,hle⟩,λ_=>rfl⟩
theorem zZ (xs:List (Str × Addr × List Int)):(kvR xs).map (·.1)=xs.map λx=>(Sum.inr x.1:Key):=by unfold kvR;rw[map_map];rfl
theorem zn {xs:List (Str × Addr × List Int)} (h:(xs.map (·.1)).Nodup):((kvR xs).map (·.1)).Nodup:=by
 rw[zZ];have:(xs.map λx=>(Sum.inr x.1:Key))=(xs.map (·.1)).map Sum.inr:=by rw[map_map];rfl
 rw[this];exact List.Pairwise.map _ (λa b z e=>z (Sum.inr.inj e)) h
def rD (mS:List (Str × Str)) (mI:List (Int × Int)) (ds:List (Str × List Int)):Prop:=(∀x∈mS,x.1∈ds.map (·.1))/\∀x∈ds,eX mS mI x∈ds
structure xT (H:Hp) (r:Addr) (xs:List (Str × Addr × List Int)):Prop where
 hr:H r=some (.dK (kvR xs))
 rt:RmT H xs
 nd:(xs.map (·.1)).Nodup
 ln:xs.length<=40
 rl : ∀x∈xs,x.2.2.length<=60
theorem dH {k:Key} : ∀{l:List (Key × V)},(bu l k).isSome=true↔k∈l.map (·.1)
 | []=>by simp[bu]
 | x :: l=>by
  by_cases h:x.1=k
  .rw[bc h];simp[h]
  .rw[aQ h,dH]
   simp only[map_cons,mem_cons];exact⟨.inr,λz=>z.elim (λe=>absurd e.symm h) id⟩
def lk (ds:List (Str × List Int)) (s:Str):List Int:=((ds.find? λx=>decide (x.1=s)).map (·.2)).getD []
def lkK (ds:List (Str × List Int)):Key->List Int
 | .inr s=>lk ds s
 | .inl _=>[]
theorem kS : ∀{ds:List (Str × List Int)} {x:Str × List Int},(ds.map (·.1)).Nodup->x∈ds->lk ds x.1=x.2
 | [],_,_,h=>by cases h
 | y :: ds,x,hn,h=>by
  rw[map_cons,nodup_cons] at hn;unfold lk;rw[find?_cons];rcases mem_cons.mp h with rfl | h
  .simp
  .have : ¬ y.1=x.1:=λe=>hn.1 (by rw[e];exact mem_map.mpr ⟨x,h,rfl⟩)
   simp only[this,decide_false];exact kS hn.2 h
theorem AM : ∀{ds:List (Str × List Int)} {s:Str},s∈ds.map (·.1)->(s,lk ds s)∈ds
 | [],_,h=>by cases h
 | y :: ds,s,h=>by
  unfold lk;rw[find?_cons]
  by_cases e:y.1=s
  .subst e;simp
  .simp only[e,decide_false]
   rw[map_cons,mem_cons] at h;rcases h with z | z
   .exact absurd z.symm e
   .exact mem_cons_of_mem _ (AM z)
theorem sH {xs:List (Str × Addr × List Int)} {s:Str}:(Sum.inr s:Key)∈(kvR xs).map (·.1)↔s∈(dat xs).map (·.1):=by
 unfold kvR dat;rw[map_map,map_map]
 constructor
 .intro h
  obtain⟨x,z,e⟩:=mem_map.mp h;exact mem_map.mpr ⟨x,z,Sum.inr.inj e⟩
 .intro h
  obtain⟨x,z,e⟩:=mem_map.mp h;exact mem_map.mpr ⟨x,z,congrArg Sum.inr e⟩
theorem ga (xs:List (Str × Addr × List Int)):(dat xs).map (·.1)=xs.map (·.1):=by unfold dat;rw[map_map];rfl
theorem Ar {xs:List (Str × Addr × List Int)}:((mS.map λx=>(bu (kvR xs) (Sum.inr x.1)).isSome).all id=true)↔∀x∈mS,x.1∈(dat xs).map (·.1):=by
 rw[all_map,all_eq_true];exact⟨λh x z=>sH.mp (dH.mp (h x z)),λh x z=>dH.mpr (sH.mpr (h x z))⟩
theorem kM:(ds.map (eX mS mI)).map (·.1)=(ds.map (·.1)).map (ld mS):=by
 rw[map_map,map_map];rfl
theorem tQ (h:PM mS) {l:List Str} (hn:l.Nodup):(l.map (ld mS)).Nodup:=by
 exact pairwise_map.mpr (hn.imp λne e=>ne (dj h e))
theorem Ek {xs:List (Str × Addr × List Int)} (hS:PM mS) (hd:dat ys=(dat xs).map (eX mS mI)) (hn:(xs.map (·.1)).Nodup) (hx:RmT H xs) (hy:RmT H ys) (Z : ∀x∈mS,x.1∈(dat xs).map (·.1)) :
  zr H (kvR ys) (kvR xs) (lkK (dat ys)) (lkK (dat xs)):=by
 have Y:((dat ys).map (·.1)).Nodup:=by rw[hd,kM,ga];exact tQ hS hn
 have U:((dat xs).map (·.1)).Nodup:=by rw[ga];exact hn
 intro p hp;obtain⟨y,F,rfl⟩:=mem_map.mp hp;have B:(y.1,y.2.2)∈dat ys:=mem_map.mpr ⟨y,F,rfl⟩
 have hk:y.1∈(dat xs).map (·.1):=by
  have:y.1∈(dat ys).map (·.1):=mem_map.mpr ⟨_,B,rfl⟩
  rw[hd,kM] at this;obtain⟨c,hc,e⟩:=mem_map.mp this;rw[<- e];exact gi hS Z hc
 rw[ga] at hk;obtain⟨x,z,ex⟩:=mem_map.mp hk;have hv:bu (kvR xs) (Sum.inr y.1)=some (.ref x.2.1):=by
  rw[<- ex];exact ku (zn hn) (mem_map.mpr ⟨x,z,rfl⟩)
 have e1:=kS Y B;have e2:=kS U (mem_map.mpr ⟨x,z,rfl⟩:(x.1,x.2.2)∈dat xs);refine⟨y.2.1,x.2.1,rfl,?_,hv,?_⟩
 .show H _=some (.tup ((lk (dat ys) y.1).map V.int))
  rw[show lk (dat ys) y.1=y.2.2 from e1];exact hy y F
 .show H _=some (.tup ((lk (dat xs) y.1).map V.int))
  rw[<- ex,show lk (dat xs) x.1=x.2.2 from e2];exact hx x z
theorem HP {xs:List (Str × Addr × List Int)} (hS:PM mS) (hd:dat ys=(dat xs).map (eX mS mI)) (hn:(xs.map (·.1)).Nodup) (F : ∀x∈mS,x.1∈(dat xs).map (·.1)) :
  ((kvR ys).all λp=>decide (lkK (dat ys) p.1=lkK (dat xs) p.1))=true↔rD mS mI (dat xs):=by
 have B:((dat ys).map (·.1)).Nodup:=by rw[hd,kM,ga];exact tQ hS hn
 have aa:((dat xs).map (·.1)).Nodup:=by rw[ga];exact hn
 rw[all_eq_true]
 constructor
 .intro h
  refine⟨F,λx Y=>?_⟩
  have U:eX mS mI x∈dat ys:=by rw[hd];exact mem_map.mpr ⟨x,Y,rfl⟩
  obtain⟨y,Z,ey⟩:=mem_map.mp U;have h1:=of_decide_eq_true (h (Sum.inr y.1,.ref y.2.1) (mem_map.mpr ⟨y,Z,rfl⟩));have e1:lk (dat ys) y.1=y.2.2:=kS B (mem_map.mpr ⟨y,Z,rfl⟩:(y.1,y.2.2)∈dat ys)
  have h2:y.2.2=lk (dat xs) y.1:=e1.symm.trans h1
  rw[<- ey]
  show(y.1,y.2.2)∈dat xs
  rw[h2];refine AM ?_
  have:y.1=ld mS x.1:=congrArg Prod.fst ey
  rw[this];exact gi hS F (mem_map.mpr ⟨x,Y,rfl⟩)
 .rintro⟨_,h⟩ p hp
  obtain⟨y,Z,rfl⟩:=mem_map.mp hp;have z:(y.1,y.2.2)∈dat ys:=mem_map.mpr ⟨y,Z,rfl⟩
  have e1:lk (dat ys) y.1=y.2.2:=kS B z
  rw[hd] at z;obtain⟨x,Y,ex⟩:=mem_map.mp z;have U:=h x Y;rw[ex] at U;have e2:lk (dat xs) y.1=y.2.2:=kS aa U
  exact decide_eq_true (show lk (dat ys) y.1=lk (dat xs) y.1 by rw[e1,e2])
def CP:Sp:=λvs H Q _=>∃(t na va r:Addr) (mS:List (Str × Str)) (mI:List (Int × Int)) (xs:List (Str × Addr × List Int)),vs=[.ref t,.ref r]/\br H t na va mS mI/\(r≠na/\r≠va)/\xT H r xs /\
 ∀(b:Bool) H',am H H'->(b=true↔rD mS mI (dat xs))->Q (.bl b) H'
theorem jP (T:Txt w K mg base) (L:FnL K mg "leads_rooms_on" cx ["turning","rooms"]) (Fg : @Ec P w K mg base):Fn P w K mg base "leads_rooms_on" 4 ["turning","rooms"] (CP):=by
 ctx_has z jy <;> obtain⟨t,na,va,r,mS,mI,xs,rfl,T0,nr,F,k⟩:=h
 .rfl
 refine⟨_,(ai (aB (mz (aE (fU rfl) T.b_all (aa (kq (aZ (N:=["name","rooms"]) (nt:=1) (js:=[1]) (aH ["turning","rooms"] (ak cx).names) (DM (ao ap (pvM 0) ae)) (aA 0) aP aV (F8 (Cf hu (pvM 0) (pvM 1))))) ac)) (kR (gj (BY (xR hr)) (ah Fg (aa (pvM 0) (aa (pvM 1) ac))) (pvM 1)))))),?_⟩
 have e1:=T0.ht;have e2:=T0.hn;have e3:=F.hr;ctx_has v kK e1 e2 e3 Da
 refine⟨na,_,e2,λo D hD=>?_⟩
 have nD:D≠na:=λz=>by rw[z,ab] at hD;cases hD
 have af:H D=none:=by rw[ag nD] at hD;exact hD
 refine cD vS (λj ys H'=>ys=((mS.take j).map λx=>(bu (kvR xs) (Sum.inr x.1)).isSome).map V.bl/\H' D=some (.lst ys)/\H' na=some (.frz o (.dK (kvS mS)))/\∀b u,b≠na->H b=some u->H' b=some u)
  ⟨rfl,ab,by rw[ag nD.symm];exact ab,λb u Y e=>by rw[ag (aj e af),ag Y];exact e⟩ (λj ys H' ad=>by obtain⟨_,_,h,_⟩:=ad;exact(h)) ?_ ?_
 .rintro j x ys H2 hj B ⟨rfl,h2D,h2n,k2⟩
  obtain⟨y,hy,rfl⟩ : ∃y,mS[j]? = some y/\V.str y.1=x:=by
   unfold kvS at B;rw[List.getElem?_map,List.getElem?_map] at B;cases e:mS[j]? with
   | none=>rw[e] at B;cases B
   | some nm=>rw[e] at B;exact⟨nm,rfl,Option.some.inj B⟩
  have an:=k2 r _ nr.1 e3;have aq:j < mS.length:=(List.getElem?_eq_some_iff.mp hy).1
  have ar:=T0.ls;ctx_has v an
  refine⟨h2D,by simp;exact ax (by omega),by rw[take_add_one,hy];simp,ab,by rw[ag nD.symm];exact h2n,λb u Y e=>by rw[ag (aj e af)];exact k2 b u Y e⟩
 .rintro ys H2 ⟨rfl,h2D,h2n,k2⟩
  have hl2:((kvS mS).map λx=>kV x.1).length=mS.length:=by unfold kvS;rw[length_map,length_map]
  rw[hl2,take_length] at h2D;refine⟨⟨o,h2n⟩,D,rfl,_,by rw[ag nD];exact h2D,?_⟩
  have Z:am H (upd H2 na (.dK (kvS mS))):=λb u e=>by
   by_cases Y:b=na
   .subst Y;rw[ab,<- e,e2]
   .rw[ag Y];exact k2 b u Y e
  generalize upd H2 na (.dK (kvS mS))=G at Z ⊢;refine cG (λh=>?_) (λh=>?_)
  .have hin:=Ar.mp h
   refine⟨t,na,va,r,mS,mI,xs,rfl,T0.same Z,nr,Z _ _ e3,λx B=>Z _ _ (F.rt x B),F.nd,F.ln,F.rl,λp ys H3 hp s3 h3 hy hd=>?_⟩
   have U:=Z.trans s3;refine⟨p,rfl,_,h3,_,U _ _ e3,.inr ⟨?_,lkK (dat ys),lkK (dat xs),Ek T0.ps hd F.nd (λx B=>U _ _ (F.rt x B)) hy hin,?_⟩⟩
   .have:=congrArg List.length hd
    unfold dat at this;unfold kvR;simpa using this
   .exact k _ H3 U (HP T0.ps hd F.nd hin)
  .exact k false G Z ⟨λz=>(by cases z),λz=>absurd (Ar.mpr z.1) h⟩
structure iZ (H:Hp) (p c t:Addr) (cs:List (Addr × Str × Addr × List Int)) (us:List V) (Ws:List Wx) (ws:List Str) (ns:List Int):Prop where
 hp:H p=some (.tup [.ref c,.ref t])
 hc:H c=some (.tup (cs.map λx=>V.ref x.1))
 ca : ∀x∈cs,H x.1=some (.tup [.str x.2.1,.ref x.2.2.1])/\H x.2.2.1=some (.tup (x.2.2.2.map V.int))
 nd:(cs.map (·.2.1)).Nodup
 ln:cs.length<=40
 rl : ∀x∈cs,x.2.2.2.length<=60
 wa:pz H t us Ws ws ns
theorem iZ.keep {H H':Hp} {p c t:Addr} {cs:List (Addr × Str × Addr × List Int)} {us:List V} {Ws:List Wx} {ws:List Str} {ns:List Int} (h:iZ H p c t cs us Ws ws ns) (k : ∀a xs,H a=some (.tup xs)->H' a=some (.tup xs)):iZ H' p c t cs us Ws ws ns :=
 ⟨k _ _ h.hp,k _ _ h.hc,λx z=>⟨k _ _ (h.ca x z).1,k _ _ (h.ca x z).2⟩,h.nd,h.ln,h.rl,⟨k _ _ h.wa.ht,h.wa.wa.keep k,h.wa.ok,h.wa.nm,h.wa.ln⟩⟩
theorem iZ.same {p:Addr} {us:List V} {Ws:List Wx} (h:iZ H p c t cs us Ws ws ns) (s:am H H'):iZ H' p c t cs us Ws ws ns:=h.keep λa xs e=>s _ _ e
abbrev xsH (cs:List (Addr × Str × Addr × List Int)):List (Str × Addr × List Int):=cs.map (·.2)
def GT:Sp:=λvs H Q _=>∃(p c t:Addr) (cs:List (Addr × Str × Addr × List Int)) (us:List V) (Ws:List Wx) (ws:List Str) (ns:List Int),vs=[.ref p]/\iZ H p c t cs us Ws ws ns/\∀r H',H r=none->am H H'->xT H' r (xsH cs)->Q (.ref r) H'
theorem xv (hn:(cs.map (·.2.1)).Nodup) {i:Nat} {x:Addr × Str × Addr × List Int} (U:cs[i]? = some x):bp (kvR (xsH (cs.take i))) (Sum.inr x.2.1) (.ref x.2.2.1)=kvR (xsH (cs.take (i+1))):=by
 have F:cs.take (i+1)=cs.take i++[x]:=by rw[take_add_one,U];rfl
 have B:(Sum.inr x.2.1:Key)∉(kvR (xsH (cs.take i))).map (·.1):=λz=>by
  rw[sH,ga,map_map] at z;have hl:((cs.take i++[x]).map (·.2.1)).Nodup:=by
   rw[<- F,map_take];exact hn.sublist (take_sublist _ _)
  rw[map_append,nodup_append] at hl;exact hl.2.2 _ z _ (by simp) rfl
 rw[cF _ (gl B),F];unfold kvR xsH;rw[map_append,map_append];rfl
def iC (mS:List (Str × Str)) (mI:List (Int × Int)) (ds:List (Str × List Int)) (Ws:List Wx):Prop:=rD mS mI ds/\Led mS mI Ws (Ws.map dP)
def GD:Sp:=λvs H Q _=>∃(p c t tn na va:Addr) (mS:List (Str × Str)) (mI:List (Int × Int)) (cs:List (Addr × Str × Addr × List Int)) (us:List V) (Ws:List Wx) (ws ws':List Str) (ns:List Int),vs=[.ref p,.ref tn]/\bP H/\iZ H p c t cs us Ws ws ns/\br H tn na va mS mI/\TOk mS mI Ws ws' ns /\
 ∀(b:Bool) H',am H H'->(b=true↔iC mS mI (dat (xsH cs)) Ws)->Q (.bl b) H'
theorem mD (T:Txt w K mg base) (L:FnL K mg "first_rooms" fA ["hall"]):Fn P w K mg base "first_rooms" 1 ["hall"] (GT):=by
 ctx_has z mt <;> obtain⟨p,c,t,cs,us,Ws,ws,ns,rfl,F,k⟩:=h
 .rfl
 refine⟨_,(af (az 1 cm)
  (af (bC (cX K (ao ap (pvM 0) ae)) (aA 2) (ai (fV hu (pvM 1) (ao ap (pvM 2) ae) (ao ap (pvM 2) ae) rfl)))
  (ai (aB (pvM 1))))),?_⟩
 have h1:=F.hp;have h2:=F.hc;have aa:=F.ln;ctx_has v
 intro q hq;have Z:=am.upd0 (o:=.dK []) hq;have ac:=Z _ _ h1;ctx_has v ac
 refine⟨_,Z _ _ h2,?_⟩
 refine bR ba (λi σ H'=>∃v2,σ=[some (.ref p),some (.ref q),v2]/\H' q=some (.dK (kvR (xsH (cs.take i))))/\am H H') ⟨_,rfl,ab,Z⟩ (λi σ H' Y=>by obtain⟨_,_,_,s⟩:=Y;exact(.of (s _ _ h2))) ?_ ?_
 .rintro i x σ H2 hi B ⟨v2,rfl,h2q,s2⟩
  obtain⟨y,U,rfl⟩ : ∃y,cs[i]? = some y/\V.ref y.1=x:=by
   rw[List.getElem?_map] at B;cases e:cs[i]? with
   | none=>rw[e] at B;cases B
   | some nm=>rw[e] at B;exact⟨nm,rfl,Option.some.inj B⟩
  have h3:=s2 _ _ (F.ca y (mem_of_getElem? U)).1;have ad:i < cs.length:=(List.getElem?_eq_some_iff.mp U).1
  ctx_has v h3 h2q
  exact⟨by unfold kvR xsH;simp;exact ax (by omega),by rw[ab,xv F.nd U],s2.putN hq⟩
 .rintro σ H2 ⟨v2,rfl,h2q,s2⟩
  rw[length_map,take_length] at h2q;ctx_has v
  exact k q H2 hq s2 ⟨h2q,λx B=>by
   obtain⟨y,U,rfl⟩:=mem_map.mp B;exact s2 _ _ (F.ca y U).2,by rw[map_map];exact F.nd,by rw[length_map];exact aa,λx B=>by
   obtain⟨y,U,rfl⟩:=mem_map.mp B;exact F.rl y U⟩
theorem tm (T:Txt w K mg base) (L:FnL K mg "leads_on" jb ["hall","turning"]) (FN:Fn P w K mg base "first_rooms" 1 ["hall"] (GT)) (Fy:Fn P w K mg base "leads_rooms_on" 4 ["turning","rooms"] (CP)) (FP:Fn P w K mg base "plain_forms" 5 ["wishes"] (GZ P w)) (Fp : @GB P w K mg base):Fn P w K mg base "leads_on" 9 ["hall","turning"] (GD):=by
 ctx_has z tu <;> obtain⟨p,c,t,tn,na,va,mS,mI,cs,us,Ws,ws,ws',ns,rfl,tb,Z,Y,hT,k⟩:=h
 .rfl
 refine⟨_,(ai (aB (mz (ah Fy (aa (pvM 1) (aa (ah FN (aa (pvM 0) ac)) ac))) (kR (ah Fp (aa (pvM 1) (aa (ao ap (pvM 0) ae) (aa (ah FP (aa (ao ap (pvM 0) ae) ac)) ac)))))))),?_⟩
 have h1:=Z.hp;ctx_has v
 refine⟨p,c,t,cs,us,Ws,ws,ns,rfl,Z,λr H1 hr s1 hR=>?_⟩
 have T1:=Y.same s1;refine⟨tn,na,va,r,mS,mI,xsH cs,rfl,T1,⟨(aj Y.hn hr).symm,(aj Y.hv hr).symm⟩,hR,λb H2 s2 hb=>?_⟩
 have B:=s1.trans s2;have ad:=B _ _ h1;cases b with
 | false =>
  ctx_has v
  exact k false H2 B ⟨λz=>(by cases z),λz=>absurd (hb.mpr z.1) (by decide)⟩
 | true =>
  have af:=hb.mp rfl;ctx_has v ad
  refine⟨t,us,Ws,ws,ns,rfl,tb.same B,Z.wa.same B,λrf o kvs H3 s3 h3 hk hc hl=>?_⟩
  have F:=B.trans s3;exact⟨tn,na,va,t,rf,mS,mI,us,Ws,ws,ws',ns,o,kvs,Ws.map dP,rfl,tb.same F,Y.same F,Z.wa.same F,hT,h3,hk,hc,λb H4 s4 U=>k b H4 (F.trans s4) ⟨λz=>⟨af,U.mp z⟩,λz=>U.mpr z.2⟩⟩
theorem Ej {w:Addr} {W:Wx} {Q:VK} {E:XK} (B:br H t na va mS mI) (F:WX H w W) (z:Dp W) (k : ∀v H',am H H'->WO H' v (bF mS mI W)->Q v H'):jC [.ref t,.ref w] H Q E\/ia [.ref t,.ref w] H Q E:=by
 cases W with
 | pl W=>exact .inl ⟨t,w,na,va,mS,mI,W,rfl,B,F,z,λv H' s h=>k v H' s h.up⟩
 | sa c vs W=>exact .inr ⟨t,w,na,va,mS,mI,c,vs,W,rfl,B,F,z.1,z.2,k⟩
def rZ (H:Hp) (ps:List (Addr × Wx)):Prop:=∀x∈ps,WX H x.1 x.2/\oR (cC x.2)
theorem rZ.keep {ps:List (Addr × Wx)} (h:rZ H ps) (k : ∀a xs,H a=some (.tup xs)->H' a=some (.tup xs)):rZ H' ps:=λx z=>⟨bU (h x z).1 k,(h x z).2⟩
abbrev pD (ps:List (Addr × Wx)):List PyData:=ps.map λx=>cC x.2
theorem rZ.reps {K:PySem.W.Frag} {H:Hp} : ∀{ps:List (Addr × Wx)},rZ H ps->cj K H (ps.map λx=>V.ref x.1) (pD ps)/\PyData.canLayAll0 (pD ps)=true
 | [],_=>⟨.nil,rfl⟩
 | x :: ps,h=>by
  obtain⟨a,b⟩:=rZ.reps (K:=K) (ps:=ps) λy z=>h y (mem_cons_of_mem _ z)
  obtain⟨c,d⟩:=h x mem_cons_self;refine⟨.cons (lj c) a,?_⟩
  show PyData.canLayAll0 (cC x.2 :: pD ps)=true
  rw[PyData.canLayAll0,gg _ d.1,b];rfl
theorem eI {p:Addr} {ys:List V} (h:H p=some (.lst ys)) : ∀a xs,H a=some (.tup xs)->upd H p o a=some (.tup xs):=λa xs e=>by
 rw[ag (aX e h (by intro z;cases z))];exact e
theorem wQ (m:List (Key × Key)) (k:Key):(bu (kvK m) k).getD (kV k)=kV (ld m k):=by
 unfold ld
 induction m with
 | nil=>rfl
 | cons x m z =>
  by_cases h:x.1=k
  .rw[show kvK (x :: m)=(x.1,kV x.2) :: kvK m from rfl,bc h,find?_cons]
   simp[h]
  .rw[show kvK (x :: m)=(x.1,kV x.2) :: kvK m from rfl,aQ h,find?_cons]
   simp only[h,decide_false];exact z
def CA:Sp:=λvs H Q _=>∃(a:Addr) (m:List (Key × Key)) (z:Key),vs=[.ref a,kV z]/\H a=some (.dK (kvK m))/\PM m/\m.length<=40 /\
 ∀(p:Addr) (fs:List Key) (H':Hp),H p=none->am H H'->H' p=some (.lst (fs.map kV))->z∈fs->fs.Nodup->(∀x∈fs,x=z\/x∈m.map (·.1))->fs.length<=41->Q (.ref p) H'
theorem eG {α:Type} [DecidableEq α] : ∀{xs ys:List α},xs.Nodup->(∀x∈xs,x∈ys)->xs.length<=ys.length
 | [],_,_,_=>zero_le _
 | x :: xs,ys,hn,h=>by
  rw[nodup_cons] at hn;have B:=h x (by simp)
  have:=eG (xs:=xs) (ys:=ys.erase x) hn.2 λy z=>(List.mem_erase_of_ne (λe=>hn.1 (by rw[<- e];exact z))).mpr (h y (by simp[z]))
  rw[List.length_erase_of_mem B] at this;have:=List.length_pos_of_mem B
  simp
  omega
structure ji (m:List (Key × Key)) (k0:Key) (l0:List Key) (x:Key):Prop where
 nd:(l0++[x]).Nodup
 hm:k0∈l0++[x]
 fr : ∀y∈l0++[x],y=k0\/∃z∈l0,ld m z=y
 ks : ∀y∈l0++[x],y=k0\/y∈m.map (·.1)
theorem ji.next (Y:PM m) {F x:Key} {l0:List Key} (r:ji m F l0 x) (h:ld m x≠F):ji m F (l0++[x]) (ld m x) where
 nd:=by
  rw[nodup_append];refine⟨r.nd,by simp,λy B z Z e=>?_⟩
  rw[mem_singleton.mp Z] at e;rcases r.fr y B with q | ⟨u,hu,q⟩
  .exact h (e.symm.trans q)
  .have:u=x:=dj Y (q.trans e)
   have hn:=r.nd;rw[nodup_append] at hn;exact hn.2.2 u hu x (by simp) this
 hm:=mem_append_left _ r.hm
 fr:=λy B=>by
  rcases mem_append.mp B with q | q
  .rcases r.fr y q with e | ⟨u,hu,e⟩
   .exact .inl e
   .exact .inr ⟨u,mem_append_left _ hu,e⟩
  .exact .inr ⟨x,by simp,(mem_singleton.mp q).symm⟩
 ks := λy B=>by
  rcases mem_append.mp B with q | q
  .exact r.ks y q
  .rw[mem_singleton.mp q]
   by_cases U:x∈m.map (·.1)
   .exact .inr (kY Y U)
   .rw[cR U] at h ⊢
    exact r.ks x (by simp)
theorem ji.len {z x:Key} (r:ji m z l0 x):(l0++[x]).length<=m.length+1:=by
 have:=eG (ys:=z :: m.map (·.1)) r.nd λy B=>by
  rcases r.ks y B with e | e
  .rw[e];simp
  .exact mem_cons_of_mem _ e
 simpa using this
theorem Cq (a b:Key):rG (kV a) (kV b)=true:=by cases a <;> cases b <;> rfl
theorem CI {a b:Key}:kV a=kV b↔a=b:=⟨λh=>by cases a <;> cases b <;> cases h <;> rfl,λh=>by rw[h]⟩
abbrev G8:=Fn P w K mg base "_law_round" 1 ["_law_leads_here","_law_thing"] (CA)
theorem pb (T:Txt w K mg base) (L:FnL K mg "_law_round" gA ["_law_leads_here","_law_thing"]) : @G8 P w K mg base:=by
 ctx_has z pN <;> obtain⟨a,m,Y,rfl,ha,hp,hl,k⟩:=h
 .rfl
 refine⟨_,(af (az 2 (bx (aa (pvM 1) ac)))
  (af (im PassesOwn.never (ay Aj (df hu (pvM 0) (ao fC (pvM 2) (iW fo ae)) (ao fC (pvM 2) (iW fo ae)) ⟨rfl,rfl,rfl,rfl⟩) (pvM 1)) (ai (bY (eL PySem.F.slot_list_append PySem.F.type_list_append bK (pvM 2) (aa (df hu (pvM 0) (ao fC (pvM 2) (iW fo ae)) (ao fC (pvM 2) (iW fo ae)) ⟨rfl,rfl,rfl,rfl⟩) ac)))))
  (ai (aB (pvM 2))))),?_⟩
 ctx_has v
 refine⟨by decide,λp Z=>?_⟩
 have s0:=am.upd0 (o:=.lst [kV Y]) Z;refine gL (λμ σ H'=>∃l0 x,σ=[some (.ref a),some (kV Y),some (.ref p)]/\H' p=some (.lst ((l0++[x]).map kV))/\ji m Y l0 x/\am H H'/\μ=m.length+1 - (l0++[x]).length)
  (λσ H'=>∃l0 x,σ=[some (.ref a),some (kV Y),some (.ref p)]/\H' p=some (.lst ((l0++[x]).map kV))/\ji m Y l0 x/\am H H') ?_ ?_ ?_
 .exact⟨_,[],Y,rfl,ab,⟨by simp,by simp,λy hy=>.inl (by simpa using hy),λy hy=>.inl (by simpa using hy)⟩,s0,rfl⟩
 .rintro R hR μ σ H2 ⟨l0,x,rfl,h2,hr2,s2,rfl⟩
  have B:=s2 _ _ ha;have U:atI ((l0++[x]).map kV) (-1)=some (kV x):=by rw[map_append];exact mE _ _
  ctx_has v ft h2
  refine⟨.inl ⟨_,.inl B⟩,_,U,_,U,_,.inl ⟨_,x,.inl B,rfl,rfl⟩,?_⟩
  rw[wQ];refine⟨Cq _ _,?_⟩
  by_cases e:ld m x=Y
  .rw[if_neg (by rw[decide_eq_true (CI.mpr e)];decide)]
   exact hR _ _ ⟨l0,x,rfl,h2,hr2,s2⟩
  .rw[if_pos (decide_eq_false (λz=>e (CI.mp z)))]
   have hn:=hr2.next hp e;have hl1:=hn.len;have hl2:(l0++[x]++[ld m x]).length=(l0++[x]).length+1:=by simp
   refine⟨λσ' H'=>σ'=[some (.ref a),some (kV Y),some (.ref p)]/\H' p=some (.lst ((l0++[x]++[ld m x]).map kV))/\am H H',?_,.inl ⟨_,.inl B⟩,_,U,_,U,_,.inl ⟨_,x,.inl B,rfl,rfl⟩,by rw[length_map];exact ax (by omega),?_⟩
   .rintro σ' H' ⟨rfl,h3,s3⟩
    exact⟨_,by omega,rfl,l0++[x],ld m x,h3,hn,s3,rfl⟩
   .rw[wQ]
    exact⟨rfl,by rw[ab,map_append (l₁:=l0++[x])];rfl,s2.putN Z⟩
 .rintro σ H2 ⟨l0,x,rfl,h2,hr2,s2⟩
  ctx_has v
  exact k p _ H2 Z s2 h2 hr2.hm hr2.nd hr2.ks (by have:=hr2.len;omega)
def gD (ns r:List Int):Prop:=r≠[]/\r.length<=20/\r.Pairwise (· < ·)/\∀v∈r,v∈ns
def lE (H:Hp) (kvs:List (Key × V)) (ws:List Str) (ns:List Int):Prop:=∀p∈kvs,∃c a r,p=(Sum.inr c,.ref a)/\c∈ws/\H a=some (.tup (r.map V.int))/\gD ns r
theorem lE.keep (h:lE H kvs ws ns) (k : ∀a xs,H a=some (.tup xs)->H' a=some (.tup xs)):lE H' kvs ws ns:=λp B=>by
 obtain⟨c,a,r,e,h1,h2,z⟩:=h p B;exact⟨c,a,r,e,h1,k _ _ h2,z⟩
theorem lE.put (h:lE H kvs ws ns) {c:Str} {a:Addr} {r:List Int} (U:c∈ws) (B:H a=some (.tup (r.map V.int))) (F:gD ns r):lE H (bp kvs (Sum.inr c) (.ref a)) ws ns:=λp z=>by
 unfold bp at z
 split at z
 .obtain⟨x,hx,rfl⟩:=mem_map.mp z
  split
  .rename_i e
   exact⟨c,a,r,by rw[<- e],U,B,F⟩
  .exact h x hx
 .rcases mem_append.mp z with q | q
  .exact h p q
  .rw[mem_singleton.mp q]
   exact⟨c,a,r,rfl,U,B,F⟩
theorem ko {k:Key} {v:V} : ∀x,x∈(bp kvs k v).map (·.1)↔x=k\/x∈kvs.map (·.1):=λx=>by
 rw[<- dH,nF,<- dH]
 by_cases h:x=k
 .rw[if_pos h];simp[h]
 .rw[if_neg h];simp[h]
theorem E1 {k:Key} {v:V} (h:(kvs.map (·.1)).Nodup):((bp kvs k v).map (·.1)).Nodup:=by
 by_cases z:bu kvs k=none
 .exact Bm v h z
 .unfold bp
  rw[if_pos]
  .rw[map_map]
   have:((λx:Key × V=>x.1) ∘ λkv:Key × V=>if kv.1=k then(kv.1,v) else kv)=λx=>x.1:=by
    funext x
    show(if x.1=k then(x.1,v) else x).1=x.1
    split <;> rfl
   rw[this];exact h
  .have hm:k∈kvs.map (·.1):=dH.mp (by cases B:bu kvs k with | none=>exact absurd B z | some _=>rfl)
   obtain⟨x,F,e⟩:=mem_map.mp hm;exact any_eq_true.mpr ⟨x,F,decide_eq_true e⟩
theorem vA {m:List (Str × Str)} (h:PM m):PM (upS m):=by
 refine⟨?_,?_⟩
 .have:(upS m).map (·.1)=(m.map (·.1)).map Sum.inr:=by unfold upS;rw[map_map,map_map];rfl
  rw[this];exact pairwise_map.mpr (h.1.imp λne e=>ne (Sum.inr.inj e))
 .have e1:(upS m).map (·.1)=(m.map (·.1)).map Sum.inr:=by unfold upS;rw[map_map,map_map];rfl
  have e2:(upS m).map (·.2)=(m.map (·.2)).map Sum.inr:=by unfold upS;rw[map_map,map_map];rfl
  rw[e1,e2];exact h.2.map _
theorem vH {m:List (Int × Int)} (h:PM m):PM (upI m):=by
 refine⟨?_,?_⟩
 .have:(upI m).map (·.1)=(m.map (·.1)).map Sum.inl:=by unfold upI;rw[map_map,map_map];rfl
  rw[this];exact pairwise_map.mpr (h.1.imp λne e=>ne (Sum.inl.inj e))
 .have e1:(upI m).map (·.1)=(m.map (·.1)).map Sum.inl:=by unfold upI;rw[map_map,map_map];rfl
  have e2:(upI m).map (·.2)=(m.map (·.2)).map Sum.inl:=by unfold upI;rw[map_map,map_map];rfl
  rw[e1,e2];exact h.2.map _
theorem DC {c:Str} (B:c∈ws) (F : ∀x∈mS,x.1∈ws) (h : ∀x∈fs,x=Sum.inr c\/x∈(upS mS).map (·.1)) : ∀x∈fs,∃s∈ws,x=Sum.inr s:=λx U=>by
 rcases h x U with e | e
 .exact⟨c,B,e⟩
 .obtain⟨y,hy,rfl⟩:=mem_map.mp e
  obtain⟨z,Y,rfl⟩:=mem_map.mp hy;exact⟨z.1,F z Y,rfl⟩
theorem DD {v:Int} (Y:v∈ns) (U : ∀x∈mI,x.1∈ns) (hn:fs.Nodup) (h : ∀x∈fs,x=Sum.inl v\/x∈(upI mI).map (·.1)) : ∃is:List Int,fs=is.map Sum.inl/\is.Nodup/\∀i∈is,i∈ns:=by
 induction fs with
 | nil=>exact⟨[],rfl,by simp,by simp⟩
 | cons x fs Z =>
  rw[nodup_cons] at hn;obtain⟨is,rfl,h1,h2⟩:=Z hn.2 λy F=>h y (by simp[F])
  obtain⟨i,hi,rfl⟩ : ∃i∈ns,x=Sum.inl i:=by
   rcases h x (by simp) with e | e
   .exact⟨v,Y,e⟩
   .obtain⟨y,F,rfl⟩:=mem_map.mp e
    obtain⟨z,hz,rfl⟩:=mem_map.mp F;exact⟨z.1,U z hz,rfl⟩
  refine⟨i :: is,rfl,nodup_cons.mpr ⟨λz=>hn.1 (mem_map.mpr ⟨i,z,rfl⟩),h1⟩,λj B=>?_⟩
  rcases mem_cons.mp B with rfl | B
  .exact hi
  .exact h2 j B
theorem tY {r:List Int} (h:r.Pairwise (·<=·)) (hn:r.Nodup):r.Pairwise (· < ·):=by
 induction r with
 | nil=>exact .nil
 | cons a r B =>
  rw[pairwise_cons] at h ⊢;rw[nodup_cons] at hn;exact⟨λb z=>by
   have:=h.1 b z
   have ne:a≠b:=λe=>hn.1 (e ▸ z)
   omega,B h.2 hn.2⟩
theorem Ap {r:List Int} (h:r.Pairwise (· < ·)):r.Nodup:=h.imp λh=>by omega
theorem yP (B:PM mI) {ns r:List Int} (U : ∀x∈mI,x.1∈ns) (h:gD ns r):gD ns (srt (r.map (ld mI))):=by
 have pm:=gU (r.map (ld mI));refine⟨λe=>?_,by rw[pm.length_eq,length_map];exact h.2.1,tY (sD _) (pm.nodup_iff.mpr (pairwise_map.mpr ((Ap h.2.2.1).imp λne e=>ne (dj B e)))),λv F=>?_⟩
 .have:=pm.length_eq
  rw[e,length_map] at this;exact h.1 (length_eq_zero_iff.mp this.symm)
 .obtain⟨x,hx,rfl⟩:=mem_map.mp (pm.mem_iff.mp F)
  by_cases z:x∈mI.map (·.1)
  .obtain⟨y,hy,e⟩:=mem_map.mp (kY B z)
   rw[<- e];exact U y hy
  .rw[cR z];exact h.2.2.2 x hx
def FJ (j:Nat) (is ns:List Int):Prop:=(j=0->is=[])/\(j=1->is≠[]/\is.Nodup/\∀i∈is,i∈ns)
theorem DI {q:Addr} (D:aC H d l) (z:q≠d/\q≠l) (k : ∀b u,b≠q->H b=some u->H' b=some u):aC H' d l:=by
 obtain⟨m,B,n,xs,F,hl,r⟩:=D.ex;exact⟨⟨m,B,n,xs,k _ _ z.1.symm F,k _ _ z.2.symm hl,r⟩⟩
theorem xh {p:Addr} (h:H p=some (.dK kvs)) : ∀a xs,H a=some (.tup xs)->upd H p o a=some (.tup xs):=λa xs e=>by
 rw[ag (aX e h (by intro z;cases z))];exact e
structure lx (H:Hp) (d l a pa t na va:Addr) (ws:List Str) (ns:List Int) (mS:List (Str × Str)) (mI:List (Int × Int)):Prop where
 D:aC H d l
 n1:a≠d/\a≠l
 n2:pa≠d/\pa≠l
 n3:na≠d/\na≠l
 n4:va≠d/\va≠l
 ha:H a=some (.lst (ws.map V.str))
 hp:H pa=some (.lst (ns.map V.int))
 T:br H t na va mS mI
 ms : ∀x∈mS,x.1∈ws
 mi : ∀x∈mI,x.1∈ns
 wn:ws≠[]
 nd:ws.Nodup
 wl:ws.length<=12
 n5:ns.length=5
 pw:ns.Pairwise (· < ·)
 nb : ∀x∈ns,-1000000<=x/\x<=1000000
 nm : ∀c∈ws,bS c
theorem lx.but (h:lx H d l a pa t na va ws ns mS mI) (D:aC H' d l) (B:But d l H H'):lx H' d l a pa t na va ws ns mS mI :=
 ⟨D,h.n1,h.n2,h.n3,h.n4,B _ _ h.n1.1 h.n1.2 h.ha,B _ _ h.n2.1 h.n2.2 h.hp,⟨B.tup h.D h.T.ht,B _ _ h.n3.1 h.n3.2 h.T.hn,B _ _ h.n4.1 h.n4.2 h.T.hv,h.T.ps,h.T.pi,h.T.ls,h.T.li⟩,h.ms,h.mi,h.wn,h.nd,h.wl,h.n5,h.pw,h.nb,h.nm⟩
theorem lx.same {H H':Hp} {d l a pa t na va:Addr} {ws:List Str} {ns:List Int} {mS:List (Str × Str)} {mI:List (Int × Int)} (h:lx H d l a pa t na va ws ns mS mI) (s:am H H'):lx H' d l a pa t na va ws ns mS mI:=h.but (h.D.same s) ((But.refl H).same s)
def HW:Sp:=λvs H Q _=>∃(d l a pa t na va:Addr) (ws:List Str) (ns:List Int) (mS:List (Str × Str)) (mI:List (Int × Int)),vs=[.ref d,.ref a,.ref pa,.ref t]/\lx H d l a pa t na va ws ns mS mI /\
 ∀(r:Addr) (kvs:List (Key × V)) (H':Hp),H r=none->H' r=some (.dK kvs)->lE H' kvs ws ns->(∀c∈ws,Sum.inr c∈kvs.map (·.1))->kvs.length<=12->aC H' d l->But d l H H'->Q (.ref r) H'
abbrev Hs:=Fn P w K mg base "_law_even_rooms" 4 ["_law_deal_here","_law_names_here","_law_pool_here","_law_turning"] (HW)
theorem jm (T:Txt w K mg base) (L:FnL K mg "_law_even_rooms" cZ ["_law_deal_here","_law_names_here","_law_pool_here","_law_turning"]) (FU : @Dz3 P w K mg base) (FG : @G8 P w K mg base) (Fe : @CH P w K mg base) : @Hs P w K mg base:=by
  ctx_has z jj <;> obtain⟨d,l,a,pa,t,na,va,ws,ns,mS,mI,rfl,E0,k⟩:=h
  . rfl
  refine⟨_,(af (az 4 cm)
    (af (bC (dr (K:=K) rfl (pvM 1)) (aA 5) (ai (aK (il (vE hu (pvM 5) (pvM 4))) (af (az 6 (ah FG (aa (ao ap (pvM 3) ae) (aa (pvM 5) ac))))
    (af (az 7 (gC hu (ah FU (aa (pvM 0) (aa (bx (aa (pvM 5) ac)) (aa (pvM 2) (aa ae ac))))) (pvM 5)))
    (af (az 8 (pvM 7))
    (bW (bC (dr (K:=K) rfl (pvM 6)) (aA 9) (ai (az 8 (aF aO T.b_tuple (aa (aE gu T.b_sorted (aa (ah Fe (aa (ao ap (pvM 3) ae) (aa (pvM 8) ac))) ac)) ac)))))
    (bW (aK (ay (rR (nJ hr)) (pvM 8) (pvM 7)) (af (az 10 (bx ac))
    (af (bC (cX K (bG oM (pvM 7) cB (bN ae))) (aA 11) (ai (az 10 (aN se (pvM 10) (ah FG (aa (ao ap (pvM 3) ae) (aa (pvM 11) ac)))))))
    (ai (az 7 (aF aO T.b_tuple (aa (aE uO T.b_sorted (aa (pvM 10) ac)) ac)))))) aD)
    (ai (bC (dr (K:=K) rfl (pvM 6)) (aA 9) (af (fV hu (pvM 4) (pvM 9) (pvM 7) rfl)
    (ai (az 7 (aF aO T.b_tuple (aa (aE gu T.b_sorted (aa (ah Fe (aa (ao ap (pvM 3) ae) (aa (pvM 7) ac))) ac)) ac)))))))))))) aD)))
    (ai (aB (pvM 4))))),?_⟩
  have h1:=E0.ha;ctx_has v
  intro q hq;have nq:=E0.D.ne hq;have B0:But d l H (upd H q (.dK [])):=(But.refl H).new hq
  refine⟨_,by rw[ag (aj h1 hq)];exact h1,?_⟩
  refine bR bB (λi σ H'=>∃v5 v6 v7 v8 v9 U F kvs,σ=[some (.ref d),some (.ref a),some (.ref pa),some (.ref t),some (.ref q),v5,v6,v7,v8,v9,U,F]/\H' q=some (.dK kvs)/\lE H' kvs ws ns/\(∀c∈ws.take i,Sum.inr c∈kvs.map (·.1))/\(kvs.map (·.1)).Nodup/\aC H' d l/\But d l H H')
    ⟨_,_,_,_,_,_,_,[],rfl,ab,(λp hp=>by cases hp),by simp,by simp,E0.D.new hq,B0⟩ (λi σ H' aU=>by obtain⟨_,_,_,_,_,_,_,_,_,_,_,_,_,_,B⟩:=aU;exact(.of (B _ _ E0.n1.1 E0.n1.2 h1))) ?_ ?_
  . rintro i x σ H2 hi hx ⟨v5,v6,v7,v8,v9,U,F,kvs,rfl,au,an,a1,a5,D2,B2⟩
    obtain⟨c,hc,rfl⟩ : ∃c,ws[i]? = some c/\V.str c=x:=by
      rw[List.getElem?_map] at hx;cases e:ws[i]? with
      | none=>rw[e] at hx;cases hx
      | some nm=>rw[e] at hx;exact⟨nm,rfl,Option.some.inj hx⟩
    have b4:=mem_of_getElem? hc;have E2:=E0.but D2 B2;have e1:=E2.T.ht;have e2:=E2.T.hn;ctx_has v au qZ
    refine cG (λh=>?_) (λh=>?_)
    . ctx_has v e1
      refine⟨na,upS mS,Sum.inr c,rfl,by rw[qk];exact e2,vA E2.T.ps,by unfold upS;rw[length_map];exact E2.T.ls,λrg fs H3 bb s3 h3 bH bZ bt bX=>⟨by decide,λp av=>?_⟩⟩
      have bD:=DC b4 E0.ms bt;have E3:=E2.same s3;have np:=E3.D.ne av;refine⟨d,l,p,pa,[c],ns,3,rfl,E3.D.new av,np,E3.n2,ab,by simp,by rw[ag (aj E3.hp av)];exact E3.hp,E3.n5,E3.pw,by decide,by decide,λrr bo rm H4 bU b8 bq b5 cb ce D4 B4=>⟨rr,rfl,bo,b8,?_⟩⟩
      obtain⟨ar,bA,a9⟩:=bq c (by simp)
      have a7:gD ns (rm c):=by
        obtain⟨g1,g2,g3,g4⟩:=b5 c (by simp)
        exact⟨g1,by omega,g3,g4⟩
      have aH:But d l H2 H4:=(((But.refl H2).same s3).new av).trans B4
      have E4:=E2.but D4 aH;have aW:=E2.D.ne bb;have a4:=B4 rg _ aW.1 aW.2 (by rw[ag (aj h3 av)];exact h3)
      have b1:=aH q _ nq.1 nq.2 au;have bj:=an.keep λb xs e=>aH.tup D2 e
      have aP:=E4.T.ht;have aI:=E4.T.hv;refine⟨.ref ar,bA,λσ H'=>∃Y r8 v9,σ=[some (.ref d),some (.ref a),some (.ref pa),some (.ref t),some (.ref q),some (.str c),some (.ref rg),some (.ref ar),some (.ref Y),v9,U,F]/\H' Y=some (.tup (List.map V.int r8))/\am H4 H',?_,?_⟩
      . refine⟨_,a4,?_⟩
        refine bR bB (λj σ H'=>∃Y r8 v9,σ=[some (.ref d),some (.ref a),some (.ref pa),some (.ref t),some (.ref q),some (.str c),some (.ref rg),some (.ref ar),some (.ref Y),v9,U,F]/\H' Y=some (.tup (List.map V.int r8))/\r8.length<=20/\am H4 H') ⟨ar,rm c,_,rfl,a9,a7.2.1,am.refl _⟩ (λj σ H' bk=>by obtain⟨_,_,_,_,_,_,s⟩:=bk;exact(.of (s _ _ a4))) ?_ ?_
        . rintro j x σ H5 hj bY ⟨Y,r8,v9,rfl,h5,b0,s5⟩
          have b2:=s5 _ _ aP;ctx_has v b2
          refine⟨_,_,rfl,.inr ⟨va,Y,r8,mI,rfl,s5 _ _ aI,h5,by omega,λpm H6 s6 h6=>⟨pm,rfl,_,h6,by rw[length_map];omega,λq1 ms aq Z a2=>⟨_,ab,λz hz=>?_⟩⟩⟩⟩
          have bw:=Z.length_eq;rw[length_map] at bw;exact⟨ms,ab,by omega,((s5.trans s6).upd_new aq).upd_new hz⟩
        . rintro σ H5 ⟨Y,r8,v9,rfl,h5,b0,s5⟩
          exact⟨_,_,_,rfl,h5,s5⟩
      rintro σ H5 ⟨Y,r8,v9,rfl,h5,s5⟩
      refine⟨λσ H'=>∃ak r' v8 v9 U F,σ=[some (.ref d),some (.ref a),some (.ref pa),some (.ref t),some (.ref q),some (.str c),some (.ref rg),some (.ref ak),v8,v9,U,F]/\H' ak=some (.tup (List.map V.int r'))/\gD ns r'/\am H4 H',?_,?_⟩
      . ctx_has v
        refine⟨fX r8,fX (rm c),.tup (.of h5) (cj.ints _),.tup (.of (s5 _ _ a9)) (cj.ints _),iE _,iE _,le_trans (kE _) (by decide),_,rfl,?_⟩
        refine cG (λhy=>?_) (λhy=>?_)
        . refine⟨by decide,λp6 bP=>?_⟩
          have s6:=s5.upd_new (o:=.lst []) bP;have g6:upd H5 p6 (.lst []) p6=some (.lst []):=ab
          refine⟨_,s6 _ _ a9,λp7 H7 h7 s7=>⟨_,h7,?_⟩⟩
          have aQ:=s6.trans s7;obtain⟨v0,rest,e0⟩ : ∃v0 rest,rm c=v0 :: rest:=by
            cases e:rm c with
            | nil=>exact absurd e a7.1
            | cons v0 rest=>exact⟨v0,rest,rfl⟩
          have bK:v0∈ns:=a7.2.2.2 v0 (by rw[e0];simp)
          have bg:dQ ((rm c).map V.int) none (some 1)=[V.int v0]:=by
            have:=lZ V.int (rm c) 1
            rw[e0] at this ⊢;exact this
          rw[bg] at h7;refine bR ba (λj σ H'=>∃fl is F,σ=[some (.ref d),some (.ref a),some (.ref pa),some (.ref t),some (.ref q),some (.str c),some (.ref rg),some (.ref ar),some (.ref Y),v9,some (.ref fl),F]/\H' fl=some (.lst (List.map V.int is))/\FJ j is ns/\am H7 H')
            ⟨p6,[],_,rfl,s7 _ _ g6,⟨λ_=>rfl,λz=>by omega⟩,am.refl _⟩ (λj σ H' be=>by obtain⟨_,_,_,_,_,_,s⟩:=be;exact(.of (s _ _ h7))) ?_ ?_
          . rintro j x σ H8 hj bh ⟨fl,is,F,rfl,h8,⟨aR,bc⟩,s8⟩
            obtain rfl:j=0:=by simp at hj;omega
            obtain rfl:=aR rfl
            simp at bh
            subst bh;have b6:=s8 _ _ (aQ _ _ aP);have bz:=s8 _ _ (aQ _ _ aI);ctx_has v b6
            refine⟨va,upI mI,Sum.inl v0,rfl,by rw[mO];exact bz,vH E2.T.pi,by unfold upI;rw[length_map];exact E2.T.li,λaS bV H9 bT s9 h9 bf bn bE b7=>?_⟩
            obtain⟨is,rfl,br,bJ⟩:=DD bK E0.mi bn bE;have bs:H9 aS=some (.lst (is.map V.int)):=by rw[h9,map_map];rfl
            rw[length_map] at b7;refine⟨aS,rfl,_,s9 _ _ h8,_,bs,by simp;exact le_of_lt (ax (by omega)),λz hz=>⟨is,ab,⟨λz=>by omega,λ_=>⟨λe=>?_,br,bJ⟩⟩,(s8.trans s9).upd_new hz⟩⟩
            rw[e] at bf;cases bf
          . rintro σ H8 ⟨fl,is,F,rfl,h8,⟨aR,bc⟩,s8⟩
            obtain⟨i1,i2,i3⟩:=bc rfl;have ca:=eG i2 i3;have h5:=E0.n5;ctx_has v h8
            refine⟨is,rfl,by omega,λq1 ms aq Z a2=>⟨_,ab,λz hz=>⟨ms,ab,⟨λe=>?_,by rw[Z.length_eq];omega,tY a2 (Z.nodup_iff.mpr i2),λv hv=>i3 v (Z.mem_iff.mp hv)⟩,((aQ.trans s8).upd_new aq).upd_new hz⟩⟩⟩
            rw[e] at Z;exact i1 (List.nil_perm.mp Z)
        . exact⟨_,s5 _ _ a9,a7,s5⟩
      rintro σ H6 ⟨ak,r',v8,v9,U,F,rfl,bQ,bL,s6⟩
      ctx_has v
      refine⟨_,s6 _ _ a4,?_⟩
      have aY:=s6 _ _ b1;have aT:=s6 _ _ aP;have bi:=s6 _ _ aI;have b3:=s6 _ _ a4;have bO:But d l H H6:=(B2.trans aH).same s6
      have D6:=E4.D.same s6;have bM:rg≠q:=(aj au bb).symm
      refine bR bB (λj σ H'=>∃ak r' v8 v9 U F kv,σ=[some (.ref d),some (.ref a),some (.ref pa),some (.ref t),some (.ref q),some (.str c),some (.ref rg),some (.ref ak),v8,v9,U,F]/\H' q=some (.dK kv)/\lE H' kv ws ns/\(kv.map (·.1)).Nodup/\(∀x∈kvs.map (·.1),x∈kv.map (·.1))/\(∀x∈fs.take j,x∈kv.map (·.1))/\H' ak=some (.tup (List.map V.int r'))/\gD ns r'/\∀b u,b≠q->H6 b=some u->H' b=some u)
        ⟨_,_,_,_,_,_,kvs,rfl,aY,bj.keep λb xs e=>s6 _ _ e,a5,λ_ h=>h,by simp,bQ,bL,λ_ _ _ h=>h⟩ (λj σ H' bd=>by obtain⟨_,_,_,_,_,_,_,_,_,_,_,_,_,_,_,k⟩:=bd;exact(.of (k _ _ bM b3))) ?_ ?_
      . rintro j x σ H7 hj aw ⟨aJ,r7,v8,v9,U,F,kv,rfl,aG,ad,a3,aL,a6,aM,a8,k7⟩
        obtain⟨f0,aV,rfl⟩ : ∃f0,fs[j]? = some f0/\kV f0=x:=by
          rw[List.getElem?_map] at aw;cases e:fs[j]? with
          | none=>rw[e] at aw;cases aw
          | some nm=>rw[e] at aw;exact⟨nm,rfl,Option.some.inj aw⟩
        obtain⟨s0,bm,rfl⟩:=bD f0 (mem_of_getElem? aV);have bI:=eG (ys:=ws.map Sum.inr) a3 λx hx=>by
          obtain⟨y,hy,rfl⟩:=mem_map.mp hx;obtain⟨c,a',r,rfl,hc,_⟩:=ad y hy;exact mem_map.mpr ⟨c,hc,rfl⟩
        rw[length_map,length_map] at bI;have cc:=E0.wl;ctx_has v aG
        have gk:=xh (o:=.dK (bp kv (Sum.inr s0) (.ref aJ))) aG;have b9:=k7 t _ (aX aT aY (by intro z;cases z)) aT
        have aZ:va≠q:=λz=>by rw[z] at bi;exact absurd (E0.T.hv) (by rw[z,hq];intro z;cases z)
        have bS:=a8.2.1;refine⟨Sum.inr s0,rfl,ax (by omega),_,gk _ _ b9,_,rfl,_,_,rfl,.inr ⟨va,aJ,r7,mI,rfl,by rw[ag aZ];exact k7 va _ aZ bi,gk _ _ aM,by omega,λpm H8 s8 h8=>⟨pm,rfl,_,h8,by rw[length_map];omega,λq1 ms aq Z a2=>⟨_,ab,λz hz=>?_⟩⟩⟩⟩
        have s9:=(s8.upd_new (o:=.lst (ms.map V.int)) aq).upd_new (o:=.tup (ms.map V.int)) hz;have bv:ms=srt (r7.map (ld mI)):=qC Z a2
        refine⟨ms,_,s9 _ _ ab,((ad.put bm aM a8).keep gk).keep λb xs e=>s9 _ _ e,E1 a3,λx hx=>(ko x).mpr (.inr (aL x hx)),λx hx=>?_,ab,by rw[bv];exact yP E0.T.pi E0.mi a8,λb u hb e=>s9 _ _ (by rw[ag hb];exact k7 b u hb e)⟩
        rw[take_add_one,aV] at hx;rcases mem_append.mp hx with w | w
        . exact(ko x).mpr (.inr (a6 x w))
        . exact(ko x).mpr (.inl (by simpa using w))
      . rintro σ H7 ⟨aJ,r7,v8,v9,U,F,kv,rfl,aG,ad,a3,aL,a6,aM,a8,k7⟩
        rw[length_map,take_length] at a6;refine⟨_,_,_,_,_,_,_,rfl,kv,aG,ad,λc' a0=>?_,a3,DI D6 nq k7,λb u h1 h2 e=>?_⟩
        . rw[take_add_one,hc] at a0
          rcases mem_append.mp a0 with z | z
          . exact aL _ (a1 c' z)
          . rw[show c'=c by simpa using z]
            exact a6 _ bH
        . exact k7 b u (aj e hq) (bO b u h1 h2 e)
    . refine⟨an,λc' a0=>?_,a5,D2,B2⟩
      rw[take_add_one,hc] at a0;rcases mem_append.mp a0 with z | z
      . exact a1 c' z
      . rw[show c'=c by simpa using z]
        exact dH.mp (by cases hv:(bu kvs (Sum.inr c)).isSome with | true=>rfl | false=>exact absurd hv h)
  . rintro σ H2 ⟨v5,v6,v7,v8,v9,U,F,kvs,rfl,au,an,a1,a5,D2,B2⟩
    rw[length_map,take_length] at a1;ctx_has v
    have bF:=eG (ys:=ws.map Sum.inr) a5 λx hx=>by
      obtain⟨y,hy,rfl⟩:=mem_map.mp hx;obtain⟨c,a',r,rfl,hc,_⟩:=an y hy;exact mem_map.mpr ⟨c,hc,rfl⟩
    rw[length_map,length_map] at bF;have:=E0.wl
    exact k q kvs H2 hq au an a1 (by omega) D2 B2
theorem fY (hS:PM mS) (h1 : ∀c∈ws,ld mS c∈ws') {cs:List Str} (h:okC ws cs):okC ws' (cs.map (ld mS)):=by
 obtain⟨a,b,c,d⟩:=h;refine⟨λe=>a (map_eq_nil_iff.mp e),pairwise_map.mpr (b.imp λne e=>ne (dj hS e)),λx B=>?_,by rw[length_map];exact d⟩
 obtain⟨y,z,rfl⟩:=mem_map.mp B;exact h1 y (c y z)
theorem tN (hI:PM mI) (h2 : ∀v∈ns,ld mI v∈ns) {z:List Int} (h:okV ns z):okV ns (z.map (ld mI)):=by
 obtain⟨a,b,c⟩:=h;refine⟨pairwise_map.mpr (a.imp λne e=>ne (dj hI e)),λx F=>?_,by rw[length_map];exact c⟩
 obtain⟨y,B,rfl⟩:=mem_map.mp F;exact h2 y (b y B)
theorem tT (hS:PM mS) (hI:PM mI) (h1 : ∀c∈ws,ld mS c∈ws') (h2 : ∀v∈ns,ld mI v∈ns) {W V:Wi} (ok:okW ws ns W) (h:cg mS mI W=some V):okW ws' ns V/\fz V=(fz W).map (ld mS):=by
 cases W with
 | un cs=>cases h;exact⟨fY hS h1 ok,rfl⟩
 | mn av cs lo hi=>cases h;exact⟨⟨fY hS h1 ok.1,tN hI h2 ok.2⟩,rfl⟩
 | sm ts lo hi =>
  unfold cg at h;dsimp only at h
  split at h
  .cases h
   have e:(ts.map λx=>(x.1,ld mS x.2)).map (·.2)=(ts.map (·.2)).map (ld mS):=by rw[map_map,map_map];rfl
   refine⟨⟨by rw[e];exact fY hS h1 ok.1,λx hx=>?_⟩,e⟩
   obtain⟨y,Y,rfl⟩:=mem_map.mp hx;exact ok.2 y Y
  .cases h
 | tb cs rows =>
  cases h;obtain⟨U,Z,B,F⟩:=ok;refine⟨⟨fY hS h1 U,?_,λr hr=>?_,by rw[length_map];exact F⟩,rfl⟩
  .exact pairwise_map.mpr (Z.imp λne e=>ne ((List.map_inj_right λa b z=>dj hI z).mp e))
  .obtain⟨y,Y,rfl⟩:=mem_map.mp hr
   rw[length_map,length_map];exact B y Y
 | wy cs ps es =>
  cases h;obtain⟨U,Z,B,F⟩:=ok;refine⟨⟨fY hS h1 U,?_,by rw[length_map];exact B,F⟩,rfl⟩
  rw[map_map];have e:((λx:Int × Int × Int=>(x.1,x.2.1)) ∘ λx:Int × Int × Int=>(x.1,ld mI x.2.1,x.2.2))=(λy:Int × Int=>(y.1,ld mI y.2)) ∘ λx:Int × Int × Int=>(x.1,x.2.1):=rfl
  rw[e,<- map_map];refine pairwise_map.mpr (Z.imp λ{a b} ne e=>ne ?_)
  have e1:(a.1,ld mI a.2)=(b.1,ld mI b.2):=e
  exact Prod.ext (Prod.mk.inj e1).1 (dj hI (Prod.mk.inj e1).2)
 | bh cs aa =>
  unfold cg at h;dsimp only at h
  split at h
  .cases h;exact⟨fY hS h1 ok,rfl⟩
  .cases h
theorem eF (hS:PM mS) (hI:PM mI) (h1 : ∀c∈ws,ld mS c∈ws') (h2 : ∀v∈ns,ld mI v∈ns) {W V:Wx} (ok:okX ws ns W) (h:bF mS mI W=some V):okX ws' ns V:=by
 cases W with
 | pl W =>
  obtain⟨F,B,rfl⟩:=map_eq_some_iff.mp h;exact(tT hS hI h1 h2 ok B).1
 | sa c vs W =>
  obtain⟨F,B,rfl⟩:=map_eq_some_iff.mp h;obtain⟨o1,o2,Y,Z⟩:=ok;obtain⟨p1,p2⟩:=tT hS hI h1 h2 Y B;refine⟨h1 c o1,tN hI h2 o2,p1,?_⟩
  rw[p2];intro z;obtain⟨x,U,e⟩:=mem_map.mp z;exact Z (by rw[<- dj hS e];exact U)
def uF (H:Hp) (bs:List (Addr × Wx)) (ws:List Str) (ns:List Int):Prop:=∀x∈bs,WX H x.1 x.2/\okX ws ns x.2
theorem uF.keep {bs:List (Addr × Wx)} (h:uF H bs ws ns) (k : ∀a xs,H a=some (.tup xs)->H' a=some (.tup xs)):uF H' bs ws ns:=λx z=>⟨bU (h x z).1 k,(h x z).2⟩
abbrev rfs (bs:List (Addr × Wx)):List V:=bs.map λx=>V.ref x.1
theorem jS (hI:PM mI) {ns:List Int} (F : ∀x∈mI,x.1∈ns) : ∀v∈ns,ld mI v∈ns:=λv B=>by
 by_cases z:v∈mI.map (·.1)
 .obtain⟨y,hy,e⟩:=mem_map.mp (kY hI z)
  rw[<- e];exact F y hy
 .rw[cR z];exact B
def Hy:Sp:=λvs H Q _=>∃(d l a ra pa t na va:Addr) (ws:List Str) (ns:List Int) (mS:List (Str × Str)) (mI:List (Int × Int)) (kvs:List (Key × V)) (rm:Str->List Int),vs=[.ref d,.ref a,.ref ra,.ref pa,.ref t]/\bP H/\lx H d l a pa t na va ws ns mS mI/\gv H d l a ra pa ws ns kvs rm /\
 ∀(p:Addr) (bs:List (Addr × Wx)) (H':Hp),H p=none->H' p=some (.lst (rfs bs))->uF H' bs ws ns->bs.length<=14->aC H' d l->But d l H H'->Q (.ref p) H'
structure lF (H H':Hp) (d l so p:Addr) (bs:List (Addr × Wx)) (ws:List Str) (ns:List Int):Prop where
 D:aC H' d l
 B:But d l H H'
 fp:H p=none
 hp:H' p=some (.lst (rfs bs))
 hs:H' so=some (.lst ((fB true).map V.str))
 ns':so≠p
 np:p≠d/\p≠l
 wo:uF H' bs ws ns
 ln:bs.length<=14
theorem lF.but {p:Addr} {bs:List (Addr × Wx)} (h:lF H H' d l so p bs ws ns) (z:so≠d/\so≠l) (D:aC H2 d l) (B:But d l H' H2):lF H H2 d l so p bs ws ns :=
 ⟨D,h.B.trans B,h.fp,B _ _ h.np.1 h.np.2 h.hp,B _ _ z.1 z.2 h.hs,h.ns',h.np,h.wo.keep λb xs e=>B.tup h.D e,h.ln⟩
theorem lF.putF {p:Addr} {bs:List (Addr × Wx)} {ys zs:List V} (h:lF H H' d l so p bs ws ns) (F:H f=none) (z:f≠d/\f≠l) (fp:f≠p) (fs:f≠so) (hl:H' f=some (.lst ys)):lF H (upd H' f (.lst zs)) d l so p bs ws ns :=
 ⟨h.D.put z.1 z.2,h.B.put F,h.fp,by rw[ag fp.symm];exact h.hp,by rw[ag fs.symm];exact h.hs,h.ns',h.np,h.wo.keep (eI hl),h.ln⟩
theorem lF.add {p r:Addr} {bs:List (Addr × Wx)} {W:Wx} (h:lF H H' d l so p bs ws ns) (hl:bs.length < 14) (F:WX H' r W) (ok:okX ws ns W):lF H (upd H' p (.lst (rfs bs++[V.ref r]))) d l so p (bs++[(r,W)]) ws ns :=
 ⟨h.D.put h.np.1 h.np.2,h.B.put h.fp,h.fp,by rw[ab];simp,by rw[ag h.ns'];exact h.hs,h.ns',h.np,λx U=>by
  rcases mem_append.mp U with z | z
  .exact(h.wo.keep (eI h.hp)) x z
  .rw[mem_singleton.mp z];exact⟨bU F (eI h.hp),ok⟩,by simp;omega⟩
def WhV (H:Hp) (v:V) (ws:List Str) (ns:List Int):Prop:=v = .non\/∃w W,v = .ref w/\WX H w W/\okX ws ns W
structure lK (H H':Hp) (d l so p f:Addr) (bs fs:List (Addr × Wx)) (ws:List Str) (ns:List Int):Prop where
 W:lF H H' d l so p bs ws ns
 hf:H' f=some (.lst (rfs fs))
 ff:H f=none
 nf:f≠d/\f≠l
 fp:f≠p
 fs':f≠so
 pw:rZ H' fs
 le:fs.length<=bs.length
theorem lK.but {H H' H2:Hp} {d l so p f:Addr} {bs fs:List (Addr × Wx)} {ws:List Str} {ns:List Int} (h:lK H H' d l so p f bs fs ws ns) (z:so≠d/\so≠l) (D:aC H2 d l) (B:But d l H' H2):lK H H2 d l so p f bs fs ws ns :=
 ⟨h.W.but z D B,B _ _ h.nf.1 h.nf.2 h.hf,h.ff,h.nf,h.fp,h.fs',h.pw.keep λb xs e=>B.tup h.W.D e,h.le⟩
theorem lK.same {H H' H2:Hp} {d l so p f:Addr} {bs fs:List (Addr × Wx)} {ws:List Str} {ns:List Int} (h:lK H H' d l so p f bs fs ws ns) (z:so≠d/\so≠l) (s:am H' H2):lK H H2 d l so p f bs fs ws ns:=h.but z (h.W.D.same s) ((But.refl H').same s)
abbrev He:=Fn P w K mg base "_law_even_wishes" 16 ["_law_deal_here","_law_names_here","_law_rooms_here","_law_pool_here","_law_turning"] (Hy)
theorem iP (T:Txt w K mg base) (L:FnL K mg "_law_even_wishes" cP ["_law_deal_here","_law_names_here","_law_rooms_here","_law_pool_here","_law_turning"]) (Fa : @Dz0 P w K mg base) (FT:Fn P w K mg base "_law_wish" 15 ["_law_deal_here","_law_names_here","_law_rooms_here","_law_pool_here","_law_sorts"] (iK true)) (Ft : @EM P w K mg base) (FD:Fn P w K mg base "_law_plain" 5 ["_law_wish_here"] (xJ)) (Fq : @Dv P w K mg base) (FC : @G9 P w K mg base) (Fr : @Eb P w K mg base) (Fz : @GE P w K mg base) : @He P w K mg base:=by
  ctx_has z iO <;> obtain⟨d,l,a,ra,pa,t,na,va,ws,ns,mS,mI,kvs,rm,rfl,tb,E0,F0,k⟩:=h
  . rfl
  refine⟨_,(af (az 5 (bx (aa au (aa au (aa au (aa au (aa au (aa au (aa au ac)))))))))
    (af (az 6 (bx ac))
    (af (bC (cb rfl T.b_range (aa (ah Fa (aa (pvM 0) (aa ae ac))) ac)) (aA 7) (af (az 8 (ah FT (aa (pvM 0) (aa (pvM 1) (aa (pvM 2) (aa (pvM 3) (aa (pvM 5) ac)))))))
    (af (az 9 (bx ac))
    (bW (im PassesOwn.never (PW.pt (fK (il (qP (pvM 8))) (fK (ay (oH (xR hr)) (eE Ft FD (aa (pvM 8) ac)) (pvM 9)) (eS (ay CO (aE bo T.b_len (aa (pvM 6) ac)) ae))))) (af (bY (eL PySem.F.slot_list_append PySem.F.type_list_append bK (pvM 9) (aa (eE Ft FD (aa (pvM 8) ac)) ac)))
    (af (bY (eL PySem.F.slot_list_append PySem.F.type_list_append bK (pvM 6) (aa (eE Fr Fz (aa (pvM 0) (aa (pvM 8) ac))) ac)))
    (ai (az 8 (eE Fq FC (aa (pvM 4) (aa (pvM 8) ac))))))))
    (ai (aK (il (qN (pvM 8))) (ai (az 6 (bG Gf (pvM 6) cB (bN (aN gN (aE bo T.b_len (aa (pvM 6) ac)) (aE bo T.b_len (aa (pvM 9) ac))))))) aD))))))
    (ai (aB (pvM 6)))))),?_⟩
  ctx_has v
  refine⟨by decide,λso ak=>⟨by decide,λp hp=>?_⟩⟩
  have Z:=E0.D.ne ak;have ap:H p=none:=by
    cases e:H p with
    | none=>rfl
    | some u=>rw[ag (aj e ak),e] at hp;cases hp
  have sp:so≠p:=λz=>by rw[<- z,ab] at hp;cases hp
  have np:=E0.D.ne ap;have D0:=(E0.D.new (o:=.lst ((fB true).map V.str)) ak).new (o:=.lst []) hp;refine aS D0 (by decide) (by decide) λx1 H1 aI aF D1 B1=>⟨_,rfl,by omega,by omega,?_⟩
  have aw:But d l H H1:=(((But.refl H).new ak).new hp).trans B1
  have W1:lF H H1 d l so p [] ws ns:=⟨D1,aw,ap,B1 _ _ np.1 np.2 ab,B1 _ _ Z.1 Z.2 (by rw[ag sp];exact ab),sp,np,(λx hx=>by cases hx),by decide⟩
  refine bR bQ (λi σ H'=>∃p bs v7 v8 v9,σ=[some (.ref d),some (.ref a),some (.ref ra),some (.ref pa),some (.ref t),some (.ref so),some (.ref p),v7,v8,v9]/\lF H H' d l so p bs ws ns) ⟨p,[],_,_,_,rfl,W1⟩ (λ_ _ _ _=>True.intro) ?_ ?_
  . clear W1 aw D1 B1 D0 hp np sp ap p
    rintro i x σ H2 hi hx ⟨p,bs,v7,v8,v9,rfl,W2⟩
    have F2:=F0.but W2.D W2.B;ctx_has v qZ
    refine⟨d,l,a,ra,pa,so,ws,ns,kvs,rm,rfl,F2,Z,W2.hs,λw W H3 hW a5 _ D3 B3=>⟨by decide,λf hf=>?_⟩⟩
    have W3:=W2.but Z D3 B3;have a6:H f=none:=by
      cases e:H f with
      | none=>rfl
      | some u =>
        have nd:=E0.D.ex;have nf:f≠d/\f≠l:=D3.ne hf
        rw[W3.B f u nf.1 nf.2 e] at hf;cases hf
    have nf:=D3.ne hf;have Ef:lK H (upd H3 f (.lst [])) d l so p f bs [] ws ns :=
      ⟨W3.but Z (D3.new hf) ((But.refl H3).new hf),ab,a6,nf,(aj W3.hp hf).symm,(aj W3.hs hf).symm,(λx hx=>by cases hx),zero_le _⟩
    have hV:WhV (upd H3 f (.lst [])) (.ref w) ws ns:=.inr ⟨w,W,rfl,bU hW λb xs e=>by rw[ag (aj e hf)];exact e,a5⟩
    refine⟨λσ H'=>∃v bs fs,σ=[some (.ref d),some (.ref a),some (.ref ra),some (.ref pa),some (.ref t),some (.ref so),some (.ref p),some x,some v,some (.ref f)]/\lK H H' d l so p f bs fs ws ns,?_,?_⟩
    . refine gL (λμ σ H'=>∃v bs fs,σ=[some (.ref d),some (.ref a),some (.ref ra),some (.ref pa),some (.ref t),some (.ref so),some (.ref p),some x,some v,some (.ref f)]/\lK H H' d l so p f bs fs ws ns/\WhV H' v ws ns/\μ=14 - bs.length)
        (λσ H'=>∃v bs fs,σ=[some (.ref d),some (.ref a),some (.ref ra),some (.ref pa),some (.ref t),some (.ref so),some (.ref p),some x,some v,some (.ref f)]/\lK H H' d l so p f bs fs ws ns) ⟨_,_,_,_,rfl,Ef,hV,rfl⟩ ?_ (λ_ _ h=>h)
      rintro R hR μ σ H4 ⟨v,U,Y,rfl,E4,hv,rfl⟩
      rcases hv with rfl | ⟨w4,W4,rfl,hW4,hok4⟩
      . ctx_has v xn
        exact hR _ _ ⟨_,_,_,rfl,E4⟩
      . ctx_has v xn
        rw[if_pos (by simp)]
        have ar:=tb.but E0.D E4.W.B;have ao:=AU F0.nm hok4;refine rK ar hW4 hok4 λr H5 s5 h5=>?_
        have E5:=E4.same Z s5;obtain⟨rp,ly⟩:=E5.pw.reps (K:=K);refine⟨dP W4,pD Y,lj h5,.lst (.of E5.hf) rp,gg _ ao.1,ly,le_trans ao.2 (by decide),_,rfl,?_⟩
        rw[if_pos rfl];cases aH:inD (dP W4) (pD Y) with
        | true =>
          rw[if_neg (by decide)]
          exact hR _ _ ⟨_,_,_,rfl,E5⟩
        | false =>
          rw[if_pos (by decide)]
          refine⟨_,E5.W.hp,?_⟩
          refine cG (λa1=>?_) (λa1=>hR _ _ ⟨_,_,_,rfl,E5⟩)
          have av:U.length < 14:=by rw[length_map] at a1;omega
          have a7:=E4.le;refine⟨λσ' H'=>∃v an fs',σ'=[some (.ref d),some (.ref a),some (.ref ra),some (.ref pa),some (.ref t),some (.ref so),some (.ref p),some x,some v,some (.ref f)]/\lK H H' d l so p f an fs' ws ns/\WhV H' v ws ns/\an.length=U.length+1,?_,⟨_,E5.hf⟩,rK (ar.same s5) (bU hW4 λb xs e=>s5 _ _ e) hok4 λr2 H6 s6 h6=>?_⟩
          . rintro σ' H' ⟨v,an,fs',rfl,e,hv,hl⟩
            exact⟨_,by omega,v,rfl,an,fs',e,hv,rfl⟩
          have E6:=E5.same Z s6;have k6:=eI (o:=.lst (rfs Y++[V.ref r2])) E6.hf;have W6:=E6.W.putF (zs:=rfs Y++[V.ref r2]) E6.ff E6.nf E6.fp E6.fs' E6.hf;have aC:upd H6 f (.lst (rfs Y++[V.ref r2])) f=some (.lst (rfs (Y++[(r2,dv W4)]))):=by rw[ab];simp
          have a8:rZ (upd H6 f (.lst (rfs Y++[V.ref r2]))) (Y++[(r2,dv W4)]):=λx hx=>by
            rcases mem_append.mp hx with z | z
            . exact(E6.pw.keep k6) x z
            . rw[mem_singleton.mp z];exact⟨bU h6 k6,ao⟩
          have a0:=bU (bU hW4 λb xs e=>s6 _ _ (s5 _ _ e)) k6
          refine⟨_,E6.hf,by rw[length_map];exact ax (by omega),⟨_,W6.hp⟩,Ee W6.D a0 hok4 λr3 W3 H7 h7 m7 D7 B7=>?_⟩
          have W7:=W6.but Z D7 B7;have a9:=B7 f _ E6.nf.1 E6.nf.2 aC;have a3:=a8.keep λb xs e=>B7.tup W6.D e
          have W8:=W7.add av h7 (wV hok4 m7);have k8:=eI (o:=.lst (rfs U++[V.ref r3])) W7.hp;have a4:=bU (bU a0 λb xs e=>B7.tup W6.D e) k8
          have E8:lK H (upd H7 p (.lst (rfs U++[V.ref r3]))) d l so p f (U++[(r3,W3)]) (Y++[(r2,dv W4)]) ws ns :=
            ⟨W8,by rw[ag E6.fp];exact a9,E6.ff,E6.nf,E6.fp,E6.fs',a3.keep k8,by simp;omega⟩
          refine⟨_,W7.hp,by rw[length_map];exact ax (by omega),Ej (E0.but W8.D W8.B).T a4 (ma hok4) λv H9 s9 hv=>⟨v,_,_,rfl,E8.same Z s9,?_,by simp⟩⟩
          cases ht:bF mS mI W4 with
          | none=>rw[ht] at hv;exact .inl hv
          | some Vt =>
            rw[ht] at hv;obtain⟨wt,rfl,a2⟩:=hv;exact .inr ⟨wt,Vt,rfl,a2,eF E0.T.ps E0.T.pi (λc hc=>gi E0.T.ps E0.ms hc) (jS E0.T.pi E0.mi) hok4 ht⟩
    . rintro σ H4 ⟨v,U,Y,rfl,E4⟩
      have g1:=E4.W.hp;have g2:=E4.hf;have a7:=E4.le;ctx_has v g1 g2
      refine cG (λhy=>λp3 ad=>⟨U.take (U.length - Y.length),?_⟩) (λhy=>⟨_,E4.W⟩)
      have n3:=E4.W.D.ne ad;have aq:H p3=none:=by
        cases e:H p3 with
        | none=>rfl
        | some u=>rw[E4.W.B p3 u n3.1 n3.2 e] at ad;cases ad
      have ec:dQ (rfs U) none (some (((rfs U).length:Int) - ((rfs Y).length:Int)))=rfs (U.take (U.length - Y.length)):=by
        rw[show(((rfs U).length:Int) - ((rfs Y).length:Int))=((U.length - Y.length:Nat):Int) by rw[length_map,length_map];omega]
        exact lZ (λx:Addr × Wx=>V.ref x.1) U _
      rw[ec];have aG:=E4.W.ln;exact⟨E4.W.D.new ad,E4.W.B.new ad,aq,ab,by rw[ag (aj E4.W.hs ad)];exact E4.W.hs,aj E4.W.hs ad,n3,(λx hx=>(E4.W.wo.keep λb xs e=>by rw[ag (aj e ad)];exact e) x (mem_of_mem_take hx)),by rw[length_take];omega⟩
  . rintro σ H2 ⟨p,bs,v7,v8,v9,rfl,W2⟩
    ctx_has v
    exact k p bs H2 W2.fp W2.hp W2.wo W2.ln W2.D W2.B
theorem vx (h:ws.Nodup):(ws.map (Sum.inr:Str->Key)).Nodup:=pairwise_map.mpr (h.imp λne e=>ne (Sum.inr.inj e))
theorem vC (h:ns.Nodup):(ns.map (Sum.inl:Int->Key)).Nodup:=pairwise_map.mpr (h.imp λne e=>ne (Sum.inl.inj e))
theorem xS {Q:VK} {E:XK} (D:aC H d l) (sq:vL H a (ws.map V.str)) (nd:ws.Nodup) (ln:ws.length<=40)
  (k : ∀na mS H',H na=none->H' na=some (.dK (kvS mS))->PM mS->(∀x∈mS,x.1∈ws)->mS.length<=40->aC H' d l->But d l H H'->Q (.ref na) H'):sE [.ref d,.ref a] H Q E:=by
 refine⟨d,l,a,ws.map Sum.inr,rfl,D,by rw[map_map];exact sq,vx nd,by rw[length_map];exact ln,λna m H' Z h U F B D' B'=>?_⟩
 obtain⟨mS,rfl,Y⟩:=Hd U λy hy=>by
  obtain⟨z,_,e⟩:=mem_map.mp (F y hy);exact⟨z,e.symm⟩
 rw[qk] at h;refine k na mS H' Z h Y (λx hx=>?_) (by unfold upS at B;rw[length_map] at B;exact B) D' B'
 obtain⟨z,hz,e⟩:=mem_map.mp (F (Sum.inr x.1,Sum.inr x.2) (mem_map.mpr ⟨x,hx,rfl⟩));rw[<- Sum.inr.inj e];exact hz
theorem xF {Q:VK} {E:XK} (D:aC H d l) (sq:vL H a (ns.map V.int)) (nd:ns.Nodup) (ln:ns.length<=40)
  (k : ∀va mI H',H va=none->H' va=some (.dK (kvI mI))->PM mI->(∀x∈mI,x.1∈ns)->mI.length<=40->aC H' d l->But d l H H'->Q (.ref va) H'):sE [.ref d,.ref a] H Q E:=by
 refine⟨d,l,a,ns.map Sum.inl,rfl,D,by rw[map_map];exact sq,vC nd,by rw[length_map];exact ln,λva m H' Z h Y F B D' B'=>?_⟩
 obtain⟨mI,rfl,U⟩:=Hi Y λy hy=>by
  obtain⟨z,_,e⟩:=mem_map.mp (F y hy);exact⟨z,e.symm⟩
 rw[mO] at h;refine k va mI H' Z h U (λx hx=>?_) (by unfold upI at B;rw[length_map] at B;exact B) D' B'
 obtain⟨z,hz,e⟩:=mem_map.mp (F (Sum.inl x.1,Sum.inl x.2) (mem_map.mpr ⟨x,hx,rfl⟩));rw[<- Sum.inl.inj e];exact hz
theorem xX {z rest:List V} (h:(z++rest).Perm (ns.map V.int)) : ∃is:List Int,z=is.map V.int/\(ns.Nodup->is.Nodup)/\(∀i∈is,i∈ns)/\is.length<=ns.length:=by
 have F : ∀v∈z,∃i,v=V.int i:=λv B=>by
  obtain⟨i,_,e⟩:=mem_map.mp (h.mem_iff.mp (mem_append_left _ B));exact⟨i,e.symm⟩
 have Y : ∀v∈rest,∃i,v=V.int i:=λv B=>by
  obtain⟨i,_,e⟩:=mem_map.mp (h.mem_iff.mp (mem_append_right _ B));exact⟨i,e.symm⟩
 have conv : ∀l:List V,(∀v∈l,∃i,v=V.int i)->∃is:List Int,l=is.map V.int:=λl=>by
  induction l with
  | nil=>exact λ_=>⟨[],rfl⟩
  | cons v l U =>
   intro hl;obtain⟨i,rfl⟩:=hl v (by simp)
   obtain⟨is,rfl⟩:=U λv B=>hl v (by simp[B])
   exact⟨i :: is,rfl⟩
 obtain⟨is,rfl⟩:=conv z F;obtain⟨js,rfl⟩:=conv rest Y;have hl:=h.length_eq;rw[length_append,length_map,length_map,length_map] at hl;refine⟨is,rfl,λhn=>?_,λi hi=>?_,by omega⟩
 .have:(is.map V.int++js.map V.int).Nodup:=h.nodup_iff.mpr (pairwise_map.mpr (hn.imp λne e=>ne (V.int.inj e)))
  have:=(nodup_append.mp this).1
  exact(pairwise_map.mp this).imp λne e=>ne (by rw[e])
 .obtain⟨j,hj,e⟩:=mem_map.mp (h.mem_iff.mp (mem_append_left _ (mem_map.mpr ⟨i,hi,rfl⟩)))
  rw[<- V.int.inj e];exact hj
structure ij (H H':Hp) (d l a pa tn na va ra p:Addr) (ws:List Str) (ns:List Int) (mS:List (Str × Str)) (mI:List (Int × Int)) (kvs:List (Key × V)) (bs:List (Addr × Wx)):Prop where
 E:lx H' d l a pa tn na va ws ns mS mI
 B:But d l H H'
 hr:H' ra=some (.dK kvs)
 fr:H ra=none
 nr:ra≠d/\ra≠l
 xr:ra≠na/\ra≠va
 ro:lE H' kvs ws ns
 ck : ∀c∈ws,Sum.inr c∈kvs.map (·.1)
 kl:kvs.length<=13
 hw:H' p=some (.lst (rfs bs))
 fw:H p=none
 nw:p≠d/\p≠l
 xw:p≠a/\p≠pa
 wo:uF H' bs ws ns
 wl:bs.length<=20
theorem ij.but {H H' H2:Hp} {d l a pa tn na va ra p:Addr} {ws:List Str} {ns:List Int} {mS:List (Str × Str)} {mI:List (Int × Int)} {kvs:List (Key × V)} {bs:List (Addr × Wx)} (h:ij H H' d l a pa tn na va ra p ws ns mS mI kvs bs) (D:aC H2 d l) (B:But d l H' H2):ij H H2 d l a pa tn na va ra p ws ns mS mI kvs bs :=
 ⟨h.E.but D B,h.B.trans B,B _ _ h.nr.1 h.nr.2 h.hr,h.fr,h.nr,h.xr,h.ro.keep λb xs e=>B.tup h.E.D e,h.ck,h.kl,B _ _ h.nw.1 h.nw.2 h.hw,h.fw,h.nw,h.xw,h.wo.keep λb xs e=>B.tup h.E.D e,h.wl⟩
theorem ij.same {H H' H2:Hp} {d l a pa tn na va ra p:Addr} {ws:List Str} {ns:List Int} {mS:List (Str × Str)} {mI:List (Int × Int)} {kvs:List (Key × V)} {bs:List (Addr × Wx)} (h:ij H H' d l a pa tn na va ra p ws ns mS mI kvs bs) (s:am H' H2):ij H H2 d l a pa tn na va ra p ws ns mS mI kvs bs:=h.but (h.E.D.same s) ((But.refl H').same s)
theorem ij.setW {p:Addr} {bs cs:List (Addr × Wx)} (h:ij H H' d l a pa tn na va ra p ws ns mS mI kvs bs) (F:uF H' cs ws ns) (hl:cs.length<=20):ij H (upd H' p (.lst (rfs cs))) d l a pa tn na va ra p ws ns mS mI kvs cs:=by
 have k:=eI (o:=.lst (rfs cs)) h.hw;have nd : ∀{x:Addr} {kv:List (Key × V)},H' x=some (.dK kv)->x≠p:=λe=>aX e h.hw (by intro z;cases z)
 exact⟨⟨h.E.D.put h.nw.1 h.nw.2,h.E.n1,h.E.n2,h.E.n3,h.E.n4,by rw[ag h.xw.1.symm];exact h.E.ha,by rw[ag h.xw.2.symm];exact h.E.hp,⟨k _ _ h.E.T.ht,by rw[ag (nd h.E.T.hn)];exact h.E.T.hn,by rw[ag (nd h.E.T.hv)];exact h.E.T.hv,h.E.T.ps,h.E.T.pi,h.E.T.ls,h.E.T.li⟩,h.E.ms,h.E.mi,h.E.wn,h.E.nd,h.E.wl,h.E.n5,h.E.pw,h.E.nb,h.E.nm⟩,h.B.put h.fw,by rw[ag (nd h.hr)];exact h.hr,h.fr,h.nr,h.xr,h.ro.keep k,h.ck,h.kl,ab,h.fw,h.nw,h.xw,F.keep k,hl⟩
theorem ij.setR {p r:Addr} {c:Str} {bs:List (Addr × Wx)} (h:ij H H' d l a pa tn na va ra p ws ns mS mI kvs bs) (Y:c∈ws) (hr:H' r=some (.tup (rs.map V.int))) (Z:gD ns rs) (hl:kvs.length<=12):ij H (upd H' ra (.dK (bp kvs (Sum.inr c) (.ref r)))) d l a pa tn na va ra p ws ns mS mI (bp kvs (Sum.inr c) (.ref r)) bs:=by
 have k:=xh (o:=.dK (bp kvs (Sum.inr c) (.ref r))) h.hr;have U : ∀{x:Addr} {ys:List V},H' x=some (.lst ys)->x≠ra:=λe=>aX e h.hr (by intro z;cases z)
 exact⟨⟨h.E.D.put h.nr.1 h.nr.2,h.E.n1,h.E.n2,h.E.n3,h.E.n4,by rw[ag (U h.E.ha)];exact h.E.ha,by rw[ag (U h.E.hp)];exact h.E.hp,⟨k _ _ h.E.T.ht,by rw[ag h.xr.1.symm];exact h.E.T.hn,by rw[ag h.xr.2.symm];exact h.E.T.hv,h.E.T.ps,h.E.T.pi,h.E.T.ls,h.E.T.li⟩,h.E.ms,h.E.mi,h.E.wn,h.E.nd,h.E.wl,h.E.n5,h.E.pw,h.E.nb,h.E.nm⟩,h.B.put h.fr,ab,h.fr,h.nr,h.xr,(h.ro.put Y hr Z).keep k,λc' F=>(ko _).mpr (.inr (h.ck c' F)),le_trans (cV _ _ _) (by omega),by rw[ag (U h.hw)];exact h.hw,h.fw,h.nw,h.xw,h.wo.keep k,h.wl⟩
theorem ux {k:Key} {v:V} : ∀{l:List (Key × V)},bu l k=some v->(k,v)∈l
 | [],h=>by cases h
 | x :: l,h=>by
  by_cases e:x.1=k
  .rw[bc e] at h
   rw[<- e,<- Option.some.inj h];exact mem_cons_self
  .rw[aQ e] at h
   exact mem_cons_of_mem _ (ux h)
theorem xN (ro:lE H' kvs ws ns) (Z : ∀c∈ws,Sum.inr c∈kvs.map (·.1)) {c:Str} (Y:c∈ws) : ∃b r,bu kvs (Sum.inr c)=some (.ref b)/\H' b=some (.tup (r.map V.int))/\gD ns r:=by
 have B:=dH.mpr (Z c Y);cases z:bu kvs (Sum.inr c) with
 | none=>rw[z] at B;cases B
 | some x =>
  have U:(Sum.inr c,x)∈kvs:=ux z
  obtain⟨c',b,r,e,_,h2,F⟩:=ro _ U;cases e;exact⟨b,r,rfl,h2,F⟩
theorem xO (E:lx H' d l a pa tn na va ws ns mS mI) (Y:H' ra=some (.dK kvs)) (Z:ra≠d/\ra≠l) (ro:lE H' kvs ws ns) (ck : ∀c∈ws,Sum.inr c∈kvs.map (·.1)) : ∃rm:Str->List Int,gv H' d l a ra pa ws ns kvs rm:=by
 classical
 have key : ∀c,∃r:List Int,c∈ws->(∃b,bu kvs (Sum.inr c)=some (.ref b)/\H' b=some (.tup (r.map V.int)))/\gD ns r:=λc=>by
  by_cases F:c∈ws
  .obtain⟨b,r,h1,h2,h3⟩:=xN ro ck F
   exact⟨r,λ_=>⟨⟨b,h1,h2⟩,h3⟩⟩
  .exact⟨[],λz=>absurd z F⟩
 obtain⟨rm,B⟩:=Classical.axiomOfChoice key;exact⟨rm,E.D,E.n1,Z,E.n2,E.ha,Y,E.hp,λc F=>(B c F).1,E.wn,E.nd,E.wl,E.n5,E.pw.imp λz=>by omega,E.nm,λc F=>⟨(B c F).2.1,(B c F).2.2.1,λv U=>E.nb v ((B c F).2.2.2.2 v U)⟩⟩
theorem yV {p q:Addr} {bs:List (Addr × Wx)} {Q:VK} (h:H p=some (.lst (rfs bs))) (Z:H q=some (.lst [])) (B:uF H bs ws ns) (nm : ∀c∈ws,bS c) (k:Q (.bl (!decide (bs=[]))) H):DX K (.ref p) (.ref q) H Q:=by
 have F:rZ H bs:=λx z=>⟨(B x z).1,CV λc Y=>nm c (kU (B x z).2 c Y)⟩
 obtain⟨rp,U⟩:=F.reps (K:=K);have hd:PyData.depthAll (pD bs)<=8:=mo λx z=>(F x z).2.2
 refine⟨.list (pD bs),.list [],.lst (.of h) rp,.lst (.of Z) .nil,by rw[PyData.canLay0];exact U,rfl,by rw[PyData.depth];omega,?_⟩
 have e:PyData.eqv (.list (pD bs)) (.list [])=decide (bs=[]):=by
  cases bs with
  | nil=>rfl
  | cons x bs=>simp[PyData.eqv,PyData.eqvAll]
 rw[e];exact k
theorem qG {f:α->β} {a b:List β} (h:a.Perm b) : ∀{l:List α},b=l.map f->∃B:List α,B.Perm l/\a=B.map f:=by
 induction h with
 | nil=>intro l e;cases l with
  | nil=>exact⟨[],.nil,rfl⟩
  | cons x l=>cases e
 | cons x h Z =>
  intro l e;cases l with
  | nil=>cases e
  | cons y l =>
   rw[map_cons,List.cons.injEq] at e;obtain⟨B,h1,h2⟩:=Z e.2;exact⟨y :: B,h1.cons y,by rw[e.1,h2,map_cons]⟩
 | swap x y l0 =>
  intro l e
  match l,e with
  | [],e=>cases e
  | [z],e=>cases e
  | z :: u :: l,e =>
   simp only[map_cons,List.cons.injEq] at e;exact⟨u :: z :: l,.swap z u l,by rw[e.1,e.2.1,e.2.2];rfl⟩
 | trans h1 h2 U F =>
  intro l e;obtain⟨B,Y,a2⟩:=F e;obtain⟨l2,b1,b2⟩:=U a2;exact⟨l2,b1.trans Y,b2⟩
theorem tW {f:α->β} {z rest:List β} {l:List α} (h:(z++rest).Perm (l.map f)) (hl:l.length<=z.length) : ∃B:List α,B.Perm l/\z=B.map f:=by
 have e:=h.length_eq;rw[length_append,length_map] at e;have:rest=[]:=length_eq_zero_iff.mp (by omega)
 subst this;rw[append_nil] at h;exact qG h rfl
def Ii:Sp:=λvs H Q _=>∃(d l:Addr) (z:Int),vs=[.ref d,.int z]/\aC H d l/\1<=z/\z<=12/\bP H /\
 ∀(r p c t tn na va pa:Addr) (cs:List (Addr × Str × Addr × List Int)) (us:List V) (Ws:List Wx) (ws:List Str) (ns:List Int) (mS:List (Str × Str)) (mI:List (Int × Int)) (H':Hp),H' r=some (.lst [.ref p,.ref tn,.ref pa])->iZ H' p c t cs us Ws ws ns->br H' tn na va mS mI->(∀x∈mS,x.1∈ws)->(∀x∈mI,x.1∈ns)->H' pa=some (.lst (ns.map V.int))->(pa≠d/\pa≠l)->(na≠d/\na≠l)->(va≠d/\va≠l)->ns.length=5->ns.Pairwise (· < ·)->(cs.map (·.2.1)).Perm ws->(∀x∈cs,gD ns x.2.2.2)->(ws.length:Int)<=z->cK ws->aC H' d l->But d l H H'->Q (.ref r) H'
abbrev Hk:=Fn P w K mg base "_law_even_hall" 18 ["_law_deal_here","_law_most"] (Ii)
theorem jU (T:Txt w K mg base) (L:FnL K mg "_law_even_hall" cw ["_law_deal_here","_law_most"]) (Fa : @Dz0 P w K mg base) (FR : @Dz2 P w K mg base) (cj:Fn P w K mg base "_law_pool" 2 ["_law_deal_here"] (wF)) (Fh : @EA P w K mg base) (Fb : @Dz4 P w K mg base) (Fx : @Hs P w K mg base) (Fv : @He P w K mg base) (FS:Fn P w K mg base "_law_wish" 15 ["_law_deal_here","_law_names_here","_law_rooms_here","_law_pool_here","_law_sorts"] (iK false)) : @Hk P w K mg base:=by
 ctx_has z jL <;> obtain⟨d,l,mc,rfl,D,c0,c1,tb,k⟩:=h
 .rfl
 refine⟨_,(af (az 2 (ah FR (aa (pvM 0) (aa (aN bz ae (ah Fa (aa (pvM 0) (aa (pvM 1) ac)))) ac))))
  (af (az 3 (ah cj (aa (pvM 0) ac)))
  (af (az 4 (aI (aa (ah Fh (aa (pvM 0) (aa (pvM 2) ac))) (aa (ah Fh (aa (pvM 0) (aa (ah Fb (aa (pvM 0) (aa (pvM 3) (aa ae ac)))) ac))) ac))))
  (bW (aK (ay aT (ah Fa (aa (pvM 0) (aa ae ac))) ae) (ai (az 4 (aI (aa (ao ap (pvM 4) ae) (aa cm ac))))) aD)
  (af (az 5 (ah Fx (aa (pvM 0) (aa (pvM 2) (aa (pvM 3) (aa (pvM 4) ac))))))
  (af (az 6 (ah Fv (aa (pvM 0) (aa (pvM 2) (aa (pvM 5) (aa (pvM 3) (aa (pvM 4) ac)))))))
  (af (az 7 (ah Fa (aa (pvM 0) (aa ae ac))))
  (bW (aK (PW.pt (fK (ay aT (pvM 7) ae) (eS (ay (rR (nJ hr)) (pvM 6) (bx ac))))) (ai (bY (eL PySem.F.slot_list_pop PySem.F.type_list_pop uS (pvM 6) (aa (ah Fa (aa (pvM 0) (aa (aE bo T.b_len (aa (pvM 6) ac)) ac))) ac)))) aD)
  (bW (aK (PW.pt (fK (ay aT (pvM 7) ae) (eS (ay (rR (nJ hr)) (pvM 6) (bx ac))))) (ai (bY (eL PySem.F.slot_list_append PySem.F.type_list_append bK (pvM 6) (aa (ao fC (pvM 6) (ah Fa (aa (pvM 0) (aa (aE bo T.b_len (aa (pvM 6) ac)) ac)))) ac)))) aD)
  (bW (aK (ay aT (pvM 7) ae) (ai (fV hu (pvM 5) (ao fC (pvM 2) (ah Fa (aa (pvM 0) (aa (aE bo T.b_len (aa (pvM 2) ac)) ac)))) (aI (aa (ao fC (pvM 3) (ah Fa (aa (pvM 0) (aa ae ac)))) ac)) rfl)) aD)
  (bW (aK (ay aT (pvM 7) ae) (ai (bY (eL PySem.F.slot_list_append PySem.F.type_list_append bK (pvM 6) (aa (ah FS (aa (pvM 0) (aa (pvM 2) (aa (pvM 5) (aa (pvM 3) (aa (bx (aa au (aa au (aa au (aa au (aa au (aa au ac))))))) ac)))))) ac)))) aD)
  (af (az 6 (ah Fb (aa (pvM 0) (aa (pvM 6) (aa (aE bo T.b_len (aa (pvM 6) ac)) ac)))))
  (af (cH 8 (N:=["_law_name","_law_rooms_here"]) (nt:=1) (js:=[5]) (aH ["_law_deal_here","_law_most","_law_names_here","_law_pool_here","_law_turning","_law_rooms_here","_law_wishes","_law_way_here","_law_cells"] (ak cw).names) (cX K (ah Fb (aa (pvM 0) (aa (pvM 2) (aa (aE bo T.b_len (aa (pvM 2) ac)) ac))))) (aA 0) aP aV (aI (aa (pvM 0) (aa (gC hu (pvM 1) (pvM 0)) ac))))
  (ai (aB (bx (aa (aI (aa (aF aO T.b_tuple (aa (pvM 8) ac)) (aa (pvM 6) ac))) (aa (pvM 4) (aa (pvM 3) ac))))))))))))))))))),?_⟩
 ctx_has v qZ
 refine aS D (by omega) (by omega) λx1 H1 cM cI D1 B1=>?_
 refine⟨_,rfl,d,l,_,rfl,D1,by omega,by omega,λa ws H2 fa ok cL h2 D2 B2=>?_⟩
 have n1:=D1.ne fa;refine⟨d,l,rfl,D2,λpa ns H3 bt bG br c5 bZ D3 B3=>?_⟩
 have n2:=D2.ne bt;have h3:=B3 a _ n1.1 n1.2 h2;have bj:ws.length<=12/\1<=ws.length:=by omega
 refine xS D3 (.inl h3) ok.nd (by omega) λna mS H4 bv bT cn cb cc D4 B4=>?_
 have n3:=D3.ne bv;have bg:=B4 pa _ n2.1 n2.2 bZ;have c6:ns.Nodup:=br.imp λh=>by omega
 refine⟨d,l,pa,0,_,rfl,D4,.inl bg,by decide,by simp,by rw[length_map];omega,λsp cr rest H5 co an _ bP D5 B5=>?_⟩
 obtain⟨is,rfl,bL,bO,bI⟩:=xX an;refine xF D5 (.inr bP) (bL c6) (by omega) λva mI H6 bF b7 b6 bM bE D6 B6=>⟨by decide,λtn bD=>?_⟩
 have n4:=D5.ne bF;have bf:But d l H2 H6:=((B3.trans B4).trans B5).trans B6
 have ca : ∀c∈ws,bS c:=ok.nm
 have s7:=am.upd0 (o:=.tup [.ref na,.ref va]) bD;have E7:lx (upd H6 tn (.tup [.ref na,.ref va])) d l a pa tn na va ws ns mS mI :=
  ⟨D6.same s7,n1,n2,n3,n4,s7 _ _ (bf a _ n1.1 n1.2 h2),s7 _ _ (B6 pa _ n2.1 n2.2 (B5 pa _ n2.1 n2.2 bg)),⟨ab,s7 _ _ (B6 na _ n3.1 n3.2 (B5 na _ n3.1 n3.2 bT)),s7 _ _ b7,cn,b6,cc,bE⟩,cb,λx hx=>bO _ (bM x hx),λe=>by rw[e] at bj;simp at bj,ok.nd,bj.1,bG,br,c5,ca⟩
 have bm:But d l H (upd H6 tn (.tup [.ref na,.ref va])):=((B1.trans B2).trans bf).same s7
 have c7:(ws.length:Int)<=mc:=by omega
 generalize upd H6 tn (.tup [.ref na,.ref va])=H7 at E7 bm s7 ⊢;clear s7 bf B6 B5 B4 B3 B2 B1 D6 D5 D4 D3 D2 D1 h2 h3 bg bT bP b7 an bZ fa bt bv co bF bD;refine⟨λσ H'=>∃tn va mI,σ=[some (.ref d),some (.int mc),some (.ref a),some (.ref pa),some (.ref tn),none,none,none,none]/\lx H' d l a pa tn na va ws ns mS mI/\But d l H H',?_,?_⟩
 .ctx_has v
  refine aS E7.D (by decide) (by decide) λx8 H8 cC cJ D8 B8=>?_
  have E8:=E7.but D8 B8;have av:=bm.trans B8;have e8:=E8.T.ht;ctx_has v e8
  refine cG (λh=>λp9 bc=>⟨by decide,λt9 a9=>⟨p9,[],?_,?_⟩⟩) (λh=>⟨_,_,E8,av⟩)
  .have s9:=(am.upd0 (o:=.dK []) bc).upd_new (o:=.tup [.ref na,.ref p9]) a9
   have E9:=E8.same s9;have pt:p9≠t9:=λz=>by rw[<- z,ab] at a9;cases a9
   exact⟨E9.D,E9.n1,E9.n2,E9.n3,E8.D.ne bc,E9.ha,E9.hp,⟨ab,E9.T.hn,by rw[ag pt];exact ab,E9.T.ps,⟨by simp,by simp⟩,E9.T.ls,by decide⟩,E9.ms,by simp,E9.wn,E9.nd,E9.wl,E9.n5,E9.pw,E9.nb,E9.nm⟩
  .exact av.same ((am.upd0 bc).upd_new a9)
 clear E7 bm b6 bM bE bO bL bI n4;rintro σ H8 ⟨tn,va,mI,rfl,E8,av⟩
 ctx_has v qZ
 refine⟨d,l,a,pa,tn,na,va,ws,ns,mS,mI,rfl,E8,λra kvs H9 a0 bb bd be c4 D9 B9=>?_⟩
 have ar:=E8.D.ne a0;have E9:=E8.but D9 B9;obtain⟨rm,F9⟩:=xO E9 bb ar bd be;have aL:=av.trans B9;refine⟨d,l,a,ra,pa,tn,na,va,ws,ns,mS,mI,kvs,rm,rfl,tb.but D aL,E9,F9,λp bs c2 fp aQ b0 aq bQ a5=>?_⟩
 have np:=E9.D.ne fp;have aR:=aL.trans a5;have bN:H ra=none:=by
  cases e:H ra with
  | none=>rfl
  | some u=>rw[av ra u ar.1 ar.2 e] at a0;cases a0
 have cv:H p=none:=by
  cases e:H p with
  | none=>rfl
  | some u=>rw[aL p u np.1 np.2 e] at fp;cases fp
 have aW:ij H c2 d l a pa tn na va ra p ws ns mS mI kvs bs :=
  ⟨E9.but bQ a5,aR,a5 _ _ ar.1 ar.2 bb,bN,ar,⟨(aj E8.T.hn a0).symm,(aj E8.T.hv a0).symm⟩,bd.keep λb xs e=>a5.tup D9 e,be,by omega,aQ,cv,np,⟨(aj E9.ha fp).symm,(aj E9.hp fp).symm⟩,b0,by omega⟩
 clear b0 bd F9 E9 E8 aQ bb a5 B9 aR aL av a0 fp be;refine aS aW.E.D (by decide) (by decide) λwy cE y0 y1 bu b3=>⟨rfl,?_⟩
 have aX:=aW.but bu b3;clear aW bu b3 bQ D9;refine⟨λσ H'=>∃bs,σ=[some (.ref d),some (.int mc),some (.ref a),some (.ref pa),some (.ref tn),some (.ref ra),some (.ref p),some (.int wy),none]/\ij H H' d l a pa tn na va ra p ws ns mS mI kvs bs/\bs.length<=14,?_,?_⟩
 .refine cG (λh=>⟨by decide,λcF bA=>?_⟩) (λh=>⟨bs,rfl,aX,aq⟩)
  have U:=aX.same (am.upd0 (o:=.lst []) bA);refine yV U.hw ab U.wo U.E.nm ⟨_,rfl,?_⟩
  by_cases hb:bs=[]
  .rw[decide_eq_true hb,if_neg (by decide)]
   exact⟨bs,rfl,U,aq⟩
  .rw[decide_eq_false hb,if_pos (by decide)]
   have b5:0 < bs.length:=length_pos_iff.mpr hb
   refine⟨p,rfl,⟨_,U.hw⟩,_,U.hw,aS U.E.D (by rw[length_map];omega) (by rw[length_map];omega) λi bH i0 i1 a6 a7=>?_⟩
   have Y:=U.but a6 a7;rw[length_map] at i1;refine⟨i,rfl,_,Y.hw,i0,by rw[length_map];exact i1,by rw[length_map];omega,λy hy=>⟨bs.eraseIdx i.toNat,rfl,?_,le_trans (List.length_eraseIdx_le _ _) aq⟩⟩
   rw[lr];exact Y.setW (λx hx=>Y.wo x (List.mem_of_mem_eraseIdx hx)) (le_trans (List.length_eraseIdx_le _ _) (by omega))
 clear aX;rintro σ bh ⟨bs,rfl,U,aq⟩
 ctx_has v qZ
 refine⟨λσ H'=>∃bs,σ=[some (.ref d),some (.int mc),some (.ref a),some (.ref pa),some (.ref tn),some (.ref ra),some (.ref p),some (.int wy),none]/\ij H H' d l a pa tn na va ra p ws ns mS mI kvs bs/\bs.length<=15,?_,?_⟩
 .refine cG (λh=>⟨by decide,λcB b2=>?_⟩) (λh=>⟨bs,rfl,U,by omega⟩)
  have Y:=U.same (am.upd0 (o:=.lst []) b2);refine yV Y.hw ab Y.wo Y.E.nm ⟨_,rfl,?_⟩
  by_cases hb:bs=[]
  .rw[decide_eq_true hb,if_neg (by decide)]
   exact⟨bs,rfl,Y,by omega⟩
  .rw[decide_eq_false hb,if_pos (by decide)]
   have b5:0 < bs.length:=length_pos_iff.mpr hb
   refine⟨⟨_,Y.hw⟩,_,Y.hw,aS Y.E.D (by rw[length_map];omega) (by rw[length_map];omega) λi aG i0 i1 a4 aw=>?_⟩
   have Z:=Y.but a4 aw;obtain⟨v,hv,bk⟩:=gB (xs:=rfs bs) i0 i1;obtain⟨y,hy,rfl⟩:=mem_map.mp bk;refine⟨i,rfl,_,Z.hw,_,hv,_,Z.hw,by rw[length_map];exact ax (by omega),bs++[y],rfl,?_,by simp;omega⟩
   rw[show rfs bs++[V.ref y.1]=rfs (bs++[y]) by simp]
   exact Z.setW (λx hx=>by
    rcases mem_append.mp hx with z | z
    .exact Z.wo x z
    .rw[mem_singleton.mp z];exact Z.wo y hy) (by simp;omega)
 clear U;rintro σ bh ⟨bs,rfl,U,aq⟩
 ctx_has v qZ
 refine⟨λσ H'=>∃kvs,σ=[some (.ref d),some (.int mc),some (.ref a),some (.ref pa),some (.ref tn),some (.ref ra),some (.ref p),some (.int wy),none]/\ij H H' d l a pa tn na va ra p ws ns mS mI kvs bs,?_,?_⟩
 .refine cG (λh=>?_) (λh=>⟨_,rfl,U⟩)
  refine aS U.E.D (by decide) (by decide) λi bH i0 i1 a6 a7=>?_
  have Y:=U.but a6 a7;obtain⟨v,hv,bk⟩:=gB (xs:=ns.map V.int) i0 (by rw[length_map,bG];exact i1)
  obtain⟨n,hn,rfl⟩:=mem_map.mp bk;refine⟨i,rfl,_,Y.E.hp,_,hv,by decide,λcK b4=>?_⟩
  have Z:=Y.same (am.upd0 (o:=.tup [.int n]) b4);refine⟨_,Z.E.ha,aS Z.E.D (by rw[length_map];omega) (by rw[length_map];omega) λj ad j0 j1 cf bJ=>?_⟩
  have aY:=Z.but cf bJ;obtain⟨v2,cz,bw⟩:=gB (xs:=ws.map V.str) j0 j1;obtain⟨c,hc,rfl⟩:=mem_map.mp bw;exact⟨j,rfl,_,aY.E.ha,_,cz,Sum.inr c,rfl,_,aY.hr,ax (by omega),_,rfl,aY.setR (rs:=[n]) hc (bJ.tup Z.E.D ab) ⟨by simp,by simp,by simp,λv hv=>by rw[mem_singleton.mp hv];exact hn⟩ c4⟩
 clear U;rintro σ bh ⟨kvs,rfl,U⟩
 ctx_has v qZ
 refine⟨λσ H'=>∃bs,σ=[some (.ref d),some (.int mc),some (.ref a),some (.ref pa),some (.ref tn),some (.ref ra),some (.ref p),some (.int wy),none]/\ij H H' d l a pa tn na va ra p ws ns mS mI kvs bs/\bs.length<=16,?_,?_⟩
 .refine cG (λh=>⟨⟨_,U.hw⟩,by decide,λso b1=>?_⟩) (λh=>⟨bs,rfl,U,by omega⟩)
  have Y:=U.same (am.upd0 (o:=.lst ((fB false).map V.str)) b1);obtain⟨rm,F⟩:=xO Y.E Y.hr Y.nr Y.ro Y.ck;refine⟨d,l,a,ra,pa,so,ws,ns,kvs,rm,rfl,F,U.E.D.ne b1,ab,λw W aG hW cg _ a4 aw=>?_⟩
  have Z:=Y.but a4 aw;refine⟨_,Z.hw,by rw[length_map];exact ax (by omega),bs++[(w,W)],rfl,?_,by simp;omega⟩
  rw[show rfs bs++[V.ref w]=rfs (bs++[(w,W)]) by simp]
  exact Z.setW (λx hx=>by
   rcases mem_append.mp hx with z | z
   .exact Z.wo x z
   .rw[mem_singleton.mp z];exact⟨hW,cg⟩) (by simp;omega)
 clear U aq bs;rintro σ bh ⟨bs,rfl,U,aq⟩
 have g1:=U.hw;ctx_has v g1
 refine⟨d,l,p,_,_,rfl,U.E.D,.inl g1,by simp,Int.le_refl _,by rw[length_map];omega,λtw cr rest bH cu an cy cx a6 a7=>?_⟩
 have Y:=U.but a6 a7;have g2:=Y.E.ha;ctx_has v g2
 refine⟨d,l,a,_,_,rfl,Y.E.D,.inl g2,by simp,Int.le_refl _,by rw[length_map];omega,λtc c9 ce aG cN aC bC bp a4 aw=>⟨tc,rfl,_,bp,λDl b9=>?_⟩⟩
 have Z:=Y.but a4 aw;have bR:=U.E.D.ne cu;have bV:=aw _ _ bR.1 bR.2 cx;obtain⟨nl,aM,rfl⟩:=tW aC (by rw[length_map] at bC;omega)
 obtain⟨cl,aZ,e0⟩:=tW (f:=λx:Addr × Wx=>V.ref x.1) an (by rw[length_map] at cy;omega)
 subst e0;have bU:nl.length=ws.length:=aM.length_eq
 refine cD ba (λi xs H'=>∃cs:List (Addr × Str × Addr × List Int),xs=(cs.map λx=>V.ref x.1)/\cs.map (·.2.1)=nl.take i/\(∀x∈cs,H' x.1=some (.tup [.str x.2.1,.ref x.2.2.1])/\H' x.2.2.1=some (.tup (x.2.2.2.map V.int))/\gD ns x.2.2.2)/\am aG H'/\H' Dl=some (.lst xs)) ⟨[],rfl,rfl,(λx hx=>by cases hx),am.upd0 b9,ab⟩ (λi xs H' bq=>by obtain⟨_,_,_,_,s,_⟩:=bq;exact(.of (s _ _ bp))) ?_ ?_
 .rintro i x xs ad hi hx ⟨cs,rfl,hcn,hca,s15,h15⟩
  obtain⟨c,bn,rfl⟩ : ∃c,nl[i]? = some c/\V.str c=x:=by
   rw[List.getElem?_map] at hx;cases e:nl[i]? with
   | none=>rw[e] at hx;cases hx
   | some c=>rw[e] at hx;exact⟨c,rfl,Option.some.inj hx⟩
  have cp:c∈ws:=aM.mem_iff.mp (mem_of_getElem? bn)
  have cA:cs.length<=i:=by
   have:=congrArg List.length hcn
   rw[length_map,length_take] at this;omega
  have bI:i < nl.length:=(List.getElem?_eq_some_iff.mp bn).1
  obtain⟨rb,rr,cq,c3,ci⟩:=xN Z.ro Z.ck cp;have bB:=s15 _ _ Z.hr;have b8:=s15 _ _ c3;ctx_has v bB cq
  refine⟨by decide,λq hq=>?_⟩
  have hk:=eI (o:=.lst ((cs.map λx=>V.ref x.1)++[V.ref q])) (am.upd0 (o:=.tup [.str c,.ref rb]) hq _ _ h15)
  have kk : ∀a xs,ad a=some (.tup xs)->upd (upd ad q (.tup [.str c,.ref rb])) Dl (.lst ((cs.map λx=>V.ref x.1)++[V.ref q])) a=some (.tup xs):=λa xs e=>hk _ _ (am.upd0 hq _ _ e)
  refine⟨am.upd0 hq _ _ h15,by rw[length_map];exact ax (by omega),cs++[(q,c,rb,rr)],by simp,by rw[map_append,hcn,take_add_one,bn];rfl,λx hx=>?_,(s15.upd_new hq).putN b9,ab⟩
  rcases mem_append.mp hx with z | z
  .obtain⟨a1,a2,a3⟩:=hca x z
   exact⟨kk _ _ a1,kk _ _ a2,a3⟩
  .rw[mem_singleton.mp z]
   exact⟨hk _ _ ab,kk _ _ b8,ci⟩
 .rintro xs ad ⟨cs,rfl,hcn,hca,s15,h15⟩
  rw[length_map,take_length] at hcn;have c8:cs.length=ws.length:=by rw[<- bU,<- hcn,length_map]
  refine⟨Dl,rfl,_,h15,λpc bX=>⟨by decide,λpp bi=>⟨by decide,λpr aJ=>?_⟩⟩⟩
  have aU:am aG (upd (upd (upd ad pc (.tup (cs.map λx=>V.ref x.1))) pp (.tup [.ref pc,.ref tw])) pr (.lst [.ref pp,.ref tn,.ref pa])):=((s15.upd_new bX).upd_new bi).upd_new aJ
  have a8:am ad (upd (upd (upd ad pc (.tup (cs.map λx=>V.ref x.1))) pp (.tup [.ref pc,.ref tw])) pr (.lst [.ref pp,.ref tn,.ref pa])):=((am.upd0 bX).upd_new bi).upd_new aJ
  have g1:upd (upd (upd ad pc (.tup (cs.map λx=>V.ref x.1))) pp (.tup [.ref pc,.ref tw])) pr (.lst [.ref pp,.ref tn,.ref pa]) pr=some (.lst [.ref pp,.ref tn,.ref pa]):=ab
  have g2:upd (upd (upd ad pc (.tup (cs.map λx=>V.ref x.1))) pp (.tup [.ref pc,.ref tw])) pr (.lst [.ref pp,.ref tn,.ref pa]) pp=some (.tup [.ref pc,.ref tw]):=(am.upd0 aJ) _ _ ab
  have g3:upd (upd (upd ad pc (.tup (cs.map λx=>V.ref x.1))) pp (.tup [.ref pc,.ref tw])) pr (.lst [.ref pp,.ref tn,.ref pa]) pc=some (.tup (cs.map λx=>V.ref x.1)):=((am.upd0 bi).upd_new aJ) _ _ ab
  generalize upd (upd (upd ad pc (.tup (cs.map λx=>V.ref x.1))) pp (.tup [.ref pc,.ref tw])) pr (.lst [.ref pp,.ref tn,.ref pa])=G at aU a8 g1 g2 g3 ⊢
  have GG:=Z.same aU;refine k pr pp pc tw tn na va pa cs _ (cl.map (·.2)) ws ns mS mI G g1 ⟨g2,g3,λx hx=>⟨a8 _ _ (hca x hx).1,a8 _ _ (hca x hx).2.1⟩,?_,by omega,λx hx=>?_,aU _ _ bV,⟨cl,rfl,rfl,λx hx=>(GG.wo x (aZ.mem_iff.mp hx)).1⟩,λW hW=>?_,GG.E.nm,?_⟩ GG.E.T GG.E.ms GG.E.mi GG.E.hp GG.E.n2 GG.E.n3 GG.E.n4 GG.E.n5 GG.E.pw (by rw[hcn];exact aM) (λx hx=>(hca x hx).2.2) (by omega) ok GG.E.D GG.B
  .rw[hcn];exact aM.nodup_iff.mpr GG.E.nd
  .have:=(hca x hx).2.2.2.1
   omega
  .obtain⟨y,hy,rfl⟩:=mem_map.mp hW
   exact(GG.wo y (aZ.mem_iff.mp hy)).2
  .rw[length_map,aZ.length_eq];omega
theorem oO {f:α->β} (z : ∀a b,f a=f b->a=b) {l m:List α} (h:l.map f=m.map f):l=m:=(List.map_inj_right z).mp h
theorem Ab {a b:Option Int} (h:bD a=bD b):a=b:=by
 cases a <;> cases b <;> simp[bD] at h ⊢
 exact h
theorem dI {l m:List Int} (h:l.map PyData.int=m.map PyData.int):l=m:=oO (λ_ _ e=>PyData.int.inj e) h
theorem dS {l m:List Str} (h:l.map PyData.str=m.map PyData.str):l=m:=oO (λ_ _ e=>PyData.str.inj e) h
theorem dT {l m:List PyData} (h:PyData.tuple l=PyData.tuple m):l=m:=PyData.tuple.inj h
theorem qj : ∀{W V:Wi},bL W=bL V->W=V:=by
 intro W V h;cases W <;> cases V <;> simp only[bL,PyData.tuple.injEq,List.cons.injEq,PyData.str.injEq,PyData.int.injEq,reduceCtorEq,and_false,false_and,and_true,true_and] at h <;> try (first | exact absurd h.1 (by decide) | exact absurd h (by decide))
 .rw[dS h]
 .rw[dI h.1,dS h.2.1,h.2.2.1,h.2.2.2]
 .rw[oO (λa b e=>?_) h.1,Ab h.2.1,Ab h.2.2]
  simp only[PyData.tuple.injEq,List.cons.injEq,PyData.str.injEq,PyData.int.injEq,and_true] at e;exact Prod.ext e.1 e.2
 .rw[dS h.1,oO (λa b e=>dI (dT e)) h.2]
 .rw[dS h.1,oO (λa b e=>?_) h.2.1,dI h.2.2]
  simp only[PyData.tuple.injEq,List.cons.injEq,PyData.int.injEq,and_true] at e;exact Prod.ext e.1 (Prod.ext e.2.1 e.2.2)
 .rw[dS h.1,h.2]
theorem yl {W V:Wx} (h:cC W=cC V):W=V:=by
 cases W with
 | pl W =>
  cases V with
  | pl V=>rw[qj h]
  | sa c vs V =>
   exfalso
   cases W <;> simp only[cC,bL,PyData.tuple.injEq,List.cons.injEq,PyData.str.injEq] at h <;> exact absurd h.1 (by decide)
 | sa c vs W =>
  cases V with
  | pl V =>
   exfalso
   cases V <;> simp only[cC,bL,PyData.tuple.injEq,List.cons.injEq,PyData.str.injEq] at h <;> exact absurd h.1 (by decide)
  | sa B z V =>
   simp only[cC,PyData.tuple.injEq,List.cons.injEq,PyData.str.injEq,and_true,true_and] at h;rw[h.1,dI h.2.1,qj h.2.2]
theorem wJ (f:α->β) {d:α} {e:β} {pl:List Nat} {l:List α} (h : ∀i∈pl,i < l.length):(bw d pl l).map f=bw e pl (l.map f):=by
 unfold bw;rw[map_map];refine map_congr_left λi hi=>?_
 have:=h i hi
 show f (l.getD i d)=(l.map f).getD i e
 rw[getD_eq_getElem?_getD,getD_eq_getElem?_getD,List.getElem?_map,List.getElem?_eq_getElem this];rfl
theorem C8 (ts:List (Int × Str)) (lo hi:Option Int):cg mS mI (.sm ts lo hi)=if idI mI then some (.sm (ts.map λx=>(x.1,ld mS x.2)) lo hi) else none:=rfl
theorem Hj (cs:List Str) (z:Int):cg mS mI (.bh cs z)=if idI mI then some (.bh (cs.map (ld mS)) z) else none:=rfl
theorem uT {A B:Wi} (ok:okW ws ns A) (m:qJ A B):(cg mS mI A=none/\cg mS mI B=none)\/∃z F,cg mS mI A=some z/\cg mS mI B=some F/\qJ z F:=by
 match A,B,ok,m with
 | .un cs,.un cs',ok,m=>exact .inr ⟨_,_,rfl,rfl,List.Perm.map _ m⟩
 | .mn av cs lo hi,.mn av' cs' lo' hi',ok,m=>exact .inr ⟨_,_,rfl,rfl,m.1.map _,m.2.1.map _,m.2.2.1,m.2.2.2⟩
 | .sm ts lo hi,.sm ts' lo' hi',ok,m =>
  rw[C8,C8];cases h:idI mI with
  | true=>exact .inr ⟨_,_,rfl,rfl,m.1.map _,m.2.1,m.2.2⟩
  | false=>exact .inl ⟨rfl,rfl⟩
 | .tb cs rows,.tb cs' rows',ok,⟨pl,hp,e,hr⟩ =>
  have hi : ∀i∈pl,i < cs.length:=λi hi=>mem_range.mp (hp.mem_iff.mp hi)
  refine .inr ⟨_,_,rfl,rfl,pl,by rw[length_map];exact hp,by rw[e];exact wJ _ hi,?_⟩
  have:(rows.map λr=>r.map (ld mI)).map (bw 0 pl)=(rows.map (bw 0 pl)).map λr=>r.map (ld mI):=by
   rw[map_map,map_map];refine map_congr_left λr U=>?_
   exact(wJ (ld mI) λi h=>by rw[ok.2.2.1 r U];exact hi i h).symm
  rw[this];exact hr.map _
 | .wy cs ps es,.wy cs' ps' es',ok,⟨e,p,q⟩=>exact .inr ⟨_,_,rfl,rfl,by rw[e],p.map _,q⟩
 | .bh cs gap,.bh cs' gap',ok,⟨e,g⟩ =>
  subst e;subst g;rw[Hj];cases h:idI mI with
  | true=>exact .inr ⟨_,_,rfl,rfl,rfl,rfl⟩
  | false=>exact .inl ⟨rfl,rfl⟩
theorem sZ (W:Wi):bF mS mI (.pl W)=(cg mS mI W).map .pl:=rfl
theorem sT (c:Str) (vs:List Int) (W:Wi):bF mS mI (.sa c vs W)=(cg mS mI W).map (.sa (ld mS c) (vs.map (ld mI))):=rfl
theorem qi {A B:Wx} (ok:okX ws ns A) (m:wc A B):(bF mS mI A=none/\bF mS mI B=none)\/∃z F,bF mS mI A=some z/\bF mS mI B=some F/\wc z F:=by
 match A,B,ok,m with
 | .pl A,.pl B,ok,m =>
  rcases uT (mS:=mS) (mI:=mI) (A:=A) ok m with⟨a,b⟩ | ⟨z,F,a,b,c⟩
  .exact .inl ⟨by rw[sZ,a];rfl,by rw[sZ,b];rfl⟩
  .exact .inr ⟨.pl z,.pl F,by rw[sZ,a];rfl,by rw[sZ,b];rfl,c⟩
 | .sa c vs A,.sa c' vs' B,ok,⟨e,p,m⟩ =>
  subst e;rcases uT (mS:=mS) (mI:=mI) (A:=A) ok.2.2.1 m with⟨a,b⟩ | ⟨z,F,a,b,c⟩
  .exact .inl ⟨by rw[sT,a];rfl,by rw[sT,b];rfl⟩
  .exact .inr ⟨.sa (ld mS c') (vs.map (ld mI)) z,.sa (ld mS c') (vs'.map (ld mI)) F,by rw[sT,a];rfl,by rw[sT,b];rfl,rfl,p.map _,c⟩
theorem AL {A B:Wx} (F:okX ws ns A) (U:okX w2 n2 B) (e:dP A=dP B) {Z:Wx} (h:bF mS mI B=some Z) (t : ∀V,bF mS mI A=some V->okX ws ns V) (tB:okX w2 n2 Z) : ∃Y,bF mS mI A=some Y/\dP Y=dP Z:=by
 have e':dv A=dv B:=yl e
 have m1:=jt F;have m2:=jt U;rw[<- e'] at m2;rcases qi (mS:=mS) (mI:=mI) U m2 with⟨z,_⟩ | ⟨B2,P',h2,h3,m3⟩
 .rw[z] at h;cases h
 .cases Option.some.inj (h.symm.trans h2)
  rcases qi (mS:=mS) (mI:=mI) F m1 with⟨_,z⟩ | ⟨Y,P2,h4,h5,m4⟩
  .rw[z] at h3;cases h3
  .cases Option.some.inj (h3.symm.trans h5)
   refine⟨Y,h4,?_⟩
   unfold dP;rw[<- oG (t Y h4) m4,<- oG tB m3]
theorem zb (l m:List PyData) (d:PyData):cn (l++m) d=cn l d+cn m d:=by unfold cn;exact List.count_append
theorem xy : ∀{l m:List PyData},m.length<=l.length->(∀d,cn l d<=cn m d)->l.Perm m
 | [],m,hl,_=>by
  cases m with
  | nil=>exact .nil
  | cons y m=>exact absurd hl (by simp)
 | x :: l,m,hl,h=>by
  have z:x∈m:=List.count_pos_iff.mp (lt_of_lt_of_le (by show 0 < cn (x :: l) x;rw[sf,if_pos rfl];omega) (h x))
  obtain⟨s,t,rfl⟩:=List.append_of_mem z;refine List.Perm.trans (.cons x (xy (m:=s++t) ?_ λd=>?_)) perm_middle.symm
  .simp at hl ⊢;omega
  .have:=h d
   rw[sf,zb,sf] at this;rw[zb];omega
theorem Ha {l m:List PyData} (h:l.Perm m) (d:PyData):cn l d=cn m d:=h.count_eq d
theorem ud {α:Type} : ∀{l m:List α},l.Nodup->(∀x∈l,x∈m)->m.length<=l.length->l.Perm m
 | [],m,_,_,hl=>by
  cases m with
  | nil=>exact .nil
  | cons y m=>exact absurd hl (by simp)
 | x :: l,m,hn,h,hl=>by
  rw[nodup_cons] at hn;obtain⟨s,t,rfl⟩:=List.append_of_mem (h x mem_cons_self);refine List.Perm.trans (.cons x (ud (m:=s++t) hn.2 (λy B=>?_) ?_)) perm_middle.symm
  .have:=h y (mem_cons_of_mem _ B)
   rcases mem_append.mp this with z | z
   .exact mem_append_left _ z
   .rcases mem_cons.mp z with z | z
    .subst z;exact absurd B hn.1
    .exact mem_append_right _ z
  .simp at hl ⊢;omega
section
variable (hS:PM mS) (hI:PM mI)
include hS in
theorem zT {ks:List Str} (h : ∀x∈mS,x.1∈ks) : ∀x∈swp mS,x.1∈ks:=λx F=>by
 obtain⟨y,B,rfl⟩:=mem_map.mp F;obtain⟨z,U,e⟩:=mem_map.mp (hS.2.mem_iff.mp (mem_map.mpr ⟨y,B,rfl⟩))
 show y.2∈ks
 rw[<- e];exact h z U
include hS hI in
end
theorem ze  [DecidableEq α] (x:α):ld ([]:List (α × α)) x=x:=cR (by simp)
def rP (H:Hp) (v:V):Prop:=match v with
 | .str s=>s.length<=20
 | .int _=>True
 | .bl _=>True
 | .non=>True
 | .ref a=>∃vs,H a=some (.tup vs)
 | _=>False
def iX (v:V):Bool:=match v with
 | .str s=>decide (1<=s.length) && decide (s.length<=8) && !inV (.str s) nE && s.cps.toList.all bJ
 | _=>false
def om (v:V):Bool:=match v with
 | .int _=>true
 | _=>false
def wq:Sp:=λvs H Q _=>∃(v:V),vs=[v]/\rP H v/\Q (.bl (om v)) H
def vN:Sp:=λvs H Q _=>∃(v:V),vs=[v]/\rP H v/\∀H',am H H'->Q (.bl (iX v)) H'
def iY:V->Bool
 | .str s=>decide (s.length<=20)
 | .int _=>true
 | .bl _=>true
 | .non=>true
 | _=>false
theorem nB {v:V} (h:iY v=true):rP H v:=by
 cases v with
 | str s=>exact(of_decide_eq_true (show decide (s.length<=20)=true from h):s.length<=20)
 | int i=>exact True.intro
 | bl b=>exact True.intro
 | non=>exact True.intro
 | _=>cases h
def lB (nm:Bool) (v:V):Bool:=if nm then iX v else om v
def isN (nm:Bool):Str:=if nm then "is_name" else "is_number"
def zM (nm:Bool) (kvs:List (Key × V)):Prop:=(∀x∈kvs,lB nm (kV x.1)=true/\lB nm x.2=true)/\(kvs.map λx=>kV x.1).Perm (kvs.map (·.2))
def Hl (mg:Str->Option Value):Sp:=λvs H Q _=>∃(nm:Bool) (a f:Addr) (kvs:List (Key × V)),vs=[.ref a,.ref f]/\mg (isN nm)=some (.ref f)/\H a=some (.dK kvs)/\kvs.length<=45/\(∀x∈kvs,iY (kV x.1)=true/\iY x.2=true)/\∀(b:Bool) H',am H H'->(b=true↔zM nm kvs)->Q (.bl b) H'
def pk:V->PySem.W.Ky | .str s=>.s s | .int i=>.i i | _=>.i 0
def dOf:V->PyData | .str s=>.str s | .int i=>.int i | _=>.none
def stV (nm:Bool) (v:V):Prop:=if nm then ∃s,v = .str s/\bS s else ∃i,v = .int i
theorem G3 {v:V} (h:lB nm v=true):stV nm v:=by
 unfold lB at h;unfold stV;cases nm with
 | true =>
  rw[if_pos rfl] at h ⊢;cases v with
  | str s =>
   simp only[iX,Bool.and_eq_true,decide_eq_true_eq] at h;exact⟨s,rfl,h.1.1.1,h.1.1.2,λc z=>all_eq_true.mp h.2 c z⟩
  | _=>cases h
 | false =>
  rw[if_neg Bool.false_ne_true] at h ⊢;cases v with
  | int s=>exact⟨s,rfl⟩
  | _=>cases h
theorem Df {v:V} (h:stV nm v):KyV H v (pk v)/\(pk v).tag=(if nm then 0 else 1)/\pk v≠.r []:=by
 unfold stV at h;cases nm with
 | true=>obtain⟨s,rfl,_⟩:=h;exact⟨rfl,rfl,by intro z;cases z⟩
 | false=>obtain⟨s,rfl⟩:=h;exact⟨rfl,rfl,by intro z;cases z⟩
theorem Ei {u v:V} (h:stV nm u) (g:stV nm v) (e:pk u=pk v):u=v:=by
 unfold stV at h g;cases nm with
 | true=>obtain⟨s,rfl,_⟩:=h;obtain⟨t,rfl,_⟩:=g;cases e;rfl
 | false=>obtain⟨s,rfl⟩:=h;obtain⟨t,rfl⟩:=g;cases e;rfl
theorem iy {K:PySem.W.Frag} {H:Hp} {nm:Bool} : ∀{l:List V},(∀v∈l,stV nm v)->cj K H l (l.map dOf)/\PyData.canLayAll0 (l.map dOf)=true/\PyData.depthAll (l.map dOf)=0
 | [],_=>⟨.nil,rfl,rfl⟩
 | v :: l,h=>by
  obtain⟨a,b,c⟩:=iy (K:=K) (H:=H) (l:=l) λx F=>h x (mem_cons_of_mem _ F)
  have z:=h v mem_cons_self;unfold stV at z;cases nm with
  | true =>
   obtain⟨s,rfl,B⟩:=z;exact⟨.cons (.str s) a,by rw[map_cons,PyData.canLayAll0,b];simp only[dOf,B.lay,Bool.and_self],by rw[map_cons,PyData.depthAll,c];rfl⟩
  | false =>
   obtain⟨s,rfl⟩:=z;exact⟨.cons (.int s) a,by rw[map_cons,PyData.canLayAll0,b];rfl,by rw[map_cons,PyData.depthAll,c];rfl⟩
theorem Aw {nm:Bool} : ∀{l m:List V},(∀v∈l,stV nm v)->(∀v∈m,stV nm v)->(PyData.eqvAll (l.map dOf) (m.map dOf)=true↔l=m)
 | [],[],_,_=>by simp[PyData.eqvAll]
 | [],_ :: _,_,_=>by simp[PyData.eqvAll]
 | _ :: _,[],_,_=>by simp[PyData.eqvAll]
 | u :: l,v :: m,hl,hm=>by
  have U:=Aw (l:=l) (m:=m) (λx F=>hl x (mem_cons_of_mem _ F)) λx F=>hm x (mem_cons_of_mem _ F)
  have B:=hl u mem_cons_self;have z:=hm v mem_cons_self;unfold stV at B z;cases nm with
  | true =>
   obtain⟨s,rfl,_⟩:=B;obtain⟨t,rfl,_⟩:=z;simp[PyData.eqvAll,dOf,PyData.eqv,U]
  | false =>
   obtain⟨s,rfl⟩:=B;obtain⟨t,rfl⟩:=z;simp[PyData.eqvAll,dOf,PyData.eqv,U]
def wk (l:List V):List (V × PySem.W.Ky):=l.map λv=>(v,pk v)
theorem vv (l:List V):(wk l).map (·.1)=l:=by unfold wk;rw[map_map];exact map_id _
theorem C4 {l:List V} (h:zs.Perm (wk l)):(zs.map (·.1)).Perm l/\zs.map (·.2)=(zs.map (·.1)).map pk:=by
 refine⟨by have:=h.map (·.1);rwa [vv] at this,?_⟩
 rw[map_map];refine map_congr_left λz B=>?_
 obtain⟨v,_,rfl⟩:=mem_map.mp (h.mem_iff.mp B);rfl
theorem tD {l m F z:List V} (hl : ∀v∈l,stV nm v) (Z : ∀v∈m,stV nm v) (pl:F.Perm l) (pm:z.Perm m) (sl:(F.map pk).Pairwise PySem.W.Ky.le) (sm:(z.map pk).Pairwise PySem.W.Ky.le):F=z↔l.Perm m:=by
 constructor
 .rintro rfl
  exact pl.symm.trans pm
 .intro h
  have e:=jY ((pl.trans (h.trans pm.symm)).map pk) sl sm;have U : ∀v∈F,stV nm v:=λv B=>hl v (pl.mem_iff.mp B)
  have Y : ∀v∈z,stV nm v:=λv B=>Z v (pm.mem_iff.mp B)
  clear pl pm sl sm h hl Z
  induction F generalizing z with
  | nil=>cases z with
   | nil=>rfl
   | cons _ _=>cases e
  | cons a F ih=>cases z with
   | nil=>cases e
   | cons b z =>
    simp only[map_cons,List.cons.injEq] at e;rw[Ei (U a mem_cons_self) (Y b mem_cons_self) e.1,ih e.2 (λv B=>U v (mem_cons_of_mem _ B)) λv B=>Y v (mem_cons_of_mem _ B)]
theorem EE {x:V} {F:VK} (U:mg (isN nm)=some (.ref f)) (z:iY x=true) (q : ∀B,am H2 B->F (.bl (lB nm x)) B):An mg 1 (Str.ofString "is_name") (Str.ofString "is_number") vN wq (iQ (eP 0) uI) [some x,some (.ref f)] H2 F:=by
 refine⟨f,rfl,?_⟩
 cases nm with
 | true=>exact .inl ⟨U,⟨x,rfl,nB z,λH' s=>q H' s⟩⟩
 | false=>exact .inr ⟨U,⟨x,rfl,nB z,q _ (am.refl _)⟩⟩
theorem yW {l:List V}:(l.map (lB nm)).all id=true↔∀v∈l,lB nm v=true:=by
 rw[all_map,all_eq_true];rfl
theorem Ew {l:List V}:l.map (λv=>V.bl (lB nm v))=(l.map (lB nm)).map V.bl:=by rw[map_map];rfl
theorem ri (T:Txt w K mg base) (L:FnL K mg "is_number" gR ["thing"]):Fn P w K mg base "is_number" 1 ["thing"] (wq):=by
 ctx_has z sw <;> obtain⟨v,rfl,B,k⟩:=h
 .rfl
 refine⟨_,(ai (aB (mz (aE mw T.b_isinstance (aa (pvM 0) (aa (yY (T := "int") rfl T.b_int (by decide+kernel)) ac))) (kR (Ag (aE mw T.b_isinstance (aa (pvM 0) (aa (yY (T := "bool") rfl T.b_bool (by decide+kernel)) ac)))))))),?_⟩
 cases v with
 | str s=>ctx_has v om;exact k
 | int i=>ctx_has v om;exact k
 | bl s=>ctx_has v om Bool.not_true;exact k
 | non=>ctx_has v om;exact k
 | ref s =>
  obtain⟨vs,F⟩:=B;ctx_has v om F;exact k
 | _=>exact B.elim
theorem vt (T : Txt w K mg base) (L:FnL K mg "is_name" iH ["thing"]):Fn P w K mg base "is_name" 1 ["thing"] (vN):=by
  ctx_has z vJ <;> obtain⟨v,rfl,F,k⟩:=h
  . rfl
  refine⟨_,(af (aK (PW.pt (xM (mV (oI (aE mw T.b_isinstance (aa (pvM 0) (aa (yY (T := "str") rfl T.b_str (by decide+kernel)) ac))))) (uY (mV (zG C6 C6 ae (aE qt T.b_len (aa (pvM 0) ac)) (G6 T.c_LONGEST_NAME rfl)))))) (ai (aB jT)) aD)
    (ai (aB (mz (gj yu (pvM 0) (GY T.c_MARKS rfl)) (kR (aE (fU rfl) T.b_all (aa (aZ (N:=["sign"]) (nt:=1) (js:=[]) (aH ["thing"] (ak iH).names) (Eo (pvM 0)) (aA 0) aP aV (zD vR vR au (pvM 0) au)) ac))))))),?_⟩
  cases v with
  | str z =>
    ctx_has v iX
    have hz:z.length<=20:=F
    simp only[iX] at k;refine⟨le_of_lt (ax (by omega)),?_⟩
    refine cG (λh1=>?_) (λh1=>?_)
    . refine cG (λh2=>?_) (λh2=>?_)
      . have h2 : ¬ ((z.length:Int)<=8):=of_decide_eq_false h2
        rw[decide_eq_false (show ¬ z.length<=8 by omega)] at k
        simpa using k H (am.refl _)
      . have h2:((z.length:Int)<=8):=by simpa using h2
        rw[decide_eq_true (show 1<=z.length by omega),decide_eq_true (show z.length<=8 by omega)] at k
        intro a ha;refine⟨_,ha,rfl,by decide+kernel,?_⟩
        refine cG (λB=>?_) (λB=>?_)
        . intro D Y
          refine zF Cz (f:=λv=>match v with | .str x=>.bl (bJ (x.cps.getD 0 0)) | _=>.non) Y (λ_ _=>True.intro) (by simp[yj];show z.length<=1000;omega) ?_ ?_
          . intro x H2 Q2 hx U q
            obtain⟨c,hc,rfl⟩:=mem_map.mp hx;ctx_has v
            rw[HC,Hw];exact A4 (Q:=λb=>Q2 (.bl b) H2) q
          . intro H2 U h2
            refine⟨D,rfl,z.cps.toList.map bJ,?_,?_⟩
            . rw[h2];simp[yj]
            . rw[B] at k
              have:=k H2 U
              simpa using this
        . have B:inV (.str z) nE=true:=by simpa using B
          rw[B] at k;simpa using k H (am.refl _)
    . rw[decide_eq_false (show ¬ 1<=z.length by omega)] at k
      simpa using k H (am.refl _)
  | int i=>ctx_has v iX;exact k _ (am.refl _)
  | bl s=>ctx_has v iX;exact k _ (am.refl _)
  | non=>ctx_has v iX;exact k _ (am.refl _)
  | ref s =>
    obtain⟨vs,Z⟩:=F;ctx_has v iX Z;exact k _ (am.refl _)
  | _=>exact F.elim
theorem ml (T:Txt w K mg base) (L:FnL K mg "leads_round" dw ["leads","is_one"]) (au:Fn P w K mg base "is_name" 1 ["thing"] (vN)) (FZ:Fn P w K mg base "is_number" 1 ["thing"] (wq)):Fn P w K mg base "leads_round" 2 ["leads","is_one"] (Hl mg):=by
 ctx_has z mP <;> obtain⟨nm,a,f,kvs,rfl,hf,ha,hl,ht,k⟩:=h
 .rfl
 refine⟨_,(af (az 2 (aF (jg rfl) T.b_list (aa (pvM 0) ac)))
  (af (az 3 (yS rfl rfl T.b_list (pvM 0)))
  (af (aK (mV (oI (aE (fU rfl) T.b_all (aa (aZ (N:=["thing","is_one"]) (nt:=1) (js:=[1]) (aH ["leads","is_one","keys","led_to"] (ak dw).names) (wE K (aN se (pvM 2) (pvM 3))) (aA 0) aP aV (A2 (mg:=mg) (i:=1) rfl au FZ (hr.mono (by ctx_has m)) (hr.mono (by ctx_has m)) rfl (by first | exact Or.inl rfl | exact Or.inr (Or.inl rfl) | exact Or.inr (Or.inr rfl)) (aa (pvM 0) ac))) ac)))) (ai (aB jT)) aD)
  (ai (aB (gj (vm (nJ hr)) (aE jf T.b_sorted (aa (pvM 2) ac)) (aE jf T.b_sorted (aa (pvM 3) ac)))))))),?_⟩
 ctx_has v AZ AX ha
 intro l1 h1;have al:=aj ha h1;refine⟨kvs,by rw[ag al];exact ha,λl2 h2=>?_⟩
 have aq:l1≠l2:=λz=>by rw[<- z,ab] at h2;cases h2
 have s1:am H (upd (upd H l1 (HO.lst (kvs.map λx=>kV x.1))) l2 (HO.lst (kvs.map (·.2)))):=(am.upd0 h1).upd_new h2
 have e1:upd (upd H l1 (HO.lst (kvs.map λx=>kV x.1))) l2 (HO.lst (kvs.map (·.2))) l1=some (HO.lst (kvs.map λx=>kV x.1)):=by rw[ag aq];exact ab
 have e2:upd (upd H l1 (HO.lst (kvs.map λx=>kV x.1))) l2 (HO.lst (kvs.map (·.2))) l2=some (HO.lst (kvs.map (·.2))):=ab
 generalize upd (upd H l1 (HO.lst (kvs.map λx=>kV x.1))) l2 (HO.lst (kvs.map (·.2)))=H1 at s1 e1 e2 ⊢
 refine⟨_,e1,_,e2,by simp only[length_map];exact le_of_lt (ax (by omega)),λp hp=>⟨_,ab,λD hD=>?_⟩⟩
 have s0:am H1 (upd H1 p (HO.lst ((kvs.map λx=>kV x.1)++kvs.map (·.2)))):=am.upd0 hp
 have e3:upd H1 p (HO.lst ((kvs.map λx=>kV x.1)++kvs.map (·.2))) p=some (HO.lst ((kvs.map λx=>kV x.1)++kvs.map (·.2))):=ab
 have ao : ∀v∈(kvs.map λx=>kV x.1)++kvs.map (·.2),iY v=true:=λv B=>by
  rcases mem_append.mp B with h | h
  .obtain⟨x,F,rfl⟩:=mem_map.mp h;exact(ht x F).1
  .obtain⟨x,F,rfl⟩:=mem_map.mp h;exact(ht x F).2
 have Z:zM nm kvs↔(∀v∈(kvs.map λx=>kV x.1)++kvs.map (·.2),lB nm v=true)/\(kvs.map λx=>kV x.1).Perm (kvs.map (·.2)):=by
  unfold zM;refine and_congr_left λ_=>⟨λh v B=>?_,λh x F=>⟨h _ (mem_append_left _ (mem_map.mpr ⟨x,F,rfl⟩)),h _ (mem_append_right _ (mem_map.mpr ⟨x,F,rfl⟩))⟩⟩
  rcases mem_append.mp B with q | q
  .obtain⟨x,F,rfl⟩:=mem_map.mp q;exact(h x F).1
  .obtain⟨x,F,rfl⟩:=mem_map.mp q;exact(h x F).2
 generalize upd H1 p (HO.lst ((kvs.map λx=>kV x.1)++kvs.map (·.2)))=av at s0 e3 hD ⊢
 refine cA bB (λv=>.bl (lB nm v)) hD (λH' s=>.of (s _ _ e3)) (by simp only[length_append,length_map];omega) ?_ ?_
 .intro x H2 Q2 F sm q2
  exact EE hf (ao x F) q2
 .intro H2 sm h2
  rw[Ew] at h2;have s3:=s1.trans (s0.trans sm);refine⟨D,rfl,_,h2,?_⟩
  cases hb:(((kvs.map λx=>kV x.1)++kvs.map (·.2)).map (lB nm)).all id with
  | false =>
   rw[if_pos rfl];refine k false H2 s3 ⟨(by intro z;cases z),λz=>?_⟩
   rw[yW.mpr (Z.mp z).1] at hb;cases hb
  | true =>
   rw[if_neg (by decide)]
   have ah:=yW.mp hb;have st : ∀v∈(kvs.map λx=>kV x.1)++kvs.map (·.2),stV nm v:=λv B=>G3 (ah v B)
   have ad : ∀v∈(kvs.map λx=>kV x.1),stV nm v:=λv B=>st v (mem_append_left _ B)
   have ae : ∀v∈kvs.map (·.2),stV nm v:=λv B=>st v (mem_append_right _ B)
   have hw : ∀{H:Hp} {l:List V},(∀v∈l,stV nm v)->(∀z∈wk l,KyV H z.1 z.2)/\∀z∈wk l,z.2.tag=(if nm then 0 else 1)/\z.2≠.r []:=λh=>⟨λz hz=>by obtain⟨v,B,rfl⟩:=mem_map.mp hz;exact(Df (h v B)).1,λz hz=>by obtain⟨v,B,rfl⟩:=mem_map.mp hz;exact(Df (H:=λ_=>none) (h v B)).2⟩
   have g1:=(s0.trans sm) _ _ e1;have g2:=(s0.trans sm) _ _ e2;refine⟨l1,rfl,wk (kvs.map λx=>kV x.1),.inl (by rw[vv];exact g1),by unfold wk;simp only[length_map];omega,(hw ad).1,⟨_,(hw (H:=H) ad).2⟩,λq1 U ap p1 o1=>?_⟩
   have s4:=am.upd0 (o:=HO.lst (U.map (·.1))) ap;refine⟨l2,rfl,wk (kvs.map (·.2)),.inl (by rw[vv];exact s4 _ _ g2),by unfold wk;simp only[length_map];omega,(hw ae).1,⟨_,(hw (H:=H) ae).2⟩,λq2 Y an p2 o2=>?_⟩
   have s5:=s4.upd_new (o:=HO.lst (Y.map (·.1))) an;obtain⟨a1,b1⟩:=C4 p1;obtain⟨a2,b2⟩:=C4 p2;rw[b1] at o1;rw[b2] at o2;have t1 : ∀v∈U.map (·.1),stV nm v:=λv B=>ad v (a1.mem_iff.mp B)
   have t2 : ∀v∈Y.map (·.1),stV nm v:=λv B=>ae v (a2.mem_iff.mp B)
   have ar:q1≠q2:=λz=>by rw[<- z,ab] at an;cases an
   refine⟨.list ((U.map (·.1)).map dOf),.list ((Y.map (·.1)).map dOf),.lst (.of (by rw[ag ar];exact ab)) (iy t1).1,.lst (.of ab) (iy t2).1,by unfold PyData.canLay0;exact(iy (K:=K) (H:=H) t1).2.1,by unfold PyData.canLay0;exact(iy (K:=K) (H:=H) t2).2.1,by unfold PyData.depth;rw[(iy (K:=K) (H:=H) t1).2.2];decide,?_⟩
   refine k _ _ (s3.trans s5) ?_
   have:PyData.eqv (.list ((U.map (·.1)).map dOf)) (.list ((Y.map (·.1)).map dOf))=PyData.eqvAll ((U.map (·.1)).map dOf) ((Y.map (·.1)).map dOf):=by simp only[PyData.eqv]
   rw[this,Aw t1 t2,tD ad ae a1 a2 o1 o2,Z];exact⟨λz=>⟨ah,z⟩,λz=>z.2⟩
section
variable [DecidableEq α] {m1 m2 m:List (α × α)}
def Er (m1 m2 m:List (α × α)):Prop:=(m.map (·.1)).Nodup/\(∀x∈m,x.2=ld m2 (ld m1 x.1))/\∀k,k∈m.map (·.1)↔k∈m1.map (·.1)\/k∈m2.map (·.1)
theorem wD (h:Er m1 m2 m) (x:α):ld m x=ld m2 (ld m1 x):=by
 by_cases B:x∈m.map (·.1)
 .conv=>lhs;unfold ld
  cases e:m.find? λy=>decide (y.1=x) with
  | none =>
   obtain⟨y,F,U⟩:=mem_map.mp B;exact absurd (decide_eq_true U) (find?_eq_none.mp e y F)
  | some y =>
   have h1:=h.2.1 y (mem_of_find?_eq_some e);have h2:y.1=x:=by simpa using find?_some e
   rw[h2] at h1;exact h1
 .have h1:x∉m1.map (·.1):=λz=>B ((h.2.2 x).mpr (.inl z))
  have h2:x∉m2.map (·.1):=λz=>B ((h.2.2 x).mpr (.inr z))
  rw[cR B,cR h1,cR h2]
theorem wO (p1:PM m1) (p2:PM m2) (h:Er m1 m2 m):PM m:=by
 refine⟨h.1,?_⟩
 have e:m.map (·.2)=(m.map (·.1)).map λk=>ld m2 (ld m1 k):=by
  rw[map_map];exact map_congr_left λx F=>h.2.1 x F
 rw[e];refine ud ?_ (λy B=>?_) (by simp)
 .exact pairwise_map.mpr (h.1.imp λne z=>ne (dj p1 (dj p2 z)))
 .obtain⟨k,hk,rfl⟩:=mem_map.mp B
  have h1:ld m1 k∈m.map (·.1):=by
   by_cases z:k∈m1.map (·.1)
   .exact(h.2.2 _).mpr (.inl (kY p1 z))
   .rw[cR z];exact hk
  show ld m2 (ld m1 k)∈_
  by_cases z:ld m1 k∈m2.map (·.1)
  .exact(h.2.2 _).mpr (.inr (kY p2 z))
  .rw[cR z];exact h1
end
theorem nC {P:List α->Prop} (B:P []) (z : ∀l a,P l->P (l++[a])) (l:List α):P l:=by
 rw[<- List.reverse_reverse l]
 induction l.reverse with
 | nil=>exact B
 | cons a r F=>rw[List.reverse_cons];exact z _ _ F
theorem vZ (m:List (Str × Str)) (x:Str):ld (upS m) (Sum.inr x)=Sum.inr (ld m x):=by
 unfold ld upS;rw[List.find?_map];have:((λy:Key × Key=>decide (y.1=Sum.inr x)) ∘ λx:Str × Str=>((Sum.inr x.1:Key),(Sum.inr x.2:Key)))=λy=>decide (y.1=x):=by
  funext y;simp
 rw[this];cases m.find? λy=>decide (y.1=x) <;> rfl
theorem we (m:List (Int × Int)) (x:Int):ld (upI m) (Sum.inl x)=Sum.inl (ld m x):=by
 unfold ld upI;rw[List.find?_map];have:((λy:Key × Key=>decide (y.1=Sum.inl x)) ∘ λx:Int × Int=>((Sum.inl x.1:Key),(Sum.inl x.2:Key)))=λy=>decide (y.1=x):=by
  funext y;simp
 rw[this];cases m.find? λy=>decide (y.1=x) <;> rfl
def tFW (f:Str->Str) (g:Int->Int):Wi->Wi
 | .un cs=>.un (cs.map f)
 | .mn B cs lo hi=>.mn (B.map g) (cs.map f) lo hi
 | .sm ts lo hi=>.sm (ts.map λx=>(x.1,f x.2)) lo hi
 | .tb cs rows=>.tb (cs.map f) (rows.map λr=>r.map g)
 | .wy cs ps es=>.wy (cs.map f) (ps.map λx=>(x.1,g x.2.1,x.2.2)) es
 | .bh cs z=>.bh (cs.map f) z
def tFX (f:Str->Str) (g:Int->Int):Wx->Wx
 | .pl W=>.pl (tFW f g W)
 | .sa c vs W=>.sa (f c) (vs.map g) (tFW f g W)
def ndX:Wx->Bool
 | .pl W=>ndW W
 | .sa _ _ W=>ndW W
theorem wZ (s:List (Str × Str)) (i:List (Int × Int)) (W:Wi):cg s i W=if ndW W && !idI i then none else some (tFW (ld s) (ld i) W):=by
 cases W <;> simp only[cg,ndW,tFW,Bool.false_and,Bool.true_and,Bool.false_eq_true,if_false]
 all_goals cases idI i <;> rfl
theorem xt (s:List (Str × Str)) (i:List (Int × Int)) (W:Wx):bF s i W=if ndX W && !idI i then none else some (tFX (ld s) (ld i) W):=by
 cases W with
 | pl W=>rw[sZ,wZ];unfold ndX tFX;split <;> rfl
 | sa c vs W=>rw[sT,wZ];unfold ndX tFX;split <;> rfl
theorem DU (f:Str->Str) (g:Int->Int) (W:Wx):ndX (tFX f g W)=ndX W:=by
 cases W with
 | pl W=>cases W <;> rfl
 | sa c vs W=>cases W <;> rfl
theorem BG (f f2:Str->Str) (g z:Int->Int) (W:Wi):tFW f2 z (tFW f g W)=tFW (λx=>f2 (f x)) (λx=>z (g x)) W:=by
 cases W <;> simp[tFW,Function.comp_def]
theorem Bi (f f2:Str->Str) (g z:Int->Int) (W:Wx):tFX f2 z (tFX f g W)=tFX (λx=>f2 (f x)) (λx=>z (g x)) W:=by
 cases W <;> simp[tFX,BG,Function.comp_def]
theorem CD {i:List (Int × Int)} (p:PM i):idI i=true↔∀x,ld i x=x:=by
 constructor
 .exact λh x=>zE h x
 .intro h
  unfold idI;refine all_eq_true.mpr λx U=>decide_eq_true ?_
  obtain⟨y,Y,e,e2⟩:=sF p (mem_map.mpr ⟨x,U,rfl⟩);have:y=x:=by
   have:=p.1
   obtain⟨a,z⟩:=List.getElem?_of_mem U;obtain⟨b,B⟩:=List.getElem?_of_mem Y;have Z:(i.map (·.1))[a]? =(i.map (·.1))[b]? := by rw[List.getElem?_map,List.getElem?_map,z,B];simp[e]
   have F:a < (i.map (·.1)).length:=by rw[length_map];exact(List.getElem?_eq_some_iff.mp z).1
   have:=(List.getElem?_inj F p.1).mp Z
   subst this;rw[z] at B;exact(Option.some.inj B).symm
  subst this;rw[<- e2,h]
abbrev Tn:=List (Str × Str) × List (Int × Int)
def goS (L:List Tn) (x:Str):Str:=L.foldl (λx m=>ld m.1 x) x
def goI (L:List Tn) (x:Int):Int:=L.foldl (λx m=>ld m.2 x) x
def gG (L:List Tn) (W:Wx):Option Wx:=L.foldl (λo m=>o.bind (bF m.1 m.2)) (some W)
theorem gO (L:List Tn) (m:Tn) (x:Str):goS (L++[m]) x=ld m.1 (goS L x):=by unfold goS;rw[foldl_append];rfl
theorem gc (L:List Tn) (m:Tn) (x:Int):goI (L++[m]) x=ld m.2 (goI L x):=by unfold goI;rw[foldl_append];rfl
theorem fN (L:List Tn) (m:Tn) (W:Wx):gG (L++[m]) W=(gG L W).bind (bF m.1 m.2):=by unfold gG;rw[foldl_append];rfl
theorem yH (W z:Wx) : ∀(L:List Tn),(∀m∈L,PM m.2)->gG L W=some z->z=tFX (goS L) (goI L) W/\(ndX W=true->∀x,goI L x=x):=by
 intro L;refine nC (P:=λL=>∀z,(∀m∈L,PM m.2)->gG L W=some z->z=tFX (goS L) (goI L) W/\(ndX W=true->∀x,goI L x=x)) ?_ ?_ L z
 .intro z _ h
  cases h;refine⟨?_,λ_ _=>rfl⟩
  have hw : ∀W:Wi,W=tFW (goS []) (goI []) W:=λW=>by
   have e1:(goS []:Str->Str)=λx=>x:=rfl
   have e2:(goI []:Int->Int)=λx=>x:=rfl
   rw[e1,e2];cases W <;> simp[tFW]
  cases W with
  | pl W=>exact congrArg Wx.pl (hw W)
  | sa c vs W =>
   show _=Wx.sa c (vs.map λx=>x) (tFW _ _ W)
   rw[<- hw W,map_id']
 .intro L m ih z hp h
  rw[fN] at h;cases e:gG L W with
  | none=>rw[e] at h;cases h
  | some B =>
   rw[e] at h;obtain⟨h1,h2⟩:=ih B (λx F=>hp x (mem_append_left _ F)) e
   have h:bF m.1 m.2 B=some z:=h
   rw[xt,h1,DU] at h
   split at h
   .cases h
   .next hc =>
    cases h;refine⟨?_,λhn x=>?_⟩
    .rw[Bi]
     rw[show goS (L++[m])=λx=>ld m.1 (goS L x) from funext λx=>gO L m x,show goI (L++[m])=λx=>ld m.2 (goI L x) from funext λx=>gc L m x]
    .rw[hn] at hc
     have:idI m.2=true:=by simpa using hc
     rw[gc,h2 hn x];exact zE this x
theorem mY {L:List Tn} {s:List (Str × Str)} {i:List (Int × Int)} (hS : ∀x,ld s x=goS L x) (hI : ∀x,ld i x=goI L x) (p:PM i) (F : ∀m∈L,PM m.2) {W B:Wx} (h:gG L W=some B):bF s i W=some B:=by
 obtain⟨h1,h2⟩:=yH W B L F h;rw[xt,show ld s=goS L from funext hS,show ld i=goI L from funext hI,<- h1]
 refine if_neg λz=>?_
 simp only[Bool.and_eq_true,Bool.not_eq_true'] at z;have:=(CD p).mpr λx=>by rw[hI];exact h2 z.1 x
 rw[this] at z;exact absurd z.2 (by decide)
def tRF (f:Str->Str) (g:Int->Int) (x:Str × List Int):Str × List Int:=(f x.1,srt (x.2.map g))
theorem xg (f f2:Str->Str) (g z:Int->Int) (x:Str × List Int):tRF f2 z (tRF f g x)=tRF (λx=>f2 (f x)) (λx=>z (g x)) x:=by
 refine Prod.ext rfl (qC ?_ (sD _))
 refine(gU _).trans ?_
 have:=(gU (x.2.map g)).map z
 rw[map_map] at this;exact this
theorem AF {x:Str × List Int} (h:x.2.Pairwise (·<=·)):tRF (λx=>x) (λx=>x) x=x:=by
 refine Prod.ext rfl ?_
 show srt (x.2.map λx=>x)=x.2
 rw[map_id'];exact(qC (.refl _) h).symm
theorem zq (hS:PM mS) (hI:PM mI) (h1 : ∀c∈ws,ld mS c∈ws) (h2 : ∀v∈ns,ld mI v∈ns) : ∀{F z Y:List Wx},(∀A∈F,okX ws ns A)->(∀B∈z,okX ws ns B)->F.map dP=z.map dP->z.map (bF mS mI)=Y.map some->∃U:List Wx,F.map (bF mS mI)=U.map some/\U.map dP=Y.map dP
 | [],[],[],_,_,_,_=>⟨[],rfl,rfl⟩
 | [],[],_ :: _,_,_,_,e=>by cases e
 | [],_ :: _,_,_,_,e,_=>by cases e
 | _ :: _,[],_,_,_,e,_=>by cases e
 | _ :: _,_ :: _,[],_,_,_,e=>by cases e
 | A :: F,B :: z,C :: Y,okA,okB,e,e2=>by
  rw[map_cons,map_cons,List.cons.injEq] at e e2;have Z:=okA A mem_cons_self;have hB:=okB B mem_cons_self;obtain⟨D,d1,d2⟩:=AL Z hB e.1 e2.1 (λX hX=>eF hS hI h1 h2 Z hX) (eF hS hI h1 h2 hB e2.1)
  obtain⟨U,a,b⟩:=zq hS hI h1 h2 (λX hX=>okA X (mem_cons_of_mem _ hX)) (λX hX=>okB X (mem_cons_of_mem _ hX)) e.2 e2.2
  exact⟨D :: U,by rw[map_cons,d1,a];rfl,by rw[map_cons,map_cons,d2,b]⟩
structure rV (ws:List Str) (ns:List Int) (m:Tn):Prop where
 ps:PM m.1
 pi:PM m.2
 ks : ∀x∈m.1,x.1∈ws
 ki : ∀x∈m.2,x.1∈ns
theorem map_some {f:α->Option β} {g:α->Option β} {l:List α} {r:List β} (h:l.map f=r.map some) (k : ∀x∈l,∀y,f x=some y->g x=some y):l.map g=r.map some:=by
 rw[<- h];refine map_congr_left λx B=>?_
 cases e:f x with
 | none =>
  have:(none:Option β)∈r.map some:=by rw[<- h,<- e];exact mem_map.mpr ⟨x,B,rfl⟩
  obtain⟨y,_,z⟩:=mem_map.mp this;cases z
 | some y=>exact k x B y e
theorem wA {Ws:List Wx} (hs : ∀x∈ds,x.2.Pairwise (·<=·)) (ok : ∀W∈Ws,okX ws ns W) (L:List Tn) :
  (∀m∈L,rV ws ns m)->(∀m∈L,iC m.1 m.2 ds Ws)->(∀x∈ds,tRF (goS L) (goI L) x∈ds)/\∃z:List Wx,Ws.map (gG L)=z.map some/\(∀V∈z,okX ws ns V)/\(z.map dP).Perm (Ws.map dP):=by
 refine nC (P:=λL=>(∀m∈L,rV ws ns m)->(∀m∈L,iC m.1 m.2 ds Ws)->(∀x∈ds,tRF (goS L) (goI L) x∈ds)/\∃z:List Wx,Ws.map (gG L)=z.map some/\(∀V∈z,okX ws ns V)/\(z.map dP).Perm (Ws.map dP)) ?_ ?_ L
 .intro _ _
  refine⟨λx F=>?_,Ws,rfl,ok,.refl _⟩
  have:tRF (goS []) (goI []) x=x:=AF (hs x F)
  rw[this];exact F
 .intro L m ih hk hl
  obtain⟨h1,z,v1,Z,v3⟩:=ih (λx F=>hk x (mem_append_left _ F)) (λx F=>hl x (mem_append_left _ F))
  have U:=hk m (mem_append_right _ (by simp))
  obtain⟨⟨_,r2⟩,Xs,x1,x2⟩:=hl m (mem_append_right _ (by simp))
  refine⟨λx F=>?_,?_⟩
  .have:=r2 _ (h1 x F)
   have e:eX m.1 m.2 (tRF (goS L) (goI L) x)=tRF (goS (L++[m])) (goI (L++[m])) x:=by
    rw[show goS (L++[m])=λx=>ld m.1 (goS L x) from funext λx=>gO L m x,show goI (L++[m])=λx=>ld m.2 (goI L x) from funext λx=>gc L m x]
    exact xg _ _ _ _ _
   rw[<- e];exact this
  .have hl:=congrArg List.length x1
   rw[length_map,length_map] at hl;have xp:=xy (l:=Xs.map dP) (m:=Ws.map dP) (by rw[length_map,length_map];omega) x2
   obtain⟨Us,Y,u2⟩:=qG v3 rfl;obtain⟨Ys,y1,y2⟩:=qG (Y.map (bF m.1 m.2)) x1;have n1 : ∀c∈ws,ld m.1 c∈ws:=λc hc=>gi U.ps U.ks hc
   have n2:=jS U.pi U.ki;obtain⟨Ds,d1,d2⟩:=zq U.ps U.pi n1 n2 Z (λB hB=>ok B (Y.mem_iff.mp hB)) u2 y2
   refine⟨Ds,?_,λD hD=>?_,?_⟩
   .have e:Ws.map (gG (L++[m]))=(Ws.map (gG L)).map λo=>o.bind (bF m.1 m.2):=by
     rw[map_map];exact map_congr_left λW _=>fN L m W
    rw[e,v1,map_map,<- d1];rfl
   .have:some D∈z.map (bF m.1 m.2):=by rw[d1];exact mem_map.mpr ⟨D,hD,rfl⟩
    obtain⟨V,hV,e⟩:=mem_map.mp this;exact eF U.ps U.pi n1 n2 (Z V hV) e
   .rw[d2]
    exact(y1.map dP).trans xp
theorem yw {Ws:List Wx} {L:List Tn} {s:List (Str × Str)} {i:List (Int × Int)} (Y : ∀x∈ds,x.2.Pairwise (·<=·)) (ok : ∀W∈Ws,okX ws ns W) (F : ∀m∈L,rV ws ns m) (hl : ∀m∈L,iC m.1 m.2 ds Ws)
  (hS : ∀x,ld s x=goS L x) (hI : ∀x,ld i x=goI L x) (p:PM i) (ks : ∀x∈s,∃m∈L,x.1∈m.1.map (·.1)):iC s i ds Ws:=by
 obtain⟨h1,U,v1,v2,Z⟩:=wA Y ok L F hl;refine⟨⟨λx B=>?_,λx B=>?_⟩,U,map_some v1 λW _ V e=>mY hS hI p (λm z=>(F m z).pi) e,λd=>?_⟩
 .obtain⟨m,z,e⟩:=ks x B
  obtain⟨y,hy,e2⟩:=mem_map.mp e;rw[<- e2];exact(hl m z).1.1 y hy
 .have:=h1 x B
  have e:eX s i x=tRF (goS L) (goI L) x:=by
   unfold eX tRF;rw[show ld i=goI L from funext hI,hS]
  rw[e];exact this
 .rw[Ha Z d];exact le_refl _
def Db:Sp:=λvs H Q _=>∃(t na va:Addr) (mS:List (Str × Str)) (mI:List (Int × Int)) (ws:List Str),vs=[.ref t]/\br H t na va mS mI/\cK ws/\(∀x∈mS,x.1∈ws)/\∀H',am H H'->Q (.bl true) H'
theorem wR (h:cK ws) {x:Str} (z:x∈ws):iX (.str x)=true:=by
 have n:=h.nm x z;have B:inV (.str x) nE=false:=by
  have:=mK x du
  rw[decide_eq_false (h.nomark x z)] at this;exact this
 show(decide (1<=x.length) && decide (x.length<=8) && !inV (.str x) nE && x.cps.toList.all bJ)=true
 rw[decide_eq_true n.pos,decide_eq_true n.le,B,all_eq_true.mpr n.small];rfl
theorem xq (h:bS x):iY (.str x)=true:=decide_eq_true (le_trans h.le (by decide))
theorem DR (p:PM mS) (h : ∀x∈mS,x.1∈ws) : ∀x∈mS,x.2∈ws:=λx B=>by
 have:=p.2.mem_iff.mp (mem_map.mpr ⟨x,B,rfl⟩)
 obtain⟨y,z,e⟩:=mem_map.mp this;rw[<- e];exact h y z
theorem El (ok:cK ws) (p:PM mS) (h : ∀x∈mS,x.1∈ws):(∀x∈kvS mS,iY (kV x.1)=true/\iY x.2=true)/\zM true (kvS mS):=by
 have h2:=DR p h;refine⟨?_,?_,?_⟩
 .intro x hx
  obtain⟨y,z,rfl⟩:=mem_map.mp hx;exact⟨xq (ok.nm _ (h y z)),xq (ok.nm _ (h2 y z))⟩
 .intro x hx
  obtain⟨y,z,rfl⟩:=mem_map.mp hx;exact⟨wR ok (h y z),wR ok (h2 y z)⟩
 .have e1:(kvS mS).map (λx=>kV x.1)=(mS.map (·.1)).map V.str:=by unfold kvS;simp only[map_map];rfl
  have e2:(kvS mS).map (·.2)=(mS.map (·.2)).map V.str:=by unfold kvS;simp only[map_map];rfl
  rw[e1,e2];exact p.2.symm.map _
theorem ER (p:PM mI):(∀x∈kvI mI,iY (kV x.1)=true/\iY x.2=true)/\zM false (kvI mI):=by
 refine⟨?_,?_,?_⟩
 .intro x hx
  obtain⟨y,z,rfl⟩:=mem_map.mp hx;exact⟨rfl,rfl⟩
 .intro x hx
  obtain⟨y,z,rfl⟩:=mem_map.mp hx;exact⟨rfl,rfl⟩
 .have e1:(kvI mI).map (λx=>kV x.1)=(mI.map (·.1)).map V.int:=by unfold kvI;simp only[map_map];rfl
  have e2:(kvI mI).map (·.2)=(mI.map (·.2)).map V.int:=by unfold kvI;simp only[map_map];rfl
  rw[e1,e2];exact p.2.symm.map _
theorem pL (T:Txt w K mg base) (L:FnL K mg "is_turning" gz ["thing"]) (Y:Fn P w K mg base "leads_round" 2 ["leads","is_one"] (Hl mg)):Fn P w K mg base "is_turning" 3 ["thing"] (Db):=by
 ctx_has z pP <;> obtain⟨t,na,va,mS,mI,ws,rfl,B,ok,hm,k⟩:=h
 .rfl
 refine⟨_,(ai (aB (mz (ah Y (aa (ao ap (pvM 0) ae) (aa (lU (v:=.ref (iR mg "is_name")) rfl T.at_is_name rfl) ac))) (kR (ah Y (aa (ao ap (pvM 0) ae) (aa (lU (v:=.ref (iR mg "is_number")) rfl T.at_is_number rfl) ac))))))),?_⟩
 have e1:=B.ht;obtain⟨g1,g2⟩:=El ok B.ps hm;obtain⟨g3,Z⟩:=ER B.pi;have hl1:=B.ls;have hl2:=B.li;ctx_has v e1
 refine⟨true,na,_,_,rfl,T.at_is_name,B.hn,by unfold kvS;rw[length_map];omega,g1,λb H1 U hb=>?_⟩
 cases hb.mpr g2;refine⟨true,rfl,?_⟩
 rw[if_pos rfl];refine⟨_,U _ _ e1,_,aM (j:=1) rfl,false,va,_,_,rfl,T.at_is_number,U _ _ B.hv,by unfold kvI;rw[length_map];omega,g3,λb2 H2 s2 F=>?_⟩
 cases F.mpr Z;exact k H2 (U.trans s2)
def xC:Sp:=λvs H Q _=>∃(a b:Addr) (m1 m2:List (Key × Key)),vs=[.ref a,.ref b]/\H a=some (.dK (kvK m1))/\H b=some (.dK (kvK m2))/\m1.length<=40/\m2.length<=40 /\
 ∀r m H',H r=none->am H H'->H' r=some (.dK (kvK m))->Er m1 m2 m->Q (.ref r) H'
theorem Ax {f:Key->Key} (Y : ∀x∈m,x.2=f x.1) (hn:(m.map (·.1)).Nodup) (k:Key) : ∃F:List (Key × Key),bp (kvK m) k (kV (f k))=kvK F/\(F.map (·.1)).Nodup/\(∀x∈F,x.2=f x.1)/\(∀y,y∈F.map (·.1)↔y∈m.map (·.1)\/y=k)/\F.length<=m.length+1:=by
 by_cases U:k∈m.map (·.1)
 .refine⟨m,?_,hn,Y,λy=>⟨.inl,λz=>z.elim id λe=>by rw[e];exact U⟩,by omega⟩
  unfold bp;have:((kvK m).any λkv=>decide (kv.1=k))=true:=by
   obtain⟨x,B,e⟩:=mem_map.mp U;exact any_eq_true.mpr ⟨_,mem_map.mpr ⟨x,B,rfl⟩,decide_eq_true e⟩
  rw[if_pos this];refine(map_congr_left λy Z=>?_).trans (map_id _)
  obtain⟨x,B,rfl⟩:=mem_map.mp Z
  by_cases e:x.1=k
  .rw[if_pos e,<- e,<- Y x B];rfl
  .rw[if_neg e];rfl
 .refine⟨m++[(k,f k)],?_,?_,λx B=>?_,λy=>?_,by simp⟩
  .rw[cF]
   .unfold kvK;rw[map_append];rfl
   .unfold bu
    rw[Option.map_eq_none_iff,find?_eq_none];intro y Z;obtain⟨x,B,rfl⟩:=mem_map.mp Z;exact λz=>U (mem_map.mpr ⟨x,B,of_decide_eq_true z⟩)
  .rw[map_append,nodup_append]
   refine⟨hn,by simp,λa ha b hb e=>U ?_⟩
   have:b=k:=by simpa using hb
   rw[<- this,<- e];exact ha
  .rcases mem_append.mp B with z | z
   .exact Y x z
   .rw[mem_singleton.mp z]
  .rw[map_append,mem_append]
   simp
theorem oE (T:Txt w K mg base) (L:FnL K mg "_law_behind" fJ ["_law_one","_law_other"]):Fn P w K mg base "_law_behind" 1 ["_law_one","_law_other"] (xC):=by
 ctx_has z mv <;> obtain⟨a,b,m1,m2,rfl,ha,hb,hl1,hl2,k⟩:=h
 .rfl
 refine⟨_,(af (az 2 cm)
  (af (bC (wE K (aN se (aF (jg rfl) T.b_list (aa (pvM 0) ac)) (aF (jg rfl) T.b_list (aa (pvM 1) ac)))) (aA 3) (af (az 4 (df hu (pvM 0) (pvM 3) (pvM 3) ⟨rfl,rfl,rfl,rfl⟩))
  (ai (fV hu (pvM 2) (pvM 3) (df hu (pvM 1) (pvM 4) (pvM 4) ⟨rfl,rfl,rfl,rfl⟩) rfl))))
  (ai (aB (pvM 2))))),?_⟩
 ctx_has v
 intro r Z;have s0:=am.upd0 (o:=.dK []) Z;refine⟨a,rfl,_,s0 _ _ ha,λq1 U=>⟨b,rfl,_,(s0.upd_new U) _ _ hb,λq2 F=>?_⟩⟩
 have s1:=s0.upd_new (o:=.lst ((kvK m1).map λx=>kV x.1)) U
 have s2:=s1.upd_new (o:=.lst ((kvK m2).map λx=>kV x.1)) F
 have e1 : ∀m:List (Key × Key),((kvK m).map λx=>kV x.1)=(m.map (·.1)).map kV:=λm=>by unfold kvK;simp only[map_map];rfl
 have g1:=(am.upd0 (o:=.lst ((kvK m2).map λx=>kV x.1)) F) _ _ (ab (H:=upd H r (.dK [])) (a:=q1) (o:=.lst ((kvK m1).map λx=>kV x.1)))
 have gr:upd (upd (upd H r (.dK [])) q1 (.lst ((kvK m1).map λx=>kV x.1))) q2 (.lst ((kvK m2).map λx=>kV x.1)) r=some (.dK (kvK [])):=((am.upd0 U).upd_new F) _ _ ab
 have g2:upd (upd (upd H r (.dK [])) q1 (.lst ((kvK m1).map λx=>kV x.1))) q2 (.lst ((kvK m2).map λx=>kV x.1)) q2=some (.lst ((kvK m2).map λx=>kV x.1)):=ab
 generalize upd (upd (upd H r (.dK [])) q1 (.lst ((kvK m1).map λx=>kV x.1))) q2 (.lst ((kvK m2).map λx=>kV x.1))=H2 at s2 g1 g2 gr ⊢
 rw[e1] at g1 g2;refine⟨q1,rfl,q2,rfl,_,g1,_,g2,by simp;exact le_of_lt (ax (by omega)),λq3 B=>⟨_,ab,?_⟩⟩
 rw[<- map_append];have s3:=s2.upd_new (o:=.lst ((m1.map (·.1)++m2.map (·.1)).map kV)) B;have g3:upd H2 q3 (.lst ((m1.map (·.1)++m2.map (·.1)).map kV)) q3=some (.lst ((m1.map (·.1)++m2.map (·.1)).map kV)):=ab
 have ah:=(am.upd0 (o:=.lst ((m1.map (·.1)++m2.map (·.1)).map kV)) B) _ _ gr;have nq:q3≠r:=λz=>by rw[z,gr] at B;cases B
 generalize upd H2 q3 (.lst ((m1.map (·.1)++m2.map (·.1)).map kV))=H3 at s3 g3 ah ⊢;generalize ae:m1.map (·.1)++m2.map (·.1)=ks at g3 ⊢;have ao:ks.length<=80:=by rw[<- ae];simp;omega
 refine bR bB (λi σ H'=>∃v3 v4 m,σ=[some (.ref a),some (.ref b),some (.ref r),v3,v4]/\H' r=some (.dK (kvK m))/\(m.map (·.1)).Nodup/\(∀x∈m,x.2=ld m2 (ld m1 x.1))/\(∀y,y∈m.map (·.1)↔y∈ks.take i)/\m.length<=i/\H' q3=some (.lst (ks.map kV))/\am H H') ⟨_,_,[],rfl,ah,by simp,(λx Y=>by cases Y),by simp,le_refl _,g3,s3⟩ (λi σ H' ad=>by obtain⟨_,_,_,_,_,_,_,_,_,h,_⟩:=ad;exact(.of h)) ?_ ?_
 .rintro i x σ H4 hi Y ⟨v3,v4,m,rfl,h4,hn,hf,hk,hml,h4q,s4⟩
  obtain⟨y,hy,rfl⟩ : ∃y,ks[i]? = some y/\kV y=x:=by
   rw[List.getElem?_map] at Y;cases e:ks[i]? with
   | none=>rw[e] at Y;cases Y
   | some nm=>rw[e] at Y;exact⟨nm,rfl,Option.some.inj Y⟩
  have ak:=s4 _ _ ha;have aj:=s4 _ _ hb;ctx_has v ft
  refine⟨.inl ⟨_,.inl ak⟩,_,.inl ⟨_,y,.inl ak,rfl,rfl⟩,?_⟩
  rw[wQ];refine⟨.inl ⟨_,.inl aj⟩,_,.inl ⟨_,ld m1 y,.inl aj,rfl,rfl⟩,?_⟩
  rw[wQ];obtain⟨m',e',n1,n2,n3,n4⟩:=Ax (f:=λk=>ld m2 (ld m1 k)) hf hn y
  have an:i < ks.length:=(List.getElem?_eq_some_iff.mp hy).1
  refine⟨y,rfl,_,h4,by unfold kvK;rw[length_map];exact ax (by omega),m',by rw[ab,e'],n1,n2,λz=>?_,by omega,by rw[ag nq];exact h4q,s4.putN Z⟩
  rw[n3,hk,take_add_one,hy];simp
 .rintro σ H4 ⟨v3,v4,m,rfl,h4,hn,hf,hk,hml,h4q,s4⟩
  rw[length_map,take_length] at hk;ctx_has v
  exact k r m H4 Z s4 h4 ⟨hn,hf,λy=>by rw[hk y,<- ae,mem_append]⟩
theorem Gd {Q:VK} {E:XK} (h1:H a=some (.dK (kvS m1))) (h2:H b=some (.dK (kvS m2))) (p1:PM m1) (p2:PM m2) (l1:m1.length<=40) (Y:m2.length<=40)
  (k : ∀r m H',H r=none->am H H'->H' r=some (.dK (kvS m))->PM m->(∀x,ld m x=ld m2 (ld m1 x))->(∀x∈m,x.1∈m1.map (·.1)\/x.1∈m2.map (·.1))->Q (.ref r) H'):xC [.ref a,.ref b] H Q E:=by
 refine⟨a,b,upS m1,upS m2,rfl,by rw[qk];exact h1,by rw[qk];exact h2,by unfold upS;rw[length_map];exact l1,by unfold upS;rw[length_map];exact Y,λr m H' Z s e c=>?_⟩
 have up : ∀{m:List (Str × Str)} {x:Key},x∈(upS m).map (·.1)->∃y∈m.map (·.1),x=Sum.inr y:=λ{m x} h=>by
  obtain⟨y,B,rfl⟩:=mem_map.mp h;obtain⟨z,hz,rfl⟩:=mem_map.mp B;exact⟨z.1,mem_map.mpr ⟨z,hz,rfl⟩,rfl⟩
 obtain⟨mS,rfl,U⟩:=Hd (wO (vA p1) (vA p2) c) λx F=>by
  rcases (c.2.2 x.1).mp (mem_map.mpr ⟨x,F,rfl⟩) with z | z <;> obtain⟨y,_,e⟩:=up z <;> exact⟨y,e⟩
 rw[qk] at e;refine k r mS H' Z s e U (λx=>?_) λx F=>?_
 .have:=wD c (Sum.inr x)
  rw[vZ,vZ,vZ] at this;exact Sum.inr.inj this
 .have:(Sum.inr x.1:Key)∈(upS mS).map (·.1):=mem_map.mpr ⟨_,mem_map.mpr ⟨x,F,rfl⟩,rfl⟩
  rcases (c.2.2 _).mp this with z | z <;> obtain⟨y,B,e⟩:=up z <;> rw[Sum.inr.inj e]
  .exact .inl B
  .exact .inr B
theorem Hq {m1 m2:List (Int × Int)} {Q:VK} {E:XK} (h1:H a=some (.dK (kvI m1))) (h2:H b=some (.dK (kvI m2))) (p1:PM m1) (p2:PM m2) (l1:m1.length<=40) (Y:m2.length<=40)
  (k : ∀r m H',H r=none->am H H'->H' r=some (.dK (kvI m))->PM m->(∀x,ld m x=ld m2 (ld m1 x))->(∀x∈m,x.1∈m1.map (·.1)\/x.1∈m2.map (·.1))->Q (.ref r) H'):xC [.ref a,.ref b] H Q E:=by
 refine⟨a,b,upI m1,upI m2,rfl,by rw[mO];exact h1,by rw[mO];exact h2,by unfold upI;rw[length_map];exact l1,by unfold upI;rw[length_map];exact Y,λr m H' Z s e c=>?_⟩
 have up : ∀{m:List (Int × Int)} {x:Key},x∈(upI m).map (·.1)->∃y∈m.map (·.1),x=Sum.inl y:=λ{m x} h=>by
  obtain⟨y,B,rfl⟩:=mem_map.mp h;obtain⟨z,hz,rfl⟩:=mem_map.mp B;exact⟨z.1,mem_map.mpr ⟨z,hz,rfl⟩,rfl⟩
 obtain⟨mI,rfl,U⟩:=Hi (wO (vH p1) (vH p2) c) λx F=>by
  rcases (c.2.2 x.1).mp (mem_map.mpr ⟨x,F,rfl⟩) with z | z <;> obtain⟨y,_,e⟩:=up z <;> exact⟨y,e⟩
 rw[mO] at e;refine k r mI H' Z s e U (λx=>?_) λx F=>?_
 .have:=wD c (Sum.inl x)
  rw[we,we,we] at this;exact Sum.inl.inj this
 .have:(Sum.inl x.1:Key)∈(upI mI).map (·.1):=mem_map.mpr ⟨_,mem_map.mpr ⟨x,F,rfl⟩,rfl⟩
  rcases (c.2.2 _).mp this with z | z <;> obtain⟨y,B,e⟩:=up z <;> rw[Sum.inl.inj e]
  .exact .inl B
  .exact .inr B
abbrev TQ5:=Addr × Addr × Addr × Tn
def pO (H:Hp) (ts:List TQ5) (ws:List Str) (ns:List Int):Prop:=∀x∈ts,br H x.1 x.2.1 x.2.2.1 x.2.2.2.1 x.2.2.2.2/\rV ws ns x.2.2.2
theorem pO.same {H H':Hp} {ts:List TQ5} {ws:List Str} {ns:List Int} (h:pO H ts ws ns) (s:am H H'):pO H' ts ws ns:=λx z=>⟨(h x z).1.same s,(h x z).2⟩
def dtT (ts:List TQ5):List Tn:=ts.map (·.2.2.2)
def Ir:Sp:=λvs H Q _=>∃(w q:Addr) (W:Wx) (ts:List TQ5) (ws:List Str) (ns:List Int),vs=[.ref w,.ref q]/\WX H w W/\H q=some (.lst (ts.map λx=>V.ref x.1))/\pO H ts ws ns/\okX ws ns W/\∀v H',am H H'->WO H' v (gG (dtT ts) W)->Q v H'
theorem xD {W:Wx} (ok:okX ws ns W) (L:List Tn):(∀m∈L,rV ws ns m)->∀V,gG L W=some V->okX ws ns V:=by
 refine nC (P:=λL=>(∀m∈L,rV ws ns m)->∀V,gG L W=some V->okX ws ns V) ?_ ?_ L
 .intro _ V h;cases h;exact ok
 .intro L m ih hk V h
  rw[fN] at h;cases e:gG L W with
  | none=>rw[e] at h;cases h
  | some U =>
   rw[e] at h;have z:=hk m (mem_append_right _ (by simp))
   exact eF z.ps z.pi (λc B=>gi z.ps z.ks B) (jS z.pi z.ki) (ih (λx F=>hk x (mem_append_left _ F)) U e) h
theorem Al {ts:List TQ5} {i:Nat} {x:V} (z:(ts.map λx=>V.ref x.1)[i]? = some x) : ∃y,ts[i]? = some y/\V.ref y.1=x:=by
 rw[List.getElem?_map] at z;cases e:ts[i]? with
 | none=>rw[e] at z;cases z
 | some nm=>rw[e] at z;exact⟨nm,rfl,Option.some.inj z⟩
theorem dE {ts:List TQ5} {i:Nat} {y:TQ5} (z:ts[i]? = some y):dtT (ts.take (i+1))=dtT (ts.take i)++[y.2.2.2]:=by unfold dtT;rw[take_add_one,z];simp
theorem qW {ts:List TQ5} (h:pO H ts ws ns) (i:Nat) : ∀m∈dtT (ts.take i),rV ws ns m:=λm z=>by
 obtain⟨x,B,rfl⟩:=mem_map.mp z;exact(h x (mem_of_mem_take B)).2
abbrev GF:=Fn P w K mg base "_law_all_turned" 8 ["_law_wish_here","_law_turnings"] (Ir)
theorem jd (T:Txt w K mg base) (L:FnL K mg "_law_all_turned" dg ["_law_wish_here","_law_turnings"]) (Fu : @Cu P w K mg base) : @GF P w K mg base:=by
 ctx_has z jr <;> obtain⟨w,q,W,ts,ws,ns,rfl,hW,hq,B,Y,k⟩:=h
 .rfl
 refine⟨_,(af (bC (dr (K:=K) rfl (pvM 1)) (aA 2) (ai (aK (il (qP (pvM 0))) (ai (az 0 (ah Fu (aa (pvM 2) (aa (pvM 0) ac))))) aD)))
  (ai (aB (pvM 0)))),?_⟩
 ctx_has v hq
 refine bR bB (λi σ H'=>∃v U,σ=[some v,some (.ref q),U]/\WO H' v (gG (dtT (ts.take i)) W)/\am H H') ⟨_,_,rfl,⟨w,rfl,hW⟩,am.refl _⟩ (λi σ H' F=>by obtain⟨_,_,_,_,s⟩:=F;exact(.of (s _ _ hq))) ?_ ?_
 .rintro i x σ H2 hi hx ⟨v,U,rfl,hv,s2⟩
  obtain⟨y,Z,rfl⟩:=Al hx;have hT:=B y (mem_of_getElem? Z);cases e:gG (dtT (ts.take i)) W with
  | none =>
   rw[e] at hv;cases hv;ctx_has v
   exact⟨by rw[dE Z,fN,e];rfl,s2⟩
  | some V0 =>
   rw[e] at hv;obtain⟨b,rfl,hb⟩:=hv;ctx_has v
   refine⟨y.1,b,y.2.1,y.2.2.1,_,_,V0,rfl,hT.1.same s2,hb,ma (xD Y _ (qW B i) V0 e),λv' H3 s3 h3=>?_⟩
   exact⟨by rw[dE Z,fN,e];exact h3,s2.trans s3⟩
 .rintro σ H2 ⟨v,U,rfl,hv,s2⟩
  rw[length_map,take_length] at hv;ctx_has v
  exact k _ _ s2 hv
theorem zp (hK:X.K=K) (z:X.A.units+102 < cLine):OpR X (compareOp .NotEq) (CN K false):=by
 subst hK;exact Cn z
theorem Hu (m:List (Str × Str)):kvK (swp (upS m))=kvS (swp m):=by unfold kvK swp upS kvS;simp only[map_map];rfl
theorem Gc (m:List (Int × Int)):kvK (swp (upI m))=kvI (swp m):=by unfold kvK swp upI kvI;simp only[map_map];rfl
theorem BU {zs:List (Str × Addr × List Int)} (h:dat ys=dat zs) (hn:(zs.map (·.1)).Nodup) (U:RmT H ys) (Y:RmT H zs):(kvR ys).length=(kvR zs).length/\vy K H (kvR ys) (kvR zs):=by
 constructor
 .have:=congrArg List.length h
  unfold dat at this;unfold kvR;rw[length_map,length_map] at *;exact this
 .intro p hp
  obtain⟨y,F,rfl⟩:=mem_map.mp hp;have:(y.1,y.2.2)∈dat zs:=by rw[<- h];exact mem_map.mpr ⟨y,F,rfl⟩
  obtain⟨z,B,e⟩:=mem_map.mp this;simp only[Prod.mk.injEq] at e;refine⟨.ref z.2.1,?_,.tuple (y.2.2.map PyData.int),.tup (.of (U y F)) (cj.ints _),?_,?_,?_,?_⟩
  .exact ku (zn hn) (mem_map.mpr ⟨z,B,by rw[<- e.1]⟩)
  .rw[<- e.2];exact .tup (.of (Y z B)) (cj.ints _)
  .unfold PyData.canLay0;exact lay_ints _
  .unfold PyData.depth;rw[depth_ints];decide
  .exact PySem.SeqAt.eqv_refl _ (by unfold PyData.canLay0;exact lay_ints _)
theorem RmT.same {xs:List (Str × Addr × List Int)} (h:RmT H xs) (s:am H H'):RmT H' xs:=λx z=>s _ _ (h x z)
theorem AS {a b c d rest:TS} (h : ∀R:TS,R=rest->fL a (fL b (fL c (fL d R))) D σ H):fL a (fL b (fL c (fL d rest))) D σ H:=h rest rfl
theorem EH {m:List (Str × Str)} {Q:VK} {E:XK} (h:H a=some (.dK (kvS m))) (p:PM m) (l:m.length<=40) (k : ∀r H',H r=none->am H H'->H' r=some (.dK (kvS (swp m)))->Q (.ref r) H'):rJ [.ref a] H Q E:=by
 refine⟨a,upS m,rfl,by rw[qk];exact h,?_,?_,by unfold upS;rw[length_map];exact l,λr H' z s e=>k r H' z s (by rw[<- Hu];exact e)⟩
 .unfold upS;rw[map_map];have:=vx p.1;rw[map_map] at this;exact this
 .unfold upS;rw[map_map];have:=vx (p.2.nodup_iff.mpr p.1);rw[map_map] at this;exact this
theorem EX {m:List (Int × Int)} {Q:VK} {E:XK} (h:H a=some (.dK (kvI m))) (p:PM m) (l:m.length<=40) (k : ∀r H',H r=none->am H H'->H' r=some (.dK (kvI (swp m)))->Q (.ref r) H'):rJ [.ref a] H Q E:=by
 refine⟨a,upI m,rfl,by rw[mO];exact h,?_,?_,by unfold upI;rw[length_map];exact l,λr H' z s e=>k r H' z s (by rw[<- Gc];exact e)⟩
 .unfold upI;rw[map_map];have:=vC p.1;rw[map_map] at this;exact this
 .unfold upI;rw[map_map];have:=vC (p.2.nodup_iff.mpr p.1);rw[map_map] at this;exact this
theorem yp (hI:PM mI) {ks:List Int} (h : ∀x∈mI,x.1∈ks) : ∀x∈swp mI,x.1∈ks:=λx F=>by
 obtain⟨y,B,rfl⟩:=mem_map.mp F;obtain⟨z,U,e⟩:=mem_map.mp (hI.2.mem_iff.mp (mem_map.mpr ⟨y,B,rfl⟩))
 show y.2∈ks
 rw[<- e];exact h z U
theorem At:PM ([]:List (α × α)):=⟨by simp,by simp⟩
theorem Cj {b:Bool} {Q:VK} (q:Q (.bl false) H):zt true (.bl b) (.bl b) H Q:=by
 exact⟨b,rfl,b,rfl,by rw[decide_eq_true rfl];exact q⟩
def xl (K:PySem.W.Frag):Sp:=λvs H Q _=>∃(a:Addr) (ns:List Int),vs=[.ref a]/\SqL K H a (ns.map V.int)/\ns.length<=63/\lq tabs H/\∀H',lq tabs H'->Q (.bl true) H'
theorem But.seq (B:But d l H H') (F:H d=none) (hl:H l=none) (h:SqL K H a xs):SqL K H' a xs:=by
 have k : ∀o,H a=some o->H' a=some o:=λo e=>B a o (λz=>by rw[z,F] at e;cases e) (λz=>by rw[z,hl] at e;cases e) e
 rcases h with(h | ⟨o,h⟩) | h
 .exact .inl (.inl (k _ h))
 .exact .inl (.inr ⟨o,k _ h⟩)
 .exact .inr h
theorem But.none {H H':Hp} {d l r:Addr} (B:But d l H H') (n:r≠d/\r≠l) (h:H' r=Option.none):H r=Option.none:=by
 cases e:H r with
 | none=>rfl
 | some o=>rw[B r o n.1 n.2 e] at h;cases h
theorem But.putN {r:Addr} (B:But d l H H') (h:H r=Option.none):But d l H (upd H' r o):=λb u h1 h2 e=>by
 rw[ag (λz=>by rw[z,h] at e;cases e)]
 exact B b u h1 h2 e
structure S4 (H:Hp) (d l p c t tn na va pa dl:Addr) (cs:List (Addr × Str × Addr × List Int)) (us:List V) (Ws:List Wx) (ws:List Str) (ns:List Int) (mS:List (Str × Str)) (mI:List (Int × Int)):Prop where
 hH:iZ H p c t cs us Ws ws ns
 T0:br H tn na va mS mI
 hp:H pa=some (.lst (ns.map V.int))
 hd:H dl=some (.lst ((cs.map (·.2.1)).map V.str))
 tb:bP H
 npa:pa≠d/\pa≠l
 ndl:dl≠d/\dl≠l
 nna:na≠d/\na≠l
 nva:va≠d/\va≠l
section
variable {p dl:Addr} {us:List V} {Ws:List Wx}
theorem S4.same (h:S4 H d l p c t tn na va pa dl cs us Ws ws ns mS mI) (s:am H H'):S4 H' d l p c t tn na va pa dl cs us Ws ws ns mS mI :=
 ⟨h.hH.same s,h.T0.same s,s _ _ h.hp,s _ _ h.hd,h.tb.same s,h.npa,h.ndl,h.nna,h.nva⟩
theorem S4.but (h:S4 H d l p c t tn na va pa dl cs us Ws ws ns mS mI) (D:aC H d l) (B:But d l H H'):S4 H' d l p c t tn na va pa dl cs us Ws ws ns mS mI :=
 ⟨h.hH.keep λa xs e=>B.tup D e,⟨B.tup D h.T0.ht,B _ _ h.nna.1 h.nna.2 h.T0.hn,B _ _ h.nva.1 h.nva.2 h.T0.hv,h.T0.ps,h.T0.pi,h.T0.ls,h.T0.li⟩,B _ _ h.npa.1 h.npa.2 h.hp,B _ _ h.ndl.1 h.ndl.2 h.hd,h.tb.but D B,h.npa,h.ndl,h.nna,h.nva⟩
theorem S4.put {r:Addr} (h:S4 H d l p c t tn na va pa dl cs us Ws ws ns mS mI) (e:H r=some (.dK kvs)) (F:na≠r) (n2:va≠r):S4 (upd H r o) d l p c t tn na va pa dl cs us Ws ws ns mS mI:=by
 have B : ∀b xs,H b=some (.tup xs)->upd H r o b=some (.tup xs):=λb xs q=>by rw[ag (aX q e (by intro z;cases z))];exact q
 refine⟨h.hH.keep B,⟨B _ _ h.T0.ht,by rw[ag F];exact h.T0.hn,by rw[ag n2];exact h.T0.hv,h.T0.ps,h.T0.pi,h.T0.ls,h.T0.li⟩,by rw[ag (aX h.hp e (by intro z;cases z))];exact h.hp,by rw[ag (aX h.hd e (by intro z;cases z))];exact h.hd,λt ht=>by rw[ag (aX (h.tb t ht) e (by intro z;cases z))];exact h.tb t ht,h.npa,h.ndl,h.nna,h.nva⟩
end
def TsN (d l:Addr) (ts:List TQ5):Prop:=∀x∈ts,(x.2.1≠d/\x.2.1≠l)/\x.2.2.1≠d/\x.2.2.1≠l
theorem br.but (h:br H t na va mS mI) (D:aC H d l) (B:But d l H H') (n:(na≠d/\na≠l)/\va≠d/\va≠l):br H' t na va mS mI :=
 ⟨B.tup D h.ht,B _ _ n.1.1 n.1.2 h.hn,B _ _ n.2.1 n.2.2 h.hv,h.ps,h.pi,h.ls,h.li⟩
theorem br.putL {q:Addr} (h:br H t na va mS mI) (e:H q=some (.lst xs)):br (upd H q o) t na va mS mI :=
 ⟨by rw[ag (aX h.ht e (by intro z;cases z))];exact h.ht,by rw[ag (aX h.hn e (by intro z;cases z))];exact h.hn,by rw[ag (aX h.hv e (by intro z;cases z))];exact h.hv,h.ps,h.pi,h.ls,h.li⟩
theorem pO.but {H H':Hp} {d l:Addr} {ts:List TQ5} {ws:List Str} {ns:List Int} (h:pO H ts ws ns) (D:aC H d l) (B:But d l H H') (n:TsN d l ts):pO H' ts ws ns:=λx z=>⟨(h x z).1.but D B (n x z),(h x z).2⟩
theorem S4.putL {H:Hp} {d l p c t tn na va pa dl q:Addr} {cs:List (Addr × Str × Addr × List Int)} {us:List V} {Ws:List Wx} {ws:List Str} {ns:List Int} {mS:List (Str × Str)} {mI:List (Int × Int)} {xs:List V} {o:HO} (h:S4 H d l p c t tn na va pa dl cs us Ws ws ns mS mI) (e:H q=some (.lst xs)) (U:pa≠q) (n2:dl≠q):S4 (upd H q o) d l p c t tn na va pa dl cs us Ws ws ns mS mI:=by
 have F : ∀b xs,H b=some (.tup xs)->upd H q o b=some (.tup xs):=λb xs z=>by rw[ag (aX z e (by intro z;cases z))];exact z
 exact⟨h.hH.keep F,h.T0.putL e,by rw[ag U];exact h.hp,by rw[ag n2];exact h.hd,λt B=>by rw[ag (aX (h.tb t B) e (by intro z;cases z))];exact h.tb t B,h.npa,h.ndl,h.nna,h.nva⟩
theorem Hm {c:Int} {x z:V} : ∃v,atI [x,y,z] (c % 3)=some v/\(v=x\/v=y\/v=z):=by
 have h1:0<=c % 3:=Int.emod_nonneg _ (by decide)
 have h2:c % 3 < 3:=Int.emod_lt_of_pos _ (by decide)
 obtain⟨v,e,B⟩:=gB (xs:=[x,y,z]) h1 (by simpa using h2)
 exact⟨v,e,by simpa using B⟩
theorem A1 (L:List Tn) (m:Tn) (x:Str × List Int):eX m.1 m.2 (tRF (goS L) (goI L) x)=tRF (goS (L++[m])) (goI (L++[m])) x:=by
 rw[show goS (L++[m])=λx=>ld m.1 (goS L x) from funext λx=>gO L m x,show goI (L++[m])=λx=>ld m.2 (goI L x) from funext λx=>gc L m x]
 exact xg _ _ _ _ _
theorem Cb {xs:List (Str × Addr × List Int)} {f:Str->Str} (h:dat ys=(dat xs).map (tRF f g)):ys.length=xs.length:=by
 have:=congrArg List.length h
 unfold dat at this;simpa using this
theorem zc {xs:List (Str × Addr × List Int)} {f:Str->Str} (h:dat ys=(dat xs).map (tRF f g)) (B : ∀a b,f a=f b->a=b) (hn:(xs.map (·.1)).Nodup):(ys.map (·.1)).Nodup:=by
 have e:ys.map (·.1)=(xs.map (·.1)).map f:=by
  have:=congrArg (List.map (λx:Str × List Int=>x.1)) h
  unfold dat at this;simp only[map_map] at this;rw[map_map];exact this
 rw[e];exact pairwise_map.mpr (hn.imp λne z=>ne (B _ _ z))
theorem Dw {xs:List (Str × Addr × List Int)} {f:Str->Str} (h:dat ys=(dat xs).map (tRF f g)) (B : ∀x∈xs,x.2.2.length<=60) : ∀y∈ys,y.2.2.length<=60:=λy F=>by
 have:(y.1,y.2.2)∈dat ys:=mem_map.mpr ⟨y,F,rfl⟩
 rw[h] at this;obtain⟨z,Y,e⟩:=mem_map.mp this;obtain⟨x,U,rfl⟩:=mem_map.mp Y;have e2:srt (x.2.2.map g)=y.2.2:=(Prod.ext_iff.mp e).2
 rw[<- e2,(gU _).length_eq,length_map];exact B x U
structure yd (H:Hp) (tw wa wb:Addr) (sS:List (Str × Str)) (sI:List (Int × Int)) (L:List Tn) (ws:List Str) (ns:List Int):Prop where
 T:br H tw wa wb sS sI
 gS : ∀x,ld sS x=goS L x
 gI : ∀x,ld sI x=goI L x
 ks : ∀x∈sS,∃m∈L,x.1∈m.1.map (·.1)
 kw : ∀x∈sS,x.1∈ws
 ki : ∀x∈sI,x.1∈ns
theorem yd.same {H H':Hp} {z B F:Addr} {sS:List (Str × Str)} {sI:List (Int × Int)} {L:List Tn} {ws:List Str} {ns:List Int} (h:yd H z B F sS sI L ws ns) (s:am H H'):yd H' z B F sS sI L ws ns:=⟨h.T.same s,h.gS,h.gI,h.ks,h.kw,h.ki⟩
theorem HR {z:Addr} {W:Wx} {Q:VK} (h1:WX H b W) (h2:WX H z W) (h : ∀c∈rX W,bS c) (q:Q (.bl false) H):DX K (.ref b) (.ref z) H Q :=
 ⟨_,_,lj h1,lj h2,Ah h,Ah h,Hc W,by rw[PySem.SeqAt.eqv_refl _ (Ah h)];exact q⟩
theorem Bf {a b c rest:TS} (h : ∀R:TS,R=rest->fL a (fL b (fL c R)) D σ H):fL a (fL b (fL c rest)) D σ H:=h rest rfl
theorem BW {v:Int} (h:x∉kf.map (·.1)):bp (kvF kf) (Sum.inr x) (.int v)=kvF (kf++[(x,v)]):=by
 rw[cF]
 .unfold kvF;rw[map_append];rfl
 .unfold bu
  rw[Option.map_eq_none_iff,find?_eq_none];intro y B;obtain⟨z,F,rfl⟩:=mem_map.mp B;exact λq=>h (mem_map.mpr ⟨z,F,Sum.inr.inj (of_decide_eq_true q)⟩)
open L2.Irr
abbrev nz3:List Str:=["_law_script","_law_deal_here","_law_hall","_law_turning","_law_pool_here","_law_names_here","_law_rooms_here","_law_filling","_law_name","_law_room","_law_turnings","_law_cell","_law_back_here","_law_free","_law_whole","_law_some_here","_law_other","_law_one","_law_wish_here","_law_found","_law_on"]
theorem EG (T:Txt w K mg base) (L:Fun K "law" "law" kX f fd) (FY : @Dz1 P w K mg base) (Fa : @Dz0 P w K mg base) (FE : @Hk P w K mg base) (FK:Fn P w K mg base "_law_back" 1 ["_law_leads_here"] (rJ)) (Fh : @EA P w K mg base) (FA:Fn P w K mg base "_law_behind" 1 ["_law_one","_law_other"] (xC)) (Fg : @Ec P w K mg base) (Fs:Fn P w K mg base "turned_filling" 2 ["turning","filling"] (GA)) (FV:Fn P w K mg base "is_turning" 3 ["thing"] (Db)) (Fw : @GF P w K mg base) (Fo : @Cu P w K mg base) (FQ:Fn P w K mg base "leads_on" 9 ["hall","turning"] (GD)):ig P w K mg base CX0 30 f fd ["_law_script"] (xl K):=by
 have nd:=Bb.nd;refine L.ok Bb (λvs H Q E h=>?_) (λcdv A outer s H vs Q E hr h=>?_) <;> obtain⟨a,d7,rfl,hS,e4,d6,k⟩:=h
 .rfl
 have hu:=ue hr;refine⟨_,(af (az 1 (ah FY (aa (pvM 0) (aa ae ac))))
  (af (rL (ah FE (aa (pvM 1) (aa ae ac))) (CF (n:=3) rfl (aW (aA 2) (aW (aA 3) (aW (aA 4) cO)))))
  (af (cH 5 (N:=["_law_name","_law_room"]) (nt:=2) (js:=[]) (aH nz3 (ak kX).names) (cX K (ao ap (pvM 2) ae)) (de (n:=2) rfl (aW (aA 0) (aW (aA 1) cO))) cT aV (pvM 0))
  (af (az 6 cm)
  (af (az 7 cm)
  (bW (bC (cX K (ao ap (pvM 2) ae)) (de (n:=2) rfl (aW (aA 8) (aW (aA 9) cO))) (af (fV hu (pvM 6) (pvM 8) (pvM 9) rfl)
  (ai (fV hu (pvM 7) (pvM 8) (ao sO (pvM 9) (ah Fa (aa (pvM 1) (aa (aE eK T.b_len (aa (pvM 9) ac)) ac)))) rfl))))
  (af (az 10 (bx (aa (pvM 3) ac)))
  (bW (bC (wE K (bG Dt (pvM 0) (bN ae) (bN ae))) (aA 11) (af (az 12 (aI (aa (ah FK (aa (ao ap (pvM 3) ae) ac)) (aa (ah FK (aa (ao ap (pvM 3) ae) ac)) ac))))
  (af (az 13 (aI (aa (ah Fh (aa (pvM 1) (aa (pvM 5) ac))) (aa (ah Fh (aa (pvM 1) (aa (pvM 4) ac))) ac))))
  (ai (bY (eL PySem.F.slot_list_append PySem.F.type_list_append bK (pvM 10) (aa (ao fC (bx (aa (pvM 3) (aa (pvM 12) (aa (pvM 13) ac)))) (aN fH (pvM 11) ae)) ac)))))))
  (af (az 14 (aI (aa cm (aa cm ac))))
  (af (az 15 (aF ny T.b_dict (aa (pvM 6) ac)))
  (af (az 16 (aF ny T.b_dict (aa (pvM 7) ac)))
  (bW (bC (dr (K:=K) rfl (pvM 10)) (aA 17) (af (az 14 (aI (aa (ah FA (aa (ao ap (pvM 14) ae) (aa (ao ap (pvM 17) ae) ac))) (aa (ah FA (aa (ao ap (pvM 14) ae) (aa (ao ap (pvM 17) ae) ac))) ac))))
  (af (az 15 (ah Fg (aa (pvM 17) (aa (pvM 15) ac))))
  (ai (az 16 (ah Fs (aa (pvM 17) (aa (pvM 16) ac))))))))
  (af (aK (PW.pt (xM (ay zB (ah FV (aa (pvM 14) ac)) jT) (xM (ay (zp (K:=K) rfl (xR hr)) (pvM 15) (ah Fg (aa (pvM 14) (aa (pvM 6) ac)))) (uY (ay (Ck (Nat.lt_of_succ_lt hu)) (pvM 16) (ah Fs (aa (pvM 14) (aa (pvM 7) ac)))))))) (ai (aB jT)) aD)
  (bW (bC (cX K (ao ap (pvM 2) ae)) (aA 18) (af (az 19 (ah Fw (aa (pvM 18) (aa (pvM 10) ac))))
  (ai (aK (PW.pt (fK (il (qP (pvM 19))) (eS (ay (rR (nJ hr)) (pvM 19) (ah Fo (aa (pvM 14) (aa (pvM 18) ac))))))) (ai (aB jT)) aD))))
  (af (az 20 (aE (fU rfl) T.b_all (aa (aZ (N:=["_law_one","_law_hall"]) (nt:=1) (js:=[2]) (aH nz3 (ak kX).names) (dr (K:=K) rfl (pvM 10)) (aA 0) aP aV (ah FQ (aa (pvM 1) (aa (pvM 0) ac)))) ac)))
  (ai (aB (GM (Ag (pvM 20)) (kR (gj BB (ah FQ (aa (pvM 2) (aa (pvM 14) ac))) jT)))))))))))))))))))),?_⟩
 refine AS λR hR=>?_
 ctx_has v
 refine⟨a,d7,1,rfl,hS,e4,by decide,by decide,λd l H1 hd hl D1 di=>?_⟩
 have db:=(show bP H from d6).same di
 refine⟨d,l,_,rfl,D1,by decide,by decide,db,λr0 p c t tn na va pa cs us Ws ws ns mS mI H2 d2 hH T0 cP dc du ev c0 c1 fm eM bL co fo ok D2 B2=>?_⟩
 have d5:=db.but D1 B2;have dI:But d l H H2:=λb o h1 h2 e=>B2 b o h1 h2 (di _ _ e)
 clear di B2 D1 db d6;have fl:cs.length<=5:=by
  have:=bL.length_eq
  rw[length_map] at this;omega
 have e1:=hH.hp;have e2:=hH.hc;ctx_has v CS d2 e1
 refine⟨_,e2,λDl c2=>?_⟩
 refine cD ba (λi xs H'=>xs=((cs.take i).map (·.2.1)).map V.str/\am H2 H'/\H' Dl=some (.lst xs)) ⟨rfl,am.upd0 c2,ab⟩ (λi xs H' dP=>by obtain⟨_,s,_⟩:=dP;exact(.of (s _ _ e2))) ?_ ?_
 .rintro i x xs H3 hi Z ⟨rfl,s3,h3⟩
  obtain⟨y,hy,rfl⟩ : ∃y,cs[i]? = some y/\V.ref y.1=x:=by
   rw[List.getElem?_map] at Z;cases e:cs[i]? with
   | none=>rw[e] at Z;cases Z
   | some nm=>rw[e] at Z;exact⟨nm,rfl,Option.some.inj Z⟩
  have g3:=s3 _ _ (hH.ca y (mem_of_getElem? hy)).1;ctx_has v g3 h3
  refine⟨by simp;exact ax (by omega),?_,s3.putN c2,ab⟩
  rw[take_add_one,hy];simp
 rintro xs H3 ⟨rfl,s3,h3⟩
 rw[length_map,take_length] at h3;have S3:S4 H3 d l p c t tn na va pa Dl cs us Ws ws ns mS mI:=⟨hH.same s3,T0.same s3,s3 _ _ du,h3,d5.same s3,ev,D2.ne c2,c0,c1⟩
 have D3:=D2.same s3;have cR:But d l H H3:=dI.trans λb o _ _ e=>s3 _ _ e
 clear hH T0 D2 d5 du e1 e2 d2 s3 c2 h3 dI;intro r hr;have s4:=am.upd0 (o:=.dK []) hr;have cr:upd H3 r (.dK []) r=some (.dK []):=ab
 have ce:=S3.same s4;have D4:=D3.same s4;have nr:=D3.ne hr;have d4:na≠r/\va≠r:=⟨aj S3.T0.hn hr,aj S3.T0.hv hr⟩
 have ei:=cR.none nr hr;have cu:But d l H (upd H3 r (.dK [])):=cR.trans λb o _ _ e=>s4 _ _ e
 generalize upd H3 r (.dK [])=H4 at cr ce D4 cu ⊢;clear s4 hr S3 D3 cR;subst hR;ctx_has v
 intro f hf;have s5:=am.upd0 (o:=.dK []) hf;have cQ:upd H4 f (.dK []) f=some (.dK []):=ab
 have dn:=s5 _ _ cr;have S5:=ce.same s5;have D5:=D4.same s5;have nf:=D4.ne hf;have dw:na≠f/\va≠f:=⟨aj ce.T0.hn hf,aj ce.T0.hv hf⟩
 have eq:r≠f:=aj cr hf
 have d0:=cu.none nf hf;have cV:But d l H (upd H4 f (.dK [])):=cu.trans λb o _ _ e=>s5 _ _ e
 generalize upd H4 f (.dK [])=H5 at cQ dn S5 D5 cV ⊢;clear s5 hf ce D4 cu cr;refine jk (λσ H'=>∃kf v8 v9,σ=[some (.ref a),some (.ref d),some (.ref p),some (.ref tn),some (.ref pa),some (.ref Dl),some (.ref r),some (.ref f),v8,v9,none,none,none,none,none,none,none,none,none,none,none]/\H' r=some (.dK (kvR (xsH cs)))/\H' f=some (.dK (kvF kf))/\kf.map (·.1)=cs.map (·.2.1)/\S4 H' d l p c t tn na va pa Dl cs us Ws ws ns mS mI/\aC H' d l/\But d l H H') ?_ ?_
 .have e1:=S5.hH.hp
  have e2:=S5.hH.hc;ctx_has v e1
  refine⟨_,e2,?_⟩
  refine bR ba (λi σ H'=>∃kf v8 v9,σ=[some (.ref a),some (.ref d),some (.ref p),some (.ref tn),some (.ref pa),some (.ref Dl),some (.ref r),some (.ref f),v8,v9,none,none,none,none,none,none,none,none,none,none,none]/\H' r=some (.dK (kvR (xsH (cs.take i))))/\H' f=some (.dK (kvF kf))/\kf.map (·.1)=(cs.take i).map (·.2.1)/\S4 H' d l p c t tn na va pa Dl cs us Ws ws ns mS mI/\aC H' d l/\But d l H H') ⟨[],_,_,rfl,dn,cQ,rfl,S5,D5,cV⟩ (λi σ H' ef=>by obtain⟨_,_,_,_,_,_,_,S,_⟩:=ef;exact(.of S.hH.hc)) ?_ ?_
  .rintro i x σ H6 hi Z ⟨kf,v8,v9,rfl,aY,b5,aQ,S6,D6,B6⟩
   obtain⟨y,hy,rfl⟩ : ∃y,cs[i]? = some y/\V.ref y.1=x:=by
    rw[List.getElem?_map] at Z;cases e:cs[i]? with
    | none=>rw[e] at Z;cases Z
    | some nm=>rw[e] at Z;exact⟨nm,rfl,Option.some.inj Z⟩
   have aO:=mem_of_getElem? hy;have g6:=(S6.hH.ca y aO).1;have fq:=(S6.hH.ca y aO).2;have fi:i < cs.length:=(List.getElem?_eq_some_iff.mp hy).1
   ctx_has v g6 aY
   refine⟨by unfold kvR xsH;simp;exact ax (by omega),?_⟩
   rw[xv S6.hH.nd hy];have S7:=S6.put (o:=.dK (kvR (xsH (cs.take (i+1))))) aY d4.1 d4.2;have D7:=D6.put (o:=.dK (kvR (xsH (cs.take (i+1))))) nr.1 nr.2;have b7:upd H6 r (.dK (kvR (xsH (cs.take (i+1))))) f=some (.dK (kvF kf)):=by rw[ag eq.symm];exact b5
   have b0:upd H6 r (.dK (kvR (xsH (cs.take (i+1))))) r=some (.dK (kvR (xsH (cs.take (i+1))))):=ab
   have B7:But d l H (upd H6 r (.dK (kvR (xsH (cs.take (i+1)))))):=B6.putN ei
   generalize upd H6 r (.dK (kvR (xsH (cs.take (i+1)))))=H7 at S7 D7 b7 b0 B7 ⊢;have g7:=(S7.hH.ca y aO).2;ctx_has v g7
   have hg:=co y aO;have fh:0 < y.2.2.2.length:=length_pos_iff.mpr hg.1
   have fe:=hg.2.1;refine aS D7 (by rw[length_map];omega) (by rw[length_map];omega) λz H8 z0 z1 D8 B8=>?_
   have S8:=S7.but D7 B8;have a5:=B8 _ _ nr.1 nr.2 b0;have au:=B8 _ _ nf.1 nf.2 b7;have g8:=(S8.hH.ca y aO).2;have eZ:=B7.trans B8;obtain⟨v,hv,eJ⟩:=gB (xs:=y.2.2.2.map V.int) z0 z1;obtain⟨v0,fj,rfl⟩:=mem_map.mp eJ;have eO:y.2.1∉kf.map (·.1):=λq=>by
    rw[aQ] at q;have hn:=S8.hH.nd;have:(cs.take (i+1)).map (·.2.1)=(cs.take i).map (·.2.1)++[y.2.1]:=by rw[take_add_one,hy];simp
    have h2:((cs.take (i+1)).map (·.2.1)).Nodup:=hn.sublist ((take_sublist _ _).map _)
    rw[this,nodup_append] at h2;exact h2.2.2 _ q _ (by simp) rfl
   have eH:kf.length<=5:=by
    have:=congrArg List.length aQ
    rw[length_map,length_map,length_take] at this;omega
   refine⟨z,rfl,_,g8,_,hv,_,au,by unfold kvF;rw[length_map];exact ax (by omega),?_⟩
   rw[BW eO];refine⟨by rw[ag eq];exact a5,kf++[(y.2.1,v0)],ab,?_,S8.put au dw.1 dw.2,D8.put nf.1 nf.2,eZ.putN d0⟩
   rw[map_append,aQ,take_add_one,hy];simp
  .rintro σ H6 ⟨kf,v8,v9,rfl,aY,b5,aQ,S6,D6,B6⟩
   rw[length_map,take_length] at aY aQ;exact⟨kf,_,_,rfl,aY,b5,aQ,S6,D6,B6⟩
 rintro σ H6 ⟨kf,v8,v9,rfl,aY,b5,aQ,S6,D6,B6⟩
 clear S5 D5 cV dn cQ;ctx_has v
 refine⟨by decide,λq hq=>?_⟩
 have s7:=am.upd0 (o:=.lst [V.ref tn]) hq;have cx:upd H6 q (.lst [V.ref tn]) q=some (.lst ([(tn,na,va,mS,mI)].map λx:TQ5=>V.ref x.1)):=ab
 have S7:=S6.same s7;have D7:=D6.same s7;have nq:=D6.ne hq;have cz:But d l H (upd H6 q (.lst [V.ref tn])):=B6.trans λb o _ _ e=>s7 _ _ e
 have b0:=s7 _ _ aY;have b7:=s7 _ _ b5;have dz:=B6.none nq hq;have eo:pa≠q/\Dl≠q:=⟨aj S6.hp hq,aj S6.hd hq⟩
 generalize upd H6 q (.lst [V.ref tn])=H7 at cx S7 D7 cz b0 b7 ⊢;clear s7 S6 D6 B6 aY b5 hq;refine jk (λσ H'=>∃ts aJ a8 a7,σ=[some (.ref a),some (.ref d),some (.ref p),some (.ref tn),some (.ref pa),some (.ref Dl),some (.ref r),some (.ref f),v8,v9,some (.ref q),aJ,a8,a7,none,none,none,none,none,none,none]/\H' q=some (.lst (ts.map λx:TQ5=>V.ref x.1))/\pO H' ts ws ns/\ts.length<=64/\H' r=some (.dK (kvR (xsH cs)))/\H' f=some (.dK (kvF kf))/\S4 H' d l p c t tn na va pa Dl cs us Ws ws ns mS mI) ?_ ?_
 .ctx_has v
  refine⟨_,cz.seq hd hl hS,λq2 dt=>?_⟩
  obtain⟨ms,e6,fk⟩:=my d7 (some 1) (some 13);rw[e6];have s8:=am.upd0 (o:=.lst (ms.map V.int)) dt;have dC:=D7.ne dt;have eT:q2≠q:=(aj cx dt).symm
  refine⟨_,ab,?_⟩
  refine bR bB (λi σ H'=>∃ts aJ a8 a7,σ=[some (.ref a),some (.ref d),some (.ref p),some (.ref tn),some (.ref pa),some (.ref Dl),some (.ref r),some (.ref f),v8,v9,some (.ref q),aJ,a8,a7,none,none,none,none,none,none,none]/\H' q=some (.lst (ts.map λx:TQ5=>V.ref x.1))/\pO H' ts ws ns/\TsN d l ts/\ts.length<=i+1/\H' r=some (.dK (kvR (xsH cs)))/\H' f=some (.dK (kvF kf))/\S4 H' d l p c t tn na va pa Dl cs us Ws ws ns mS mI/\aC H' d l/\But d l H H'/\H' q2=some (.lst (ms.map V.int)))
   ⟨[(tn,na,va,mS,mI)],_,_,_,rfl,s8 _ _ cx,(λx Z=>by rw[mem_singleton.mp Z];exact⟨(S7.same s8).T0,S7.T0.ps,S7.T0.pi,cP,dc⟩),(λx Z=>by rw[mem_singleton.mp Z];exact⟨c0,c1⟩),le_refl _,s8 _ _ b0,s8 _ _ b7,S7.same s8,D7.same s8,cz.trans λb o _ _ e=>s8 _ _ e,ab⟩ (λi σ H' d9=>by obtain⟨_,_,_,_,_,_,_,_,_,_,_,_,_,_,h⟩:=d9;exact(.of h)) ?_ ?_
  .rintro i x σ H8 hi Z ⟨ts,aJ,a8,a7,rfl,aG,T8,N8,cY,a5,au,S8,D8,B8,h8m⟩
   obtain⟨c9,rfl⟩:=uZ Z;have fc:i < 63:=by rw[length_map] at hi;omega
   have e8:=S8.T0.ht;ctx_has v e8
   refine EH S8.T0.hn S8.T0.ps S8.T0.ls λb1 H9 dT s9 h9=>?_
   have S9:=S8.same s9;refine⟨_,S9.T0.ht,_,rfl,?_⟩
   refine EX S9.T0.hv S9.T0.pi S9.T0.li λb2 bw dG av eb=>⟨by decide,λt3 dU=>?_⟩
   have an:=am.upd0 (o:=.tup [.ref b1,.ref b2]) dU;have cZ:br (upd bw t3 (.tup [.ref b1,.ref b2])) t3 b1 b2 (swp mS) (swp mI):=⟨ab,an _ _ (av _ _ h9),an _ _ eb,AA S8.T0.ps,AA S8.T0.pi,by unfold swp;rw[length_map];exact S8.T0.ls,by unfold swp;rw[length_map];exact S8.T0.li⟩
   have en:=D8.ne dT;have ez:=(D8.same s9).ne dG;have ad:=(s9.trans av).trans an;have bQ:=S8.same ad;have bf:=D8.same ad;have da:=T8.same ad;have cS:But d l H (upd bw t3 (.tup [.ref b1,.ref b2])):=B8.trans λb o _ _ e=>ad _ _ e
   have b8:=ad _ _ aG;have ci:=ad _ _ a5;have bZ:=ad _ _ au;have bX:=ad _ _ h8m;generalize upd bw t3 (.tup [.ref b1,.ref b2])=dy at cZ bQ bf da cS b8 ci bZ bX ⊢;clear ad s9 av an h9 eb dU dT dG S9 S8 D8 T8 B8 aG a5 au h8m;refine xS bf (.inl bQ.hd) bQ.hH.nd (by rw[length_map];omega) λbv dp bE cM cI ec ea dN cn cN=>?_
   have n2:=bf.ne cM;have dk:=bQ.but bf cN;refine xF cn (.inl dk.hp) (eM.imp λz=>by omega) (by omega) λbq dD bm cB cA d8 dZ dY d1 c3=>⟨by decide,λt4 em=>?_⟩
   have n3:=cn.ne cB;have aT:=cN.trans c3;have bc:=dk.but cn c3;have dR:=da.but bf aT N8;have er:=cZ.but bf aT ⟨en,ez⟩;have cE:=c3 _ _ n2.1 n2.2 cI;have c5:=aT _ _ nq.1 nq.2 b8;have cC:=aT _ _ nr.1 nr.2 ci;have aU:=aT _ _ nf.1 nf.2 bZ;have c6:=aT _ _ dC.1 dC.2 bX;have B:=am.upd0 (o:=.tup [.ref bv,.ref bq]) em;have dg:br (upd bm t4 (.tup [.ref bv,.ref bq])) t4 bv bq dp dD:=⟨ab,B _ _ cE,B _ _ cA,ec,d8,dN,dY⟩
   have a9:=bc.same B;have bF:=dR.same B;have dd:=er.same B;have dh:=d1.same B;have cU:But d l H (upd bm t4 (.tup [.ref bv,.ref bq])):=(cS.trans aT).trans λb o _ _ e=>B _ _ e
   have bo:=B _ _ c5;have cg:=B _ _ cC;have bV:=B _ _ aU;have bJ:=B _ _ c6;generalize upd bm t4 (.tup [.ref bv,.ref bq])=bh at dg a9 bF dd dh cU bo cg bV bJ ⊢;clear bQ dk bc da dR cZ er bf cn d1 cS cN c3 aT b8 ci bZ bX cI cE c5 cC aU c6 cA B em cM cB;refine⟨⟨_,bo⟩,by decide,λq5 dJ=>⟨by decide,_,ab,?_⟩⟩
   have U:=am.upd0 (o:=.lst [V.ref tn,V.ref t3,V.ref t4]) dJ;have ar:=a9.same U;have df:=bF.same U;have cq:=dd.same U;have cy:=dg.same U;have dv:=dh.same U;have dL:But d l H (upd bh q5 (.lst [V.ref tn,V.ref t3,V.ref t4])):=cU.trans λb o _ _ e=>U _ _ e
   have a3:=U _ _ bo;have bO:=U _ _ cg;have bI:=U _ _ bV;have cL:=U _ _ bJ;generalize upd bh q5 (.lst [V.ref tn,V.ref t3,V.ref t4])=bT at ar df cq cy dv dL a3 bO bI cL ⊢;clear a9 bF dd dg dh cU bo cg bV bJ U dJ;have eC : ∀x∈dp,x.1∈ws:=λx Z=>bL.mem_iff.mp (ea x Z)
   obtain⟨y,hy,yT,yN⟩ : ∃y:TQ5,atI [V.ref tn,V.ref t3,V.ref t4] (c9 % 3)=some (V.ref y.1)/\(br bT y.1 y.2.1 y.2.2.1 y.2.2.2.1 y.2.2.2.2/\rV ws ns y.2.2.2)/\(y.2.1≠d/\y.2.1≠l)/\y.2.2.1≠d/\y.2.2.1≠l:=by
    obtain⟨v,e,h⟩:=Hm (c:=c9) (x:=V.ref tn) (y:=V.ref t3) (z:=V.ref t4);rcases h with rfl | rfl | rfl
    .exact⟨(tn,na,va,mS,mI),e,⟨ar.T0,ar.T0.ps,ar.T0.pi,cP,dc⟩,c0,c1⟩
    .exact⟨(t3,b1,b2,swp mS,swp mI),e,⟨cq,cq.ps,cq.pi,zT ar.T0.ps cP,yp ar.T0.pi dc⟩,en,ez⟩
    .exact⟨(t4,bv,bq,dp,dD),e,⟨cy,cy.ps,cy.pi,eC,dZ⟩,n2,n3⟩
   refine⟨_,hy,_,a3,by rw[length_map];exact ax (by omega),ts++[y],by rw[ab,map_append];rfl,?_,?_,by simp;omega,by rw[ag (aX bO a3 (by intro z;cases z))];exact bO,by rw[ag (aX bI a3 (by intro z;cases z))];exact bI,ar.putL a3 eo.1 eo.2,dv.put nq.1 nq.2,dL.putN dz,by rw[ag eT];exact cL⟩
   .intro x Z
    rcases mem_append.mp Z with z | z
    .exact⟨(df x z).1.putL a3,(df x z).2⟩
    .rw[mem_singleton.mp z];exact⟨yT.1.putL a3,yT.2⟩
   .intro x Z
    rcases mem_append.mp Z with z | z
    .exact N8 x z
    .rw[mem_singleton.mp z];exact yN
  .rintro σ H8 ⟨ts,aJ,a8,a7,rfl,aG,T8,N8,cY,a5,au,S8,D8,B8,h8m⟩
   rw[length_map] at cY;exact⟨ts,_,_,_,rfl,aG,T8,by omega,a5,au,S8⟩
 rintro σ H8 ⟨ts,aJ,a8,a7,rfl,aG,T8,cY,a5,au,S8⟩
 clear S7 D7 cz cx b0 b7 hS hd hl nq dz nr nf ei d0 ev c0 c1;have hs : ∀x∈dat (xsH cs),x.2.Pairwise (·<=·):=λx Z=>by
  obtain⟨y,hy,rfl⟩:=mem_map.mp Z;obtain⟨z,hz,rfl⟩:=mem_map.mp hy;exact(co z hz).2.2.1.imp λh=>by omega
 have et:(kf.map (·.1)).Nodup:=by rw[aQ];exact S8.hH.nd
 have eH:kf.length<=5:=by
  have:=congrArg List.length aQ
  rw[length_map,length_map] at this;omega
 refine Bf λR hR=>?_
 ctx_has v
 intro wa ck wb bp;refine⟨by decide,λtw bu=>⟨_,(((am.upd0 ck).upd_new bp).upd_new bu) _ _ a5,λrr bi=>⟨_,((((am.upd0 ck).upd_new bp).upd_new bu).upd_new bi) _ _ au,λff bg=>?_⟩⟩⟩
 have x1:=am.upd0 (o:=.dK []) ck;have x2:=x1.upd_new (o:=.dK []) bp;have x3:=x2.upd_new (o:=.tup [.ref wa,.ref wb]) bu;have x4:=x3.upd_new (o:=.dK (kvR (xsH cs))) bi;have x5:=x4.upd_new (o:=.dK (kvF kf)) bg;have bk:=x1.free bp;have cf:=x3.free bi;have bH:=x4.free bg;have W9:br (upd (upd (upd (upd (upd H8 wa (.dK [])) wb (.dK [])) tw (.tup [.ref wa,.ref wb])) rr (.dK (kvR (xsH cs)))) ff (.dK (kvF kf))) tw wa wb [] [] :=
  ⟨((am.upd0 bi).upd_new bg) _ _ ab,((((am.upd0 bp).upd_new bu).upd_new bi).upd_new bg) _ _ ab,(((am.upd0 bu).upd_new bi).upd_new bg) _ _ ab,At,At,by decide,by decide⟩
 have dA:upd (upd (upd (upd (upd H8 wa (.dK [])) wb (.dK [])) tw (.tup [.ref wa,.ref wb])) rr (.dK (kvR (xsH cs)))) ff (.dK (kvF kf)) rr=some (.dK (kvR (xsH cs))):=(am.upd0 bg) _ _ ab
 have dF:upd (upd (upd (upd (upd H8 wa (.dK [])) wb (.dK [])) tw (.tup [.ref wa,.ref wb])) rr (.dK (kvR (xsH cs)))) ff (.dK (kvF kf)) ff=some (.dK (kvF kf)):=ab
 generalize upd (upd (upd (upd (upd H8 wa (.dK [])) wb (.dK [])) tw (.tup [.ref wa,.ref wb])) rr (.dK (kvR (xsH cs)))) ff (.dK (kvF kf))=H9 at x5 W9 dA dF ⊢;clear x1 x2 x3 x4 bp bu bi bg;have ej:RmT H8 (xsH cs):=λx Z=>by
  obtain⟨z,hz,rfl⟩:=mem_map.mp Z;exact(S8.hH.ca z hz).2
 subst hR;refine jk (λσ H'=>∃tw wa wb sS sI rr ff ys bb,σ=[some (.ref a),some (.ref d),some (.ref p),some (.ref tn),some (.ref pa),some (.ref Dl),some (.ref r),some (.ref f),v8,v9,some (.ref q),aJ,a8,a7,some (.ref tw),some (.ref rr),some (.ref ff),bb,none,none,none]/\am H8 H'/\yd H' tw wa wb sS sI (dtT ts) ws ns/\H8 wa=none/\H8 wb=none/\H' rr=some (.dK (kvR ys))/\RmT H' ys/\dat ys=(dat (xsH cs)).map (tRF (goS (dtT ts)) (goI (dtT ts)))/\H' ff=some (.dK (kvF (kf.map λx=>(goS (dtT ts) x.1,goI (dtT ts) x.2))))) ?_ ?_
 .ctx_has v
  refine⟨_,x5 _ _ aG,?_⟩
  refine bR bB (λi σ H'=>∃tw wa wb sS sI rr ff ys bb,σ=[some (.ref a),some (.ref d),some (.ref p),some (.ref tn),some (.ref pa),some (.ref Dl),some (.ref r),some (.ref f),v8,v9,some (.ref q),aJ,a8,a7,some (.ref tw),some (.ref rr),some (.ref ff),bb,none,none,none]/\am H8 H'/\yd H' tw wa wb sS sI (dtT (ts.take i)) ws ns/\H8 wa=none/\H8 wb=none/\H' rr=some (.dK (kvR ys))/\RmT H' ys/\dat ys=(dat (xsH cs)).map (tRF (goS (dtT (ts.take i))) (goI (dtT (ts.take i))))/\H' ff=some (.dK (kvF (kf.map λx=>(goS (dtT (ts.take i)) x.1,goI (dtT (ts.take i)) x.2))))/\H8 rr=none/\H8 ff=none)
   ⟨tw,wa,wb,[],[],rr,ff,xsH cs,_,rfl,x5,⟨W9,λx=>ze x,λx=>ze x,λx Z=>(by cases Z),λx Z=>(by cases Z),λx Z=>(by cases Z)⟩,ck,bk,dA,ej.same x5,by
    conv=>lhs;rw[<- map_id (dat (xsH cs))]
    exact map_congr_left λx Z=>(AF (hs x Z)).symm,by rw[show(kf.map λx=>(goS (dtT (ts.take 0)) x.1,goI (dtT (ts.take 0)) x.2))=kf from List.map_id'' (λx=>rfl) kf];exact dF,cf,bH⟩ (λi σ H' e0=>by obtain⟨_,_,_,_,_,_,_,_,_,_,s,_⟩:=e0;exact(.of (s _ _ aG))) ?_ ?_
  .rintro i x σ bw hi Z ⟨tw,wa,wb,sS,sI,rr,ff,ys,bb,rfl,av,Y,cc,bk,aL,b4,a4,a2,cf,bH⟩
   obtain⟨y,hy,rfl⟩:=Al Z;have aO:=mem_of_getElem? hy;obtain⟨Ty,Ky⟩:=T8 y aO;have e7:=Y.T.ht;have bd:=Ty.same av;have ey:=bd.ht;ctx_has v e7 ey
   refine Gd Y.T.hn bd.hn Y.T.ps Ky.ps Y.T.ls bd.ls λbt c4 dy cK an dV eu e9 eg=>?_
   have be:=Y.same an;have cb:=bd.same an;refine⟨_,be.T.ht,_,rfl,_,cb.ht,_,rfl,?_⟩
   refine Hq be.T.hv cb.hv Y.T.pi Ky.pi Y.T.li bd.li λb3 cw bE cF a6 bS ed eD eB=>⟨by decide,λcW c7=>?_⟩
   have aM:=am.upd0 (o:=.tup [.ref bt,.ref b3]) c7;have ee : ∀x∈c4,x.1∈ws:=λx Z=>by
    rcases eg x Z with z | z <;> obtain⟨u,hu,e⟩:=mem_map.mp z <;> rw[<- e]
    .exact Y.kw u hu
    .exact Ky.ks u hu
   have dS : ∀x∈cw,x.1∈ns:=λx Z=>by
    rcases eB x Z with z | z <;> obtain⟨u,hu,e⟩:=mem_map.mp z <;> rw[<- e]
    .exact Y.ki u hu
    .exact Ky.ki u hu
   have lS:c4.length<=40:=by
    have:=eG eu.1 (ys:=ws) (λx Z=>by obtain⟨u,hu,rfl⟩:=mem_map.mp Z;exact ee u hu)
    rw[length_map] at this;omega
   have lI:cw.length<=40:=by
    have:=eG ed.1 (ys:=ns) (λx Z=>by obtain⟨u,hu,rfl⟩:=mem_map.mp Z;exact dS u hu)
    rw[length_map] at this;omega
   have aR:yd (upd bE cW (.tup [.ref bt,.ref b3])) cW bt b3 c4 cw (dtT (ts.take (i+1))) ws ns:=by
    refine⟨⟨ab,aM _ _ (a6 _ _ dV),aM _ _ bS,eu,ed,lS,lI⟩,λx=>by rw[dE hy,gO,e9,Y.gS],λx=>by rw[dE hy,gc,eD,Y.gI],λx Z=>?_,ee,dS⟩
    rw[dE hy];rcases eg x Z with z | z
    .obtain⟨u,hu,e⟩:=mem_map.mp z
     obtain⟨m,hm,q⟩:=Y.ks u hu;exact⟨m,mem_append_left _ hm,by rw[<- e];exact q⟩
    .exact⟨_,mem_append_right _ (by simp),z⟩
   have a0:=(an.trans a6).trans aM;have fa:H8 bt=none:=av.free cK
   have fb:H8 b3=none:=(av.trans an).free cF
   generalize upd bE cW (.tup [.ref bt,.ref b3])=bm at aR a0 ⊢;clear aM c7 a6 bS an dV be cb cK cF;have aq:=av.trans a0;have cj : ∀u z,goS (dtT (ts.take i)) u=goS (dtT (ts.take i)) z->u=z:=λu z e=>dj Y.T.ps (by rw[Y.gS,Y.gS];exact e)
   have cp:((xsH cs).map (·.1)).Nodup:=by rw[map_map];exact S8.hH.nd
   have eQ:=Cb a4;rw[length_map] at eQ;have cJ:=Ty.same aq;refine⟨y.1,y.2.1,y.2.2.1,rr,y.2.2.2.1,y.2.2.2.2,ys,rfl,cJ,⟨(aj Ty.hn cf).symm,(aj Ty.hv cf).symm⟩,a0 _ _ aL,b4.same a0,zc a4 cj cp,by omega,Dw a4 (λx Z=>by
    obtain⟨z,hz,rfl⟩:=mem_map.mp Z;exact le_trans (co z hz).2.1 (by decide)),λeA eI bh d3 B e5 dH e3=>?_⟩
   refine⟨y.1,y.2.1,y.2.2.1,ff,y.2.2.2.1,y.2.2.2.2,_,rfl,cJ.same B,⟨(aj Ty.hn bH).symm,(aj Ty.hv bH).symm⟩,B _ _ (a0 _ _ a2),by
    rw[map_map];exact pairwise_map.mpr ((pairwise_map.mp et).imp λne e=>ne (cj _ _ e)),by rw[length_map];omega,λeV bT ek U bA=>?_⟩
   refine⟨bt,b3,c4,cw,eA,rfl,eV,rfl,(aq.trans B).trans U,(aR.same B).same U,fa,fb,eI,U _ _ e5,dH.same U,?_,?_,aq.free d3,(aq.trans B).free ek⟩
   .rw[e3,a4,map_map,dE hy]
    exact map_congr_left λx _=>A1 _ _ _
   .rw[bA,map_map,dE hy]
    refine congrArg (λz=>some (HO.dK (kvF z))) (map_congr_left λx _=>?_)
    rw[gO,gc];rfl
  .rintro σ bw ⟨tw,wa,wb,sS,sI,rr,ff,ys,bb,rfl,av,Y,cc,bk,aL,b4,a4,a2,cf,bH⟩
   rw[length_map,take_length] at Y a4 a2;exact⟨tw,wa,wb,sS,sI,rr,ff,ys,_,rfl,av,Y,cc,bk,aL,b4,a4,a2⟩
 rintro σ bw ⟨tw,wa,wb,sS,sI,rr,ff,ys,bb,rfl,av,Y,cc,bk,aL,b4,a4,a2⟩
 refine aw λR hR=>?_
 ctx_has v
 refine⟨tw,wa,wb,sS,sI,ws,rfl,Y.T,ok,Y.kw,λdy an=>?_⟩
 refine Cj ⟨false,rfl,?_⟩
 rw[if_neg (by decide)]
 have ad:=av.trans an;have be:=Y.same an;have cp:((xsH cs).map (·.1)).Nodup:=by rw[map_map];exact S8.hH.nd
 have eW : ∀x,eX sS sI x=tRF (goS (dtT ts)) (goI (dtT ts)) x:=λx=>by
  unfold eX tRF;rw[show ld sI=goI (dtT ts) from funext Y.gI,Y.gS]
 refine⟨tw,wa,wb,r,sS,sI,xsH cs,rfl,be.T,⟨aj a5 cc,aj a5 bk⟩,ad _ _ a5,ej.same ad,cp,by rw[length_map];omega,(λx Z=>by
  obtain⟨z,hz,rfl⟩:=mem_map.mp Z;exact le_trans (co z hz).2.1 (by decide)),λp2 zs bE eN a6 bS dX dB=>?_⟩
 have dq:dat ys=dat zs:=by
  rw[a4,dB];exact map_congr_left λx _=>(eW x).symm
 have c8:dat zs=(dat (xsH cs)).map (tRF (goS (dtT ts)) (goI (dtT ts))):=dq.symm.trans a4
 have cj : ∀u z,goS (dtT ts) u=goS (dtT ts) z->u=z:=λu z e=>dj Y.T.ps (by rw[Y.gS,Y.gS];exact e)
 obtain⟨la,al⟩:=BU (K:=K) (H:=bE) dq (zc c8 cj cp) ((b4.same an).same a6) dX;refine⟨rr,rfl,p2,rfl,_,_,a6 _ _ (an _ _ aL),bS,la,al,false,rfl,?_⟩
 rw[if_neg (by decide)]
 have bD:=ad.trans a6;refine⟨tw,wa,wb,f,sS,sI,kf,rfl,be.T.same a6,⟨aj au cc,aj au bk⟩,bD _ _ au,et,by omega,λp3 bm eY aM dm=>?_⟩
 have aU:=aM _ _ (a6 _ _ (an _ _ a2));rw[show(kf.map λx=>(ld sS x.1,ld sI x.2))=kf.map λx=>(goS (dtT ts) x.1,goI (dtT ts) x.2) from map_congr_left λx _=>by rw[Y.gS,Y.gI]] at dm
 refine⟨p3,rfl,_,aU,dm,(λx Z=>by obtain⟨y,_,rfl⟩:=mem_map.mp Z;rfl),?_⟩
 have aq:=bD.trans aM;have aR:=(be.same a6).same aM;clear dm aU eY eN bS dX dB c8 dq la al be Y an a6 aM ad bD aL b4 a4 a2;subst hR;refine jk (λσ H'=>∃b6 bz,σ=[some (.ref a),some (.ref d),some (.ref p),some (.ref tn),some (.ref pa),some (.ref Dl),some (.ref r),some (.ref f),v8,v9,some (.ref q),aJ,a8,a7,some (.ref tw),some (.ref rr),some (.ref ff),bb,b6,bz,none]/\am bm H') ?_ ?_
 .have bc:=S8.same aq
  have e1:=bc.hH.hp;have e2:=bc.hH.wa.ht;ctx_has v e1
  refine⟨_,e2,?_⟩
  refine bR ba (λi σ H'=>∃b6 bz,σ=[some (.ref a),some (.ref d),some (.ref p),some (.ref tn),some (.ref pa),some (.ref Dl),some (.ref r),some (.ref f),v8,v9,some (.ref q),aJ,a8,a7,some (.ref tw),some (.ref rr),some (.ref ff),bb,b6,bz,none]/\am bm H') ⟨_,_,rfl,am.refl _⟩ (λi σ H' ew=>by obtain⟨_,_,_,s⟩:=ew;exact(.of (s _ _ e2))) ?_ ?_
  .rintro i x σ bh hi Z ⟨b6,bz,rfl,B⟩
   obtain⟨w0,W,rfl,fn,eh,hm⟩:=(bc.hH.wa.same B).at Z;have b9:=bc.hH.wa.ok W hm;ctx_has v
   refine⟨w0,q,W,ts,ws,ns,rfl,eh,B _ _ (aq _ _ aG),(T8.same aq).same B,b9,λv bT U hv=>?_⟩
   cases e:gG (dtT ts) W with
   | none =>
    rw[e] at hv;cases hv
    show ite _ _ _
    rw[if_neg (by rw[decide_eq_true rfl];decide)]
    exact B.trans U
   | some V0 =>
    rw[e] at hv;obtain⟨b,rfl,hb⟩:=hv
    show ite _ _ _
    rw[if_pos (by rw[decide_eq_false (by intro z;cases z)])]
    refine⟨tw,w0,wa,wb,sS,sI,W,rfl,(aR.T.same B).same U,bU eh λb xs e=>U _ _ e,ma b9,λv' dO bj dQ=>?_⟩
    rw[mY aR.gS aR.gI aR.T.pi (λm hm=>(qW T8 ts.length m (by rw[take_length];exact hm)).pi) e] at dQ
    obtain⟨b',rfl,eU⟩:=dQ;refine HR (bU hb λb xs e=>bj _ _ e) eU (λc hc=>?_) ⟨false,rfl,?_⟩
    .exact bc.hH.wa.nm c (kU (xD b9 _ (λm hm=>qW T8 ts.length m (by rw[take_length];exact hm)) _ e) c hc)
    .rw[if_neg (by decide)]
     exact(B.trans U).trans bj
  .rintro σ bh ⟨b6,bz,rfl,B⟩
   exact⟨_,_,rfl,B⟩
 rintro σ bh ⟨b6,bz,rfl,B⟩
 ctx_has v
 have bn:=aq.trans B;have a9:=S8.same bn;have bF:=T8.same bn;have eE : ∀m∈dtT ts,rV ws ns m:=λm hm=>qW T8 ts.length m (by rw[take_length];exact hm)
 refine⟨_,bn _ _ aG,λD hD=>?_⟩
 refine cD bB (λi xs H'=>∃bs:List Bool,xs=bs.map V.bl/\(bs.all id=true->∀m∈dtT (ts.take i),iC m.1 m.2 (dat (xsH cs)) Ws)/\bs.length=i/\am bh H'/\H' D=some (.lst xs)) ⟨[],rfl,(λ_ m hm=>by cases hm),rfl,am.upd0 hD,ab⟩ (λi xs H' el=>by obtain⟨_,_,_,_,s,_⟩:=el;exact(.of (s _ _ (bn _ _ aG)))) ?_ ?_
 .rintro i x xs bT hi Z ⟨bs,rfl,cv,eR,U,bA⟩
  obtain⟨y,hy,rfl⟩:=Al Z;have aO:=mem_of_getElem? hy;obtain⟨Ty,Ky⟩:=bF y aO;ctx_has v
  refine⟨p,c,t,y.1,y.2.1,y.2.2.1,y.2.2.2.1,y.2.2.2.2,cs,us,Ws,ws,ws,ns,rfl,a9.tb.same U,a9.hH.same U,Ty.same U,⟨λW hW V hV=>eF Ky.ps Ky.pi (λc hc=>gi Ky.ps Ky.ks hc) (jS Ky.pi Ky.ki) (a9.hH.wa.ok W hW) hV,a9.hH.wa.nm⟩,λb dO bj hb=>?_⟩
  have fg:i < 64:=by rw[length_map] at hi;omega
  refine⟨bj _ _ bA,by rw[length_map];exact ax (by omega),bs++[b],by simp,λha m hm=>?_,by simp;omega,(U.trans bj).putN hD,ab⟩
  rw[List.all_append,Bool.and_eq_true] at ha;rw[dE hy] at hm;rcases mem_append.mp hm with z | z
  .exact cv ha.1 m z
  .rw[mem_singleton.mp z]
   exact hb.mp (by simpa using ha.2)
 rintro xs bT ⟨bs,rfl,cv,eR,U,bA⟩
 rw[length_map,take_length] at cv;refine⟨D,rfl,bs,bA,?_⟩
 have bM:=a9.tb.same U;refine cG (λh=>k _ bM) (λh=>?_)
 have dM:bs.all id=true:=by simpa using h
 have a1:=(aR.same B).same U;have ar:=a9.same U;refine⟨p,c,t,tw,wa,wb,sS,sI,cs,us,Ws,ws,ws,ns,rfl,bM,ar.hH,a1.T,⟨λW hW V hV=>eF a1.T.ps a1.T.pi (λc hc=>gi a1.T.ps a1.kw hc) (jS a1.T.pi a1.ki) (ar.hH.wa.ok W hW) hV,ar.hH.wa.nm⟩,λb dO bj hb=>?_⟩
 cases hb.mpr (yw hs ar.hH.wa.ok eE (cv dM) a1.gS a1.gI a1.T.pi a1.ks);exact⟨true,rfl,true,rfl,by rw[decide_eq_true rfl];exact k _ (bM.same bj)⟩
theorem ft6
  (F0:Fn P w K mg base "turned_unlike" 3 ["turning","wish"] (bH "unlike")) (U:mg "turned_unlike" = some (.ref f0)) (B:nsIn K a "unlike" = some (some (.ref f0))) (F1:Fn P w K mg base "turned_many" 3 ["turning","wish"] (bH "many")) (m1:mg "turned_many" = some (.ref f1)) (n1:nsIn K a "many" = some (some (.ref f1))) (F2:Fn P w K mg base "turned_sum" 3 ["turning","wish"] (bH "sum")) (m2:mg "turned_sum" = some (.ref f2)) (n2:nsIn K a "sum" = some (some (.ref f2))) (F3:Fn P w K mg base "turned_table" 3 ["turning","wish"] (bH "table")) (F:mg "turned_table" = some (.ref f3)) (n3:nsIn K a "table" = some (some (.ref f3))) (F4:Fn P w K mg base "turned_way" 3 ["turning","wish"] (bH "way")) (Z:mg "turned_way" = some (.ref f4)) (n4:nsIn K a "way" = some (some (.ref f4))) (Y:Fn P w K mg base "turned_behind" 3 ["turning","wish"] (bH "behind")) (m5:mg "turned_behind" = some (.ref f5)) (n5:nsIn K a "behind" = some (some (.ref f5))) :
  ∀y∈jc,FnT P w K mg base a y 4 ["turning","wish"] (bH y):=by
 intro y z;simp only[jc,mem_cons,not_mem_nil,or_false] at z;rcases z with rfl | rfl | rfl | rfl | rfl | rfl
 .exact dt F0 U B (by decide) λ_ _ _ _ h=>h
 .exact dt F1 m1 n1 (by decide) λ_ _ _ _ h=>h
 .exact dt F2 m2 n2 (by decide) λ_ _ _ _ h=>h
 .exact dt F3 F n3 (by decide) λ_ _ _ _ h=>h
 .exact dt F4 Z n4 (by decide) λ_ _ _ _ h=>h
 .exact dt Y m5 n5 (by decide) λ_ _ _ _ h=>h
theorem kB (h:x ≠ "same") : ∀vs H Q E,io x vs H Q E->bH x vs H Q E:=λvs H Q E q=>by
 unfold io at q
 rwa [if_neg h] at q
theorem ft7 {z:Addr}
  (F0:Fn P w K mg base "turned_unlike" 3 ["turning","wish"] (bH "unlike")) (Y:mg "turned_unlike" = some (.ref f0)) (F:nsIn K a "unlike" = some (some (.ref f0))) (F1:Fn P w K mg base "turned_many" 3 ["turning","wish"] (bH "many")) (m1:mg "turned_many" = some (.ref f1)) (n1:nsIn K a "many" = some (some (.ref f1))) (F2:Fn P w K mg base "turned_sum" 3 ["turning","wish"] (bH "sum")) (m2:mg "turned_sum" = some (.ref f2)) (n2:nsIn K a "sum" = some (some (.ref f2))) (F3:Fn P w K mg base "turned_table" 3 ["turning","wish"] (bH "table")) (U:mg "turned_table" = some (.ref f3)) (n3:nsIn K a "table" = some (some (.ref f3))) (F4:Fn P w K mg base "turned_way" 3 ["turning","wish"] (bH "way")) (m4:mg "turned_way" = some (.ref f4)) (n4:nsIn K a "way" = some (some (.ref f4))) (Z:Fn P w K mg base "turned_behind" 3 ["turning","wish"] (bH "behind")) (m5:mg "turned_behind" = some (.ref f5)) (n5:nsIn K a "behind" = some (some (.ref f5)))
  (F6:Fn P w K mg base "turned_same" 6 ["turning","wish"] ia) (m6:mg "turned_same" = some (.ref z)) (n6:nsIn K a "same" = some (some (.ref z))) :
  ∀y∈rM,FnT P w K mg base a y 6 ["turning","wish"] (io y):=by
 intro y B;simp only[rM,jc,mem_cons,not_mem_nil,or_false] at B;rcases B with rfl | rfl | rfl | rfl | rfl | rfl | rfl
 .exact dt F6 m6 n6 (by decide) λvs H Q E q=>by
   unfold io at q
   rwa [if_pos rfl] at q
 .exact dt F0 Y F (by decide) (kB (show ¬ (Str.ofString "unlike" = Str.ofString "same") by decide+kernel))
 .exact dt F1 m1 n1 (by decide) (kB (show ¬ (Str.ofString "many" = Str.ofString "same") by decide+kernel))
 .exact dt F2 m2 n2 (by decide) (kB (show ¬ (Str.ofString "sum" = Str.ofString "same") by decide+kernel))
 .exact dt F3 U n3 (by decide) (kB (show ¬ (Str.ofString "table" = Str.ofString "same") by decide+kernel))
 .exact dt F4 m4 n4 (by decide) (kB (show ¬ (Str.ofString "way" = Str.ofString "same") by decide+kernel))
 .exact dt Z m5 n5 (by decide) (kB (show ¬ (Str.ofString "behind" = Str.ofString "same") by decide+kernel))
abbrev AT (K:PySem.W.Frag) (x:Str) (f:Addr):Prop:=nsIn K mainGlobals x=some (some (Value.ref f))
abbrev LK (K:PySem.W.Frag) (f:Addr) (x:Str) (st:Stmt) (oc:Value) (od:Option Addr) (sl:Array (Option Value)) (kV z pm:Value) (B:Option Addr) (cd ct:Value):Prop:=K.lookup f=some ⟨oc,od,.func (fnOf x x (cN st) (bT st) (ak st) .none kV z pm B cd ct),sl⟩
abbrev CK (K:PySem.W.Frag) (cd:Value) (x:Str):Prop:=codeIn K cd x=true
abbrev KK (K:PySem.W.Frag) (f:Addr):Prop:=keepIn K (Value.ref f)=true
abbrev NB (K:PySem.W.Frag) (x:Str):Prop:=nsIn K mainGlobals x=some none
theorem zw {us:List α} (h:us.length=1) : ∃u0,us=[u0]:=by
 match us,h with
 | [u0],_=>exact⟨u0,rfl⟩
theorem Hh {us:List α} (h:us.length=2) : ∃u0 z,us=[u0,z]:=by
 match us,h with
 | [u0,z],_=>exact⟨u0,z,rfl⟩
theorem GX {us:List α} (h:us.length=3) : ∃u0 B z,us=[u0,B,z]:=by
 match us,h with
 | [u0,B,z],_=>exact⟨u0,B,z,rfl⟩
theorem Gh {us:List α} (h:us.length=4) : ∃u0 F z B,us=[u0,F,z,B]:=by
 match us,h with
 | [u0,F,z,B],_=>exact⟨u0,F,z,B,rfl⟩
theorem G2 {us:List α} (h:us.length=5) : ∃u0 U B F z,us=[u0,U,B,F,z]:=by
 match us,h with
 | [u0,U,B,F,z],_=>exact⟨u0,U,B,F,z,rfl⟩
local macro_rules | `(tactic| ctx_has b1) => `(tactic| exact λ_ _ _ _ _ _ us hl => by obtain ⟨u0, ee⟩ := zw hl; subst ee; rfl)
local macro_rules | `(tactic| ctx_has b2) => `(tactic| exact λ_ _ _ _ _ _ us hl => by obtain ⟨u0, u1, ee⟩ := Hh hl; subst ee; rfl)
local macro_rules | `(tactic| ctx_has b3) => `(tactic| exact λ_ _ _ _ _ _ us hl => by obtain ⟨u0, u1, u2, ee⟩ := GX hl; subst ee; rfl)
local macro_rules | `(tactic| ctx_has b4) => `(tactic| exact λ_ _ _ _ _ _ us hl => by obtain ⟨u0, u1, u2, u3, ee⟩ := Gh hl; subst ee; rfl)
local macro_rules | `(tactic| ctx_has b5) => `(tactic| exact λ_ _ _ _ _ _ us hl => by obtain ⟨u0, u1, u2, u3, u4, ee⟩ := G2 hl; subst ee; rfl)
local macro_rules | `(tactic| ctx_has bb) => `(tactic| first | ctx_has b1 | ctx_has b2 | ctx_has b3 | ctx_has b4 | ctx_has b5)
def DF (K:PySem.W.Frag) (x:Str) (st:Stmt) (f:Addr):Prop:=∃(oc:Value) (od B:Option Addr) (sl:Array (Option Value)) (kV z pm cd ct:Value),AT K x f/\LK K f x st oc od sl kV z pm B cd ct/\CK K cd x/\KK K f
theorem dfI {B:Option Addr} {kV z:Value} (a:nsIn K mainGlobals x=some (some (Value.ref f))) (l:K.lookup f=some ⟨oc,od,.func (fnOf x x (cN st) (bT st) (ak st) .none kV z pm B cd ct),sl⟩) (c:codeIn K cd x=true) (k:keepIn K (Value.ref f)=true):DF K x st f:=⟨_,_,_,_,_,_,_,_,_,a,l,c,k⟩
theorem dfM (X:K.In h) (G:h.Ns mainGlobals mg) (d:DF K x st f):mg x=some (.ref f):=by
 obtain⟨_,_,_,_,_,_,_,_,_,a,_⟩:=d;exact mg_of X G a
theorem dfL (X:K.In h) (G:h.Ns mainGlobals mg) (d:DF K x st f) (z : ∀(kV doc pm:Value) (B:Option Addr) (cdv ct:Value) (us:List Value),us.length=ps.length->bindArgs (fnOf x x (cN st) (bT st) (ak st) .none kV doc pm B cdv ct) ⟨us,[]⟩=pure (ps.zip us):=by ctx_has bb):FnL K mg x st ps:=by
 obtain⟨_,_,_,_,_,_,_,_,_,a,l,c,k⟩:=d;exact ET X G a l c k z
theorem EW {l:PySem.W.OpenLaw} (X:K.In h) (G:h.Ns mainGlobals mg) (bM:mg "law" = some (.ref fa))
  {ay:Addr} {bo:Option Addr} {aR:Nat} {aS:Array (Option Value)} {ar:Tok} {au:Tok} {aq:Tok} {av:Tok}
  {bq:Tok}
  {z:Addr} {ae:Array DictEntry} {af:Nat}
  {a2 a4 a6:Addr} {bp aP aW aY aj aN br bh be aI ap aL aU aw a1 az an ax:Value} {bc bt bs bi aT a0:Option Addr} {aO aM bv:Array (Option Value)}
  {f0 f1 f2 f3 f4 f5 f6 f7 f8 f9 di c2 cK cU bd bw bu bg bm bk c8 bf c1 cT bU cX cR cn cM cp dd b4 bC c9 bI bY cc bL cI b8 ci b9 cA cj b2 dc bZ bJ c4:Addr}
  (d0:DF K "_law_draw" gJ f0)
  (d1:DF K "_law_deal" eV f1)
  (d2:DF K "_law_names" dY f2)
  (d3:DF K "_law_pool" iq f3)
  (d4:DF K "_law_rooms" eA f4)
  (d5:DF K "_law_some" gP f5)
  (d6:DF K "_law_bounds" fe f6)
  (d7:DF K "_law_sum" eQ f7)
  (d8:DF K "_law_rows" eY f8)
  (d9:DF K "_law_way" gy f9)
  (cb:DF K "_law_wish" dJ di)
  (cW:DF K "led" Ba c2)
  (cv:DF K "all_led" iw cK)
  (b1:DF K "keeps_values" dk cU)
  (aG:DF K "turned_unlike" dR bd)
  (a9:DF K "turned_many" fI bw)
  (aA:DF K "turned_sum" dZ bu)
  (aE:DF K "turned_table" db bg)
  (a3:DF K "turned_way" eB bm)
  (a7:DF K "turned_behind" dO bk)
  (bH:DF K "turned_wish" cE c8)
  (aJ:DF K "turned_same" eZ bf)
  (cF:DF K "turned_filling" cz c1)
  (da:DF K "_law_leads" gx cT)
  (c0:DF K "_law_moved" eh bU)
  (b6:DF K "_law_back" gX cX)
  (bN:DF K "_law_led_wish" bn cR)
  (b5:DF K "in_order" jp cn)
  (ca:DF K "_law_insert" fh cM)
  (cJ:DF K "_law_by_key" dz cp)
  (cG:DF K "_law_rising" fG dd)
  (c3:AT K "plain_table" a2) (bA:LK K a2 "plain_table" bO bp bc aO aP aW aY bt aj aN) (bF:CK K aj "plain_table") (c5:KK K a2)
  (aF:aj = .ref 135) (aC:codeHdIn K 135 133=true)
  (cm:AT K "plain_form" a4) (cQ:LK K a4 "plain_form" cY br bs aM bh be aI bi ap aL) (cq:CK K ap "plain_form") (bB:KK K a4)
  (aD:ap = .ref 142) (a5:codeHdIn K 142 138=true)
  (bV:DF K "_law_plain" bX b4)
  (cL:DF K "_law_mixed_up" bj bC)
  (bR:DF K "turned_rooms" dh c9)
  (b7:DF K "plain_forms" fj bI)
  (c7:DF K "leads_wishes_among" cu bY)
  (cr:DF K "leads_rooms_on" cx cc)
  (ck:DF K "first_rooms" fA bL)
  (bG:DF K "leads_on" jb cI)
  (bQ:DF K "_law_round" gA b8)
  (bD:DF K "_law_even_rooms" cZ ci)
  (bW:DF K "_law_even_wishes" cP b9)
  (cy:DF K "_law_even_hall" cw cA)
  (aB:DF K "is_number" gR cj)
  (a8:DF K "is_name" iH b2)
  (cC:DF K "leads_round" dw dc)
  (c6:DF K "is_turning" gz bZ)
  (cg:DF K "_law_behind" fJ bJ)
  (cO:DF K "_law_all_turned" dg c4)
  (df:AT K "law" a6) (cV:LK K a6 "law" kX aU aT bv aw a1 az a0 an ax) (cH:CK K an "law") (bz:KK K a6)
  (z0:NB K "len")
  (z1:NB K "max")
  (z2:NB K "min")
  (z3:NB K "sum")
  (z4:NB K "list")
  (z5:NB K "reversed")
  (z6:NB K "range")
  (z7:NB K "isinstance")
  (z8:NB K "all")
  (z9:NB K "any")
  (bK:NB K "dict")
  (cf:NB K "tuple")
  (cB:NB K "set")
  (cD:NB K "int")
  (bE:NB K "sorted")
  (bS:NB K "bool")
  (cS:NB K "str")
  (y0:nsIn K mainGlobals "MARKS" = some (some (.ref ay)))
  (x0:K.lookup ay=some ⟨.type "tuple",bo,.seq #[.str "in" ar,.str "from" au,.str "to" aq,.str "end" av] aR,aS⟩)
  (y1:nsIn K mainGlobals "LONGEST_NAME" = some (some (.int 8 bq)))
  (ad:nsIn K mainGlobals "TURNERS" = some (some (.ref z)))
  (ah:K.lookup z=some ⟨.type "dict",none,.dict ae af,#[]⟩)
  (ai:PySem.W.KeysLit w.params ae.toList)
  (F:nsIn K z "unlike" = some (some (.ref bd)))
  (Y:nsIn K z "many" = some (some (.ref bw)))
  (Z:nsIn K z "sum" = some (some (.ref bu)))
  (U:nsIn K z "table" = some (some (.ref bg)))
  (aa:nsIn K z "way" = some (some (.ref bm)))
  (B:nsIn K z "behind" = some (some (.ref bk)))
  (ac:nsIn K z "same" = some (some (.ref bf))) :
  ∃fd:FuncData,(∀(s:Shared) (v:Value),BindsTo s fd ⟨[v],[]⟩ [("_law_script",v)])/\∀base:Heap,K.In base->base.Ns mainGlobals mg->iV mg base->ig l.prog w K mg base CX0 30 fa fd ["_law_script"] (xl K):=by
 have e:=bM.symm.trans (mg_of X G df);cases e;refine⟨fnOf "law" "law" (cN kX) (bT kX) (ak kX) .none aw a1 az a0 an ax,λs v=>.of_eq rfl,λbase KB _ b0=>?_⟩
 have ag:=oN (mg_of X G ad);subst ag;have T:Txt w K mg base:=⟨mg_none_of X G z0,mg_none_of X G z1,mg_none_of X G z2,mg_none_of X G z3,mg_none_of X G z4,mg_none_of X G z5,mg_none_of X G z6,mg_none_of X G z7,mg_none_of X G z8,mg_none_of X G z9,mg_none_of X G bK,mg_none_of X G cf,mg_none_of X G cB,mg_none_of X G cD,mg_none_of X G bE,mg_none_of X G bS,mg_none_of X G cS,⟨_,_,_,_,mg_of X G y0,x0,rfl,rfl,by show 4<=sizeLine;decide,.cons ⟨_,rfl⟩ (.cons ⟨_,rfl⟩ (.cons ⟨_,rfl⟩ (.cons ⟨_,rfl⟩ (.nil))))⟩,⟨_,mg_of X G y1⟩,(by rw[oN (dfM X G a8)];exact dfM X G a8),(by rw[oN (dfM X G aB)];exact dfM X G aB),b0,mg_of X G ad,⟨_,_,ah,ai⟩⟩
 have ao:FnL K mg "_law_wish" dJ ["_law_deal_here","_law_names_here","_law_rooms_here","_law_pool_here","_law_sorts"]:=dfL X G cb
 have bb:FnL K mg "turned_wish" cE ["turning","wish"]:=dfL X G bH
 have aK:FnL K mg "_law_led_wish" bn ["_law_turning","_law_wish_here"]:=dfL X G bN
 have de:sP K mg "plain_table" bO ["wish"] 133:=xx X G c3 bA bF c5 aF aC λ_ _ _ _ _ _ us hl=>by obtain⟨u0,ee⟩:=zw hl;subst ee;rfl
 have aV:sP K mg "plain_form" cY ["wish"] 138:=xx X G cm cQ cq bB aD a5 λ_ _ _ _ _ _ us hl=>by obtain⟨u0,ee⟩:=zw hl;subst ee;rfl
 have bx:FnL K mg "_law_plain" bX ["_law_wish_here"]:=dfL X G bV
 have aQ:FnL K mg "_law_mixed_up" bj ["_law_deal_here","_law_wish_here"]:=dfL X G cL
 have Fa:=rO (P:=l.prog) (w:=w) (base:=base) T (dfL X G d0);have FY:=sh (P:=l.prog) (w:=w) (base:=base) T (dfL X G d1);have FR:=oW (P:=l.prog) (w:=w) (base:=base) T (dfL X G d2) Fa;have ce:=rc (P:=l.prog) (w:=w) (base:=base) T (dfL X G d3) Fa;have FU:=oZ (P:=l.prog) (w:=w) (base:=base) T (dfL X G d4) Fa;have Fb:=qO (P:=l.prog) (w:=w) (base:=base) T (dfL X G d5) Fa;have FO:=oJ (P:=l.prog) (w:=w) (base:=base) T (dfL X G d6) Fa;have FH:=uM (P:=l.prog) (w:=w) (base:=base) T (dfL X G d7) Fa FO;have FF:=sJ (P:=l.prog) (w:=w) (base:=base) T (dfL X G d8) Fa;have FI:=tP (P:=l.prog) (w:=w) (base:=base) T (dfL X G d9) Fa;have FS:Fn l.prog w K mg base "_law_wish" 15 ["_law_deal_here","_law_names_here","_law_rooms_here","_law_pool_here","_law_sorts"] (iK false):=(gw (n:=0) (h:=false) T ao Fa Fb FH FF FI (by unfold jE;rw[if_neg Bool.false_ne_true];exact uL ao)).mono (by decide)
 have FT:Fn l.prog w K mg base "_law_wish" 15 ["_law_deal_here","_law_names_here","_law_rooms_here","_law_pool_here","_law_sorts"] (iK true):=(gw (n:=4) (h:=true) T ao Fa Fb FH FF FI (by unfold jE;rw[if_pos rfl];exact gw (n:=0) (h:=false) T ao Fa Fb FH FF FI (by unfold jE;rw[if_neg Bool.false_ne_true];exact uL ao))).mono (by decide)
 have Fm:=Ga (P:=l.prog) (w:=w) (base:=base) T (dfL X G cW);have Fc:=vK (P:=l.prog) (w:=w) (base:=base) T (dfL X G cv) Fm;have Fk:=lJ (P:=l.prog) (w:=w) (base:=base) T (dfL X G b1);have FW:=kJ (P:=l.prog) (w:=w) (base:=base) T (dfL X G aG) Fc;have aX:=nV (P:=l.prog) (w:=w) (base:=base) T (dfL X G a9) Fc;have aZ:=oY (P:=l.prog) (w:=w) (base:=base) T (dfL X G aA) Fk Fm;have ba:=lM (P:=l.prog) (w:=w) (base:=base) T (dfL X G aE) Fc;have aH:=pF (P:=l.prog) (w:=w) (base:=base) T (dfL X G a3) Fc Fm;have FX:=ky (P:=l.prog) (w:=w) (base:=base) T (dfL X G a7) Fk Fc;have b3:Fn l.prog w K mg base "turned_wish" 5 ["turning","wish"] (jC):=lL (ft6 FW (dfM X G aG) F aX (dfM X G a9) Y aZ (dfM X G aA) Z ba (dfM X G aE) U aH (dfM X G a3) aa FX (dfM X G a7) B) T bb
 have co:=mL (P:=l.prog) (w:=w) (base:=base) T (dfL X G aJ) b3 Fm Fc;have Fo:Fn l.prog w K mg base "turned_wish" 7 ["turning","wish"] (wU):=lA (ft7 FW (dfM X G aG) F aX (dfM X G a9) Y aZ (dfM X G aA) Z ba (dfM X G aE) U aH (dfM X G a3) aa FX (dfM X G a7) B co (dfM X G aJ) ac) T bb
 have Fs:=jQ (P:=l.prog) (w:=w) (base:=base) T (dfL X G cF) Fm;have Fh:=oX (P:=l.prog) (w:=w) (base:=base) T (dfL X G da) Fb;have Fe:=pC (P:=l.prog) (w:=w) (base:=base) T (dfL X G c0);have FK:=qD (P:=l.prog) (w:=w) (base:=base) T (dfL X G b6);have Fq:=jH (P:=l.prog) (w:=w) (base:=base) T aK Fe;have FC:=kn (P:=l.prog) (w:=w) (base:=base) T aK Fq Fe;have Ff:=sY (P:=l.prog) (w:=w) (base:=base) T (dfL X G b5);have FM:=no (P:=l.prog) (w:=w) (base:=base) T (dfL X G ca);have Fj:=oh (P:=l.prog) (w:=w) (base:=base) T (dfL X G cJ) FM;have Fd:=nY (P:=l.prog) (w:=w) (base:=base) T (dfL X G cG) Fj;have FL:=nN (P:=l.prog) (w:=w) (base:=base) T de Ff;have Fi:=mR (P:=l.prog) (w:=w) (base:=base) T aV Ff FL;have Fl:=mJ (P:=l.prog) (w:=w) (base:=base) T aV Fi Ff;have Ft:=nQ (P:=l.prog) (w:=w) (base:=base) T bx Fd Fj;have FD:=nO (P:=l.prog) (w:=w) (base:=base) T bx Ft Fd;have Fr:=jD (P:=l.prog) (w:=w) (base:=base) T aQ Fb;have Fz:=jZ (P:=l.prog) (w:=w) (base:=base) T aQ Fr Fb;have Fg:=lH (P:=l.prog) (w:=w) (base:=base) T (dfL X G bR) Fm Fc;have FP:=oS (P:=l.prog) (w:=w) (base:=base) T (dfL X G b7) Fi Fl;have Fp:=gE (P:=l.prog) (w:=w) (base:=base) T (dfL X G c7) Fo Fi Fl;have Fy:=jP (P:=l.prog) (w:=w) (base:=base) T (dfL X G cr) Fg;have FN:=mD (P:=l.prog) (w:=w) (base:=base) T (dfL X G ck);have FQ:=tm (P:=l.prog) (w:=w) (base:=base) T (dfL X G bG) FN Fy FP Fp;have FG:=pb (P:=l.prog) (w:=w) (base:=base) T (dfL X G bQ);have Fx:=jm (P:=l.prog) (w:=w) (base:=base) T (dfL X G bD) FU FG Fe;have Fv:=iP (P:=l.prog) (w:=w) (base:=base) T (dfL X G bW) Fa FT Ft FD Fq FC Fr Fz;have FE:=jU (P:=l.prog) (w:=w) (base:=base) T (dfL X G cy) Fa FR ce Fh Fb Fx Fv FS;have FZ:=ri (P:=l.prog) (w:=w) (base:=base) T (dfL X G aB);have bP:=vt (P:=l.prog) (w:=w) (base:=base) T (dfL X G a8);have FB:=ml (P:=l.prog) (w:=w) (base:=base) T (dfL X G cC) bP FZ;have FV:=pL (P:=l.prog) (w:=w) (base:=base) T (dfL X G c6) FB;have FA:=oE (P:=l.prog) (w:=w) (base:=base) T (dfL X G cg);have Fw:=jd (P:=l.prog) (w:=w) (base:=base) T (dfL X G cO) Fo;exact EG T (mr cV cH bz) FY Fa FE FK Fh FA Fg Fs FV Fw Fo FQ
theorem HV {l:PySem.W.OpenLaw} {d:DefRec} {K:Params->PySem.W.Frag} (hn:l.most=some 63) (B:d.params.defaults=[])
  (hY : ∀(w:World) (h:Heap),YP w h->(K w.params).In h) (U : ∀(w:World) (h:Heap),YP w h->∀t∈tabs,h.get? t.2.1=some (tabObj #[]))
  (Z : ∀w:World,∀t∈tabs,codeHdIn (K w.params) t.1 t.2.1=true) (Y : ∀w:World,∀t∈tabs,(K w.params).lookup t.2.1=none)
  (F : ∀(w:World) (mg:Str->Option Value) (fa:Addr) (h:Heap),(K w.params).In h->h.Ns mainGlobals mg->mg d.name=some (.ref fa) ->
   ∃fd:FuncData,(∀(s:Shared) (u:Value),BindsTo s fd ⟨[u],[]⟩ [("_law_script",u)])/\∀base:Heap,(K w.params).In base->base.Ns mainGlobals mg->iV mg base->ig l.prog w (K w.params) mg base CX0 30 fa fd ["_law_script"] (xl (K w.params))) :
  PySem.W.WalkO q loose XP YP l.row.toRowW d [] (λf vs=>PySem.call f vs) :=
 L2.A7 (n:=63) (k:=30) (x := "_law_script") (tabs:=tabs) (sp:=λw=>xl (K w.params)) hn (by decide) B ⟨rfl,by decide,by decide⟩ hY U Z Y (by decide) F (λ_ _ a ns hl U hS=>⟨a,ns,rfl,hS,hl,U,λ_ z=>⟨rfl,z⟩⟩)
end Lw
variable {L:List Lw.Tn} {W:Lw.Wx} {Ws:List Lw.Wx} {ts:List Lw.TQ5}
open PySem PySem.W PyProof.Rows
local macro_rules | `(tactic| ctx_has kj $ids*) => `(tactic| ($[case $ids:ident => (change _ = _; k_is)];*))
local macro_rules | `(tactic| ctx_has kk) => `(tactic| (refine' Lw.dfI ?a ?l ?c ?k; (case a => k_is); (case l => k_is); (case c => k_is); (case k => k_is)))
local macro_rules | `(tactic| ctx_has kd $ids*) => `(tactic| ($[case $ids:ident => ctx_has kk];*))
local macro_rules | `(tactic| o_head $H) => do
  let hw:=Lean.mkIdent `hw
  let hc:=Lean.mkIdent `hc
  `(tactic| (refine holds_open (q:=Lw.eU) (hY:=Hook.of $H) (hYk:=Hook.keeps $H) (YP:=Hook.says $H) (XP:=XL Lw.eU List.nil) (Xt:=Lw.hX)
                Lw.hl (λs e=>xl_of s (Bool.and_eq_true_iff.mp e).1) XL.keeps (by rfl) (by rfl) (by rfl)
                (λs e=>recFacts_of (Bool.and_eq_true_iff.mp e).2) (by rfl) (by assumption) (by decide+kernel)
                ⟨rfl,rfl,rfl,rfl,rfl,by decide+kernel⟩ ?$hw ?$hc))
set_option maxHeartbeats 0 in
theorem PySem.Challenge.cw_seekhall_k55_whole_turnings_behind_one_a_holds : PySem.Challenge.rw_seekhall_k55_whole_turnings_behind_one_a.Holds := by
  w_on;o_law;o_head (kmHook Lw.De.heap_1 Lw.hAs Lw.hAe [133,138]);(case hw=>w_witness2)
  k_fill
  refine Lw.HV (l:=PySem.Challenge.rw_seekhall_k55_whole_turnings_behind_one_a) rfl rfl (λw h Y=>PySem.W.km_in_of Y) ?hT ?hC ?hKt ?F
  (case hT=>(intro w h Y t ht;have z:=PySem.W.km_tabs_of Y;simp only[Lw.tabs,mem_cons,not_mem_nil,or_false] at ht;rcases ht with rfl | rfl <;> exact z _ (by decide)))
  (case hC=>(intro w t ht;simp only[Lw.tabs,mem_cons,not_mem_nil,or_false] at ht;rcases ht with rfl | rfl <;> kernel_rfl))
  (case hKt=>(intro w t ht;simp only[Lw.tabs,mem_cons,not_mem_nil,or_false] at ht;rcases ht with rfl | rfl <;> kernel_rfl))
  case F =>
    intro w mg fa h KX G hmg
    refine' Lw.EW KX G hmg ?d0 ?d1 ?d2 ?d3 ?d4 ?d5 ?d6 ?d7 ?d8 ?d9 ?d10 ?d11 ?d12 ?d13 ?d14 ?d15 ?d16 ?d17 ?d18 ?d19 ?d20 ?d21 ?d22 ?d23 ?d24 ?d25 ?d26 ?d27 ?d28 ?d29 ?d30 ?a31 ?l31 ?c31 ?k31 ?hcd31 ?htb31 ?a32 ?l32 ?c32 ?k32 ?hcd32 ?htb32 ?d33 ?d34 ?d35 ?d36 ?d37 ?d38 ?d39 ?d40 ?d41 ?d42 ?d43 ?d44 ?d45 ?d46 ?d47 ?d48 ?d49 ?d50 ?a51 ?l51 ?c51 ?k51 ?z0 ?z1 ?z2 ?z3 ?z4 ?z5 ?z6 ?z7 ?z8 ?z9 ?z10 ?z11 ?z12 ?z13 ?z14 ?z15 ?z16 ?y0 ?x0 ?y1 ?aC_TURNERS ?tl_TURNERS ?tk_TURNERS ?tx_TURNERS_unlike ?tx_TURNERS_many ?tx_TURNERS_sum ?tx_TURNERS_table ?tx_TURNERS_way ?tx_TURNERS_behind ?tx_TURNERS_same
    ctx_has kd d0 d1 d2 d3 d4 d5 d6 d7 d8 d9 d10 d11 d12 d13 d14 d15 d16 d17 d18 d19 d20 d21 d22 d23 d24 d25 d26 d27 d28 d29 d30
    ctx_has kj a31 l31 c31 k31
    (case hcd31=>rfl)
    (case htb31=>kernel_rfl)
    ctx_has kj a32 l32 c32 k32
    (case hcd32=>rfl)
    (case htb32=>kernel_rfl)
    ctx_has kd d33 d34 d35 d36 d37 d38 d39 d40 d41 d42 d43 d44 d45 d46 d47 d48 d49 d50
    ctx_has kj a51 l51 c51 k51 z0 z1 z2 z3 z4 z5 z6 z7 z8 z9 z10 z11 z12 z13 z14 z15 z16 y0 x0 y1 aC_TURNERS tl_TURNERS
    (case tk_TURNERS=>k_keys)
    ctx_has kj tx_TURNERS_unlike tx_TURNERS_many tx_TURNERS_sum tx_TURNERS_table tx_TURNERS_way tx_TURNERS_behind tx_TURNERS_same
