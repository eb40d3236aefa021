import PyProof.Rows.All
import KE.KIntText
import KE.KIsAll
import KE.KItem
import KE.KRevIter
import OpenK.KLine
import Wide.Once
import Wide.Tac
import Open.Line
import Wide.Line
import KE.KPathFold
import PyProof.Rows.RegCtxHas
import PyProof.Walk
import KE.KEqDict
import KE.KDictOf
import KE.KSortTup
import Lean
import PySem.Challenge.RW_seekhall_k32_values_taken_away
set_option Elab.async false
set_option linter.all false
set_option compiler.extract_closed false
set_option maxRecDepth 100000
set_option maxHeartbeats 4000000
namespace Ob
variable {C p q r s t u v w x y z k l m : Prop} {A B D E F G H I J : Sort _}
theorem e1 {P : A → Prop} (h : ∃ a, P a) (f : ∀ a, P a → C) : C := h.elim f
theorem e2 {P : A → B → Prop} (h : ∃ a b, P a b) (f : ∀ a b, P a b → C) : C := h.elim fun a h => e1 h (f a)
theorem e3 {P : A → B → D → Prop} (h : ∃ a b d, P a b d) (f : ∀ a b d, P a b d → C) : C := h.elim fun a h => e2 h (f a)
theorem e4 {P : A → B → D → E → Prop} (h : ∃ a b d e, P a b d e) (f : ∀ a b d e, P a b d e → C) : C := h.elim fun a h => e3 h (f a)
theorem e5 {P : A → B → D → E → F → Prop} (h : ∃ a b d e f, P a b d e f) (f : ∀ a b d e f, P a b d e f → C) : C := h.elim fun a h => e4 h (f a)
theorem e6 {P : A → B → D → E → F → G → Prop} (h : ∃ a b d e f g, P a b d e f g) (f : ∀ a b d e f g, P a b d e f g → C) : C := h.elim fun a h => e5 h (f a)
theorem e7 {P : A → B → D → E → F → G → H → Prop} (h : ∃ a b d e f g h, P a b d e f g h) (f : ∀ a b d e f g h, P a b d e f g h → C) : C := h.elim fun a h => e6 h (f a)
theorem e8 {P : A → B → D → E → F → G → H → I → Prop} (h : ∃ a b d e f g h i, P a b d e f g h i) (f : ∀ a b d e f g h i, P a b d e f g h i → C) : C := h.elim fun a h => e7 h (f a)
theorem e9 {P : A → B → D → E → F → G → H → I → J → Prop} (h : ∃ a b d e f g h i j, P a b d e f g h i j) (f : ∀ a b d e f g h i j, P a b d e f g h i j → C) : C := h.elim fun a h => e8 h (f a)
theorem i2 {P : A → B → Prop} (a : A) (b : B) (o : P a b) : ∃ a b, P a b := ⟨a, b, o⟩
theorem i3 {P : A → B → D → Prop} (a : A) (b : B) (d : D) (o : P a b d) : ∃ a b d, P a b d := ⟨a, b, d, o⟩
theorem i4 {P : A → B → D → E → Prop} (a : A) (b : B) (d : D) (e : E) (o : P a b d e) : ∃ a b d e, P a b d e := ⟨a, b, d, e, o⟩
theorem i5 {P : A → B → D → E → F → Prop} (a : A) (b : B) (d : D) (e : E) (f : F) (o : P a b d e f) : ∃ a b d e f, P a b d e f := ⟨a, b, d, e, f, o⟩
theorem i6 {P : A → B → D → E → F → G → Prop} (a : A) (b : B) (d : D) (e : E) (f : F) (g : G) (o : P a b d e f g) : ∃ a b d e f g, P a b d e f g := ⟨a, b, d, e, f, g, o⟩
theorem i7 {P : A → B → D → E → F → G → H → Prop} (a : A) (b : B) (d : D) (e : E) (f : F) (g : G) (h : H) (o : P a b d e f g h) : ∃ a b d e f g h, P a b d e f g h := ⟨a, b, d, e, f, g, h, o⟩
theorem i8 {P : A → B → D → E → F → G → H → I → Prop} (a : A) (b : B) (d : D) (e : E) (f : F) (g : G) (h : H) (i : I) (o : P a b d e f g h i) : ∃ a b d e f g h i, P a b d e f g h i := ⟨a, b, d, e, f, g, h, i, o⟩
theorem i9 {P : A → B → D → E → F → G → H → I → J → Prop} (a : A) (b : B) (d : D) (e : E) (f : F) (g : G) (h : H) (i : I) (j : J) (o : P a b d e f g h i j) : ∃ a b d e f g h i j, P a b d e f g h i j := ⟨a, b, d, e, f, g, h, i, j, o⟩
theorem c2 (h : p ∧ q) (f : p → q → C) : C := f h.1 h.2
theorem c3 (h : p ∧ q ∧ r) (f : p → q → r → C) : C := c2 h.2 (f h.1)
theorem c4 (h : p ∧ q ∧ r ∧ s) (f : p → q → r → s → C) : C := c3 h.2 (f h.1)
theorem c5 (h : p ∧ q ∧ r ∧ s ∧ t) (f : p → q → r → s → t → C) : C := c4 h.2 (f h.1)
theorem c6 (h : p ∧ q ∧ r ∧ s ∧ t ∧ u) (f : p → q → r → s → t → u → C) : C := c5 h.2 (f h.1)
theorem c7 (h : p ∧ q ∧ r ∧ s ∧ t ∧ u ∧ v) (f : p → q → r → s → t → u → v → C) : C := c6 h.2 (f h.1)
theorem c8 (h : p ∧ q ∧ r ∧ s ∧ t ∧ u ∧ v ∧ w) (f : p → q → r → s → t → u → v → w → C) : C := c7 h.2 (f h.1)
theorem c9 (h : p ∧ q ∧ r ∧ s ∧ t ∧ u ∧ v ∧ w ∧ x) (f : p → q → r → s → t → u → v → w → x → C) : C := c8 h.2 (f h.1)
theorem c10 (h : p ∧ q ∧ r ∧ s ∧ t ∧ u ∧ v ∧ w ∧ x ∧ y) (f : p → q → r → s → t → u → v → w → x → y → C) : C := c9 h.2 (f h.1)
theorem c11 (h : p ∧ q ∧ r ∧ s ∧ t ∧ u ∧ v ∧ w ∧ x ∧ y ∧ z) (f : p → q → r → s → t → u → v → w → x → y → z → C) : C := c10 h.2 (f h.1)
theorem c12 (h : p ∧ q ∧ r ∧ s ∧ t ∧ u ∧ v ∧ w ∧ x ∧ y ∧ z ∧ k) (f : p → q → r → s → t → u → v → w → x → y → z → k → C) : C := c11 h.2 (f h.1)
theorem c13 (h : p ∧ q ∧ r ∧ s ∧ t ∧ u ∧ v ∧ w ∧ x ∧ y ∧ z ∧ k ∧ l) (f : p → q → r → s → t → u → v → w → x → y → z → k → l → C) : C := c12 h.2 (f h.1)
theorem c14 (h : p ∧ q ∧ r ∧ s ∧ t ∧ u ∧ v ∧ w ∧ x ∧ y ∧ z ∧ k ∧ l ∧ m) (f : p → q → r → s → t → u → v → w → x → y → z → k → l → m → C) : C := c13 h.2 (f h.1)
end Ob
open Lean Lean.Parser.Tactic in
local macro_rules
 | `(tactic| obtain $p:rcasesPatMed := $e:term) => do
  let pl : TSyntax ``rcasesPatLo := ⟨mkNode ``rcasesPatLo #[p, mkNullNode]⟩
  let plain ← `(tactic| rcases $e:term with $pl)
  let q := p.raw[0][0]
  let ps := q[1].getSepArgs
  let n := ps.size
  if p.raw[0].getNumArgs != 1 || q.getKind != ``rcasesPat.tuple || n < 2 || n > 20 then return plain
  let mut nm : Array Ident := #[]
  let mut fs : Array (TSyntax `tactic) := #[]
  let cl (b : Term) : MacroM Term := if e.raw.isIdent then `(clear% $(⟨e.raw⟩); $b) else pure b
  for x in ps do
    let v := x[0][0][0]
    if x[1].getNumArgs == 0 && x[0][0].getNumArgs == 1 && v.getKind == ``rcasesPat.one && v[0].getId != `rfl then nm := nm.push ⟨v[0]⟩
    else
      let y := mkIdent (.mkSimple s!"hX{nm.size}")
      nm := nm.push y
      fs := fs.push (← `(tactic| all_goals rcases $y:ident with $(⟨x⟩)))
  let mut alts : Array (TSyntax `tactic) := #[]
  for d in [0:n] do
    let m := n - 1 - d
    let k := n - m
    if m ≤ 9 && k ≤ 14 then
      let f := mkIdent (.mkStr `Ob s!"e{m}")
      let g := mkIdent (.mkStr `Ob s!"c{k}")
      let xs := nm.extract 0 m
      let ys := nm.extract m n
      let b ← cl (← if m == 0 then `(fun $ys* => ?_) else if k == 1 then `(fun $xs* $(ys[0]!) => ?_) else `(fun $xs* hW => $g hW (clear% hW; fun $ys* => ?_)))
      alts := alts.push (← if m == 0 then `(tactic| refine $g $e $b) else `(tactic| refine $f $e $b))
  `(tactic| first | (refine Classical.byContradiction fun hN => ?_; (first $[| $alts:tactic]*); ($[$fs:tactic];*); all_goals (refine hN ?_; clear hN)) | $plain:tactic)
 | `(tactic| rintro $[$rs:rintroPat]*) => do
  let mut ts : Array (TSyntax `tactic) := #[]
  for r in rs do
    let v := r.raw[0]
    if v.getKind == ``rcasesPat.one && v[0].getId != `rfl then ts := ts.push (← `(tactic| intro $(⟨v[0]⟩):ident))
    else if v.getKind == ``rcasesPat.tuple then
      let p : TSyntax ``rcasesPatMed := ⟨mkNode ``rcasesPatMed #[mkNullNode #[v]]⟩
      ts := ts.push (← `(tactic| (intro hY; obtain $p := hY)))
    else Macro.throwUnsupported
  `(tactic| ($[$ts:tactic];*))
 | `(tactic| refine $t:term) => do
  let xs : Array Term := t.raw[1].getSepArgs.map (⟨·⟩)
  let n := xs.size
  if t.raw.getKind != `Lean.Parser.Term.anonymousCtor || n < 3 then Macro.throwUnsupported
  let mut alts : Array (TSyntax `tactic) := #[]
  for d in [1:n] do
    let m := n - d
    if 2 ≤ m && m ≤ 9 then
      let r := xs.extract m n
      let r : Term ← if r.size == 1 then pure r[0]! else `(⟨$r,*⟩)
      let f := mkIdent (.mkStr `Ob s!"i{m}")
      alts := alts.push (← `(tactic| refine $f $(xs.extract 0 m)* $r))
  `(tactic| first $[| $alts:tactic]* | refine ($t))
local macro_rules | `(tactic| omega) => `(tactic| first | with_reducible assumption | decide +kernel | lia | omega +splitDisjunctions)
open Array renaming getElem?_eq_getElem->Jx,getElem?_eq_none->JX,length_toList->y8
open Bool renaming and_eq_false_iff->Ke,and_eq_true->k_,eq_iff_iff->ow,false_eq_true->g_,false_ne_true->jc
open Classical renaming byContradiction->nH
open False renaming elim->D_
open ForInStep renaming yield->JT
open Int renaming eq_ofNat_of_zero_le->x4,toNat_natCast->J2
open List renaming all_eq_true->z_,any_cons->Kh,any_eq_true->w_,append_assoc->Kw,append_nil->Ju,concat_eq_append->JC,eq_nil_or_concat->Ki,filter_cons->sn,filter_map->Kj,find?_cons->JO,flatMap_cons->Kx,foldl_append->J4,forIn_cons->JP,getElem?_append_left->t4,getElem?_append_right->u9,getElem?_eq_getElem->k6,getElem?_eq_none_iff->FN,getElem?_eq_some_iff->i4,getElem?_map->ei,getElem?_reverse->Kb,getElem?_set_ne->Kl,getElem?_toArray->Jg,getElem_mem->v_,getElem_of_mem->uj,length_append->o9,length_cons->u6,length_filter_le->Kk,length_map->c_,length_pos_iff->J5,length_pos_of_mem->Jp,length_take->IZ,length_take_le'->x_,lookup->Kr,lookup_cons->u7,lookup_nil->I0,map_append->k9,map_congr_left->m9,map_cons->i9,map_map->l_,mem_append->ja,mem_append_left->k4,mem_append_right->m7,mem_cons->i6,mem_cons_of_mem->j7,mem_cons_self->k7,mem_filter->y9,mem_map->g7,mem_of_getElem?->f_,mem_of_mem_take->F_,mem_range->Kf,mem_singleton->e_,nil->JV,nodup_append->rb,nodup_cons->mu,not_mem_nil->m4,pairwise_map->Gt,size_toArray->j6,take_add_one->i7,take_length->ki,take_of_length_le->p_,take_sublist->JD
open List.Pairwise renaming imp_of_mem->G4
open Nat renaming le_add_right->Jc,le_of_eq->Ji,le_of_lt->x8,le_of_succ_le->JM,le_refl->hH,le_trans->gt,lt_irrefl->p9,lt_of_le_of_lt->r_,lt_of_lt_of_le->h_,lt_succ_of_lt->G_,lt_succ_self->Jd,ne_of_gt->pc,ne_of_lt->j_,zero_le->x5
open Ne renaming symm->tj
open Option renaming isSome_iff_exists->Jq,map_some->Jj
open Option.some renaming inj->e8
open PyProof.Rows renaming callWith_type1->n9,seqObj->za,slot_tuple_getitem->u8,step_dedup->Kn
open PySem renaming Addr->Kg,NameKind->y7,OsState->J8,PyData->Kp,Spec->w5,Str->Jb,Value->IY,ZipApart->Ko,assignEach->Km,attributeBase->JN,backTo->A_,behindInMarks->Jk,binaryOp->G2,bootBuiltins->y6,builtinLookup_eq_fast->p6,cellsFrom->nl,codeAny->JA,codeAny_builtin->JU,compareOp->n6,importedModules->Ku,intItems->J0,mainGlobals->m3,mem_of_lookup->JI,plainId_quiet->Jl,pyNext->Jr,rawInt->w4,sizeLine->ge,sizeLine_eq->Ja,sliceBounds->Ks,starEach->j9,swapsWith->KA,sysModules->G1,treeTable->Ky,tupleKind->Jz,tupleKind_room_in1->Je,typeLookup->G3,typeLookup_type->x0,wpAny_Call_Name_kw->x3,wpAny_attempt->If,wpAny_bind->a_,wpAny_callSpecial?_slot->m6,wpAny_call_entry->m8,wpAny_field->md,wpAny_getItem_str_slice->JK,wpAny_holding->o_,wpAny_isInstance->JG,wpAny_mono->y2,wpAny_newObj_type->w6,wpAny_of_eq->JZ,wpAny_passesOwn->Jf,wpAny_pure->e7,wpAny_pyIter_list->Js,wpAny_pyIter_tuple->v9,wpAny_rule->Jw,wpAny_seqItems->u_,wpAny_setField_rec->t5,wpAny_specialOf->y3,wpAny_truthy_bool->x6,wpAny_typeOf->J_,wpAny_updateSeq->Kv
open PySem.Around renaming under_plainId->G5
open PySem.Builtin.List renaming listExtendWith->u5,listItems->JW,listSameRef->JF
open PySem.Builtin.Slice renaming slicePlaces->Jv
open PySem.Builtin.SmallTypes renaming nextOf->j8,ownedTupleIsFree->m5
open PySem.Builtin.Str renaming occurrences->JL
open PySem.Builtin.Tuple renaming tupleExact->JE
open PySem.Calls renaming callWith_builtin->JY,spliced_cons->JS,spliced_nil->J1
open PySem.F renaming args_zip_next_1->Jt,entry_zip_next->JH,plain_extend_loop->JJ,slot_NoneType_hash->Jo,slot_dict_get->Ka,slot_list_append->o7,slot_tuple_iterator_next->Jm,slot_zip_next->t7,type_list_append->o8
open PySem.Heap renaming ExtBut->Kt,IsTuple->KB,SameBut->J9,get?_push_of_some->d_,get?_push_size->gr,get?_update_other->B_,get?_update_self->E_,lt_size->e9,size_push->m_,size_update->Is
open PySem.NameKind renaming cell->w9,free->s_
open PySem.Obj renaming mapSeq->p8
open PySem.PyData renaming canLay0->JB,canLayAll0->q_,depth->Kd,depthAll->Jh,eqv->y4,eqvAll->Jn,int->y_,strOk->C_
open PySem.Str renaming ofString->b_
open PySem.Txt renaming slice->H_,slice_le->Kc
open PySem.Value renaming bool->JR,none->n_,ref->g9,type->I_
open PySem.W renaming Frag->fx,boot_heap->Kz,emptyDict->JQ,keepIn->J6,kia_one->J7,mg_none_of->t_
open Sum renaming inl->i_,inr->fy
open Sum.inl renaming inj->Jy
open Sum.inr renaming inj->Kq
open True renaming intro->o6
variable {A:PySem.Around} {C I O S T a a1 a2 a3 a4 a5 a6 b d dx f fa ha it l p r z:Kg} {CS N cells cs cs' loose ps ws:List Jb} {E Q Qf xe:IY->PySem.Shared->Prop} {K:fx} {M:PySem.Model} {P prog:PySem.Program} {R:PySem.Result->PySem.Shared->Prop} {U av ms ns pool tl:List Int} {XP:(Jb->Option IY)->PySem.Heap->Prop} {YP:PySem.World->PySem.Heap->Prop} {apos cpos p2 pos pos':PySem.Pos} {as:List (Kg × Jb × Kg)} {base h h':PySem.Heap} {body rest:List PySem.Stmt} {c name qual x:Jb} {cd cdv ct doc f0 f1 oc pm u vl vu:IY} {ch fp:List Kg} {cl closure:List (Jb × Kg)} {cmp:Nat->Nat->(Bool->PySem.Shared->Prop)->PySem.Shared->Prop} {d':PySem.Drawn} {ds its us:List IY} {e e1 elt iter oe tg value:PySem.Expr} {env:PySem.Env} {es ifs values:List PySem.Expr} {fd:PySem.FuncData} {fm rm:Jb->List Int} {func od:Option Kg} {g:Jb->Int} {g':Array PySem.GenState} {gap lo m v v':Int} {hi:Option Int} {i j k n n0 nt t' tk:Nat} {items ys:Array IY} {js:List Nat} {ks:List (Option Int)} {kw:List (Jb × IY)} {ls:List (Jb × Int)} {mA mb mg:Jb->Option IY} {o0:PySem.Obj} {osl sl:Array (Option IY)} {outer:List PySem.Env} {params:PySem.Arguments} {pins pins':List (Kg × PySem.Obj)} {pl:PySem.Sem Bool} {q:Bool} {rows:List (List Int)} {s s' s₁:PySem.Shared} {sc scope:PySem.Scope} {st:PySem.Stmt} {ts:List (Int × Jb)} {use:Option (IY->PySem.Sem Unit)} {w:PySem.World} {α β κ:Type}
open List (any_map cons_append drop_zero forIn_nil idxOf?_cons length_drop length_nil map_drop map_id map_nil map_take mem_flatMap of_mem_zip range zipWith)
open PySem.W (boot_o_0 boot_o_1 boot_o_10 boot_o_2 boot_o_4 boot_o_5 boot_o_6 boot_o_7 boot_o_8 boot_o_9 callWith_K codeIn findIn fnOf handedIn hasDictIn instObj isFn kat_cons kat_go kat_no kat_one kat_yes kitOne kitx_dict kitx_list lookIn makesIn methodCall_KW methodObj mg_of nsIn plainGet plainGet_of plainOver specialIn takerIn)
open Nat (le_succ lt_trans min_eq_left not_lt sub_self sub_zero)
open Option (getD_none getD_some isNone isNone_some isSome_map isSome_some)
open Array (forIn_toList)
local macro_rules | `(()) => `(by omega)
local macro_rules | `(∅) => `(by decide)
local macro_rules | `(-$x:ident) => `(some (.ref $x))
local macro_rules | `($a >> $b) => `($a = some ($(Lean.mkIdent `L2.HO.tup) $b))
local macro_rules | `($a *> $b) => `($a = some ($(Lean.mkIdent `L2.HO.lst) $b))
local macro_rules | `($a <* $b) => `($a = some ($(Lean.mkIdent `L2.HO.dK) $b))
namespace Lw
open PySem PySem.W PySem.Calls PyProof.Rows
def top (i:Nat):Stmt:=PySem.Challenge.pw_seekhall_k32_values_taken_away.main.body.getD i (.Pass ⟨0,0,0,0⟩)
noncomputable def jr:Program:={ PySem.Challenge.pw_seekhall_k32_values_taken_away with main:={ PySem.Challenge.pw_seekhall_k32_values_taken_away.main with body:=[0,2,3,5,7,9,11,13,15,16,17,19,21,22,24,25,27,29,30,31,32,33,34,35,36,37,38,40,41,42,43,44,45,46,47,48,49,50,51,52,53,54,55,56,57].map top } }
section
local macro_rules | `(tactic| o_head $H) => `(tactic| (have z := $H; assumption))
set_option maxHeartbeats 0 in
theorem Ew (h:PySem.Challenge.rw_seekhall_k32_values_taken_away.row.Holds):PySem.Challenge.rw_seekhall_k32_values_taken_away.row.Holds:=by
 k_head
end
def hAs:List Addr:=[2,3,15,17,18,20,21,22,25,26,27,29,30,32,33,34,36,37,39,40,48,50,51,53,54,55,57,58,60,61,62,64,65,67,68,69,71,72,74,75,76,77,78,79,80,83,90,92,93,95,96,97,99,100,102,103,104,107,108,109,112,113,114,115,116,119,126,128,129,131,132,133,135,136,138,139,140,143,144,145,148,149,150,152,153,155,156,157,159,160,162,163,164,165,166,169,176,178,179,181,182,183,185,186,188,189,190,192,193,195,196,197,199,200,202,203,204,207,208,209,212,213,214,215,216,219,222,223,224,226,227,229,230,231,238,240,241,243,244,245,247,248,250,251,252,254,255,257,258,259,261,262,264,265,266,268,269,271,272,273,275,276,278,279,280,282,283,285,286,287,288,289,292,299,301,302,304,305,306,308,309,311,312,313,316,317,318,321,322,323,325,326,328,329,330,332,333,335,336,337,338,339,342,344,345,347,348,349,356,358,359,361,362,363,365,366,368,369,370,372,373,375,376,377,379,380,382,383,384,385,386,389,391,392,394,395,396,403,405,406,408,409,410,412,413,415,416,417,420,421,422,425,426,427,429,430,432,433,434,436,437,439,440,441,442,443,446,448,449,451,452,453,456,457,458,460,461,463,464,465,468,469,470,472,473,475,476,477,479,480,482,483,484,487,488,489,491,492,494,495,496,499,500,501,503,504,506,507,508,510,511,513,514,515,518,519,520,522,523,525,526,527,530,531,532,534,535,537,538,539,542,543,544,546,547,549,550,551,553,554,556,557,558,561,562,563,566,567,568,571,572,573,576,577,578,581,582,583,585,586,588,589,590,593,594,595,598,599,600,603,604,605,607,608,610,611,612,614,615,617,618]
theorem hAe : ∀P,hAs=(Ew.heap_1 P).map (·.1):=λ_=>by kernel_rfl
noncomputable abbrev hK:Hook:=kHook Ew.heap_1 hAs hAe
noncomputable def hX (s:Shared):Bool:=xlAt jr JV s && recOk (RowW.records PySem.Challenge.rw_seekhall_k32_values_taken_away.row.toRowW) s
theorem Hx {A B C D G:Type} {x y:A × B × C × D} {u v:G} (h1:x.1=y.1) (h2:(x.2.1,x.2.2.1)=(y.2.1,y.2.2.1)) (F:x.2.2.2=y.2.2.2) (L:u=v):(x,u)=(y,v):=by
 obtain⟨a,b,c,d⟩:=x;obtain⟨Y,b',Z,d'⟩:=y;cases h1;cases h2;cases F;cases L;rfl
def bc (i j:Nat):Stmt:=match top i with | .ClassDef _ _ _ b _ _ _ _ _ _ _=>b.getD j (.Pass ⟨0,0,0,0⟩) | s=>s
def aK (a:String) (n:Nat):Value:=.str (b_ a) n
def EB (ty:Value) (x:String) (s:Stmt) (g:Addr) (B c:Value):Obj:=match s with
 | .FunctionDef n a b _ _ _ sc _ _ _=>⟨ty,none,.func ⟨n,b_ x,a,.stmts b,sc,g,[],.none,.none,.none,B,none,c,.none,0⟩,#[]⟩
 | _=>default
def cH (x:String) (s:Stmt):Obj:=EB .none x s 0 .none .none
def cG (x:String) (s:Stmt) (B:Value) (c:Addr):Obj:=EB (.type "function") x s 3 B (.ref c)
def uB (l:List Value):Obj:=⟨.type "tuple",none,.seq l.toArray 0,#[]⟩
def dg (t:Value) (l:List Value) (a:Array (Option Value)):Obj:=⟨t,none,.fields l.toArray,a⟩
def df (i:Nat):Obj:=match top i with
 | .FunctionDef n a b _ _ _ sc _ _ _=>⟨.none,none,.func ⟨n,n,a,.stmts b,sc,0,[],.none,.none,.none,.none,none,.none,.none,0⟩,#[]⟩
 | _=>default
def dh (i:Nat) (B:Value) (c:Addr):Obj:=match top i with
 | .FunctionDef n a b _ _ _ sc _ _ _=>⟨.type "function",none,.func ⟨n,n,a,.stmts b,sc,3,[],.none,.none,.none,B,none,.ref c,.none,0⟩,#[]⟩
 | _=>default
def bH (P:Params) (k:String) (n:Nat) (v:Value):DictEntry:=⟨PyData.keyHash P (b_ k),aK k n,v⟩
def aD (P:Params) (k:String) (n:Nat) (a:Addr):DictEntry:=bH P k n (.ref a)
def bi:Obj:=dg .none [] #[]
def aL:Obj:=uB []
def rD (n:Nat):Value:=.int n 0
def Hb (l:List (Nat × Nat)):Obj:=dg .none (l.flatMap λx=>[rD x.1,rD 0,.ref x.2]) #[]
def EI (x q:String) (t l n f a:Nat) (b:Bool) (r:List Value) (u:Nat):Obj:=dg (.type "code") ([aK x t,aK q (t+1),aK "/claim/cut.py" (t+2),rD l,rD n,rD 0,rD 0,rD f,.ref a,.bool b,rD 181,.ref (a+1),.none]++r++[rD u,rD l,aK "/claim/cut.py" (u+1)]) #[]
def dG (x q:String) (t l n a u:Nat):Obj:=EI x q t l n 3 a true [.ref (a+2),.ref (a+3),.ref (a+4)] u
def fC (x q:String) (t l n a:Nat):Obj:=EI x q t l n 3 a true [.none,.none,.ref (a+2)] (t+3)
def rE (x:String) (t l a:Nat):Obj:=EI x x t l 0 0 a false [.none,.none,.none] (t+3)
def ik (x:String) (t l n a u:Nat):Obj:=dG x x t l n a u
def GR:Nat->List String->List Value
 | _,[]=>[]
 | n,x :: r=>aK x n :: GR (n+1) r
def bI (n:Nat) (l:List String):Obj:=uB (GR n l)
def Eh:Bool->List Obj->List Obj
 | _,[]=>[]
 | true,x :: r=>x :: Eh false r
 | false,_ :: r=>Eh true r
def Ax:Nat->List Obj->BT
 | 0,_=>.nil
 | _+1,[]=>.nil
 | n+1,x :: r=>.node x (Ax n (Eh true r)) (Ax n (Eh false r))
def ju (t:Value) (l:List DictEntry) (n:Nat) (a:Array (Option Value)):Obj:=⟨t,none,.dict l.toArray n,a⟩
noncomputable def CW (P:Params):BT:=Ax 5 [(boot_o_0 P),(boot_o_1 P),(boot_o_2 P),(PySem.W.boot_o_3 P),(boot_o_4 P),(boot_o_5 P),(boot_o_6 P),(boot_o_7 P),(boot_o_8 P),(boot_o_9 P),(boot_o_10 P),aL,bi,(rE "<module>" 182 1 11),⟨(.type "frame"),none,.plain,#[some (.ref 13),some (.ref 3),some (.ref 3),none,some (aK "__main__" 164),none,some (.ref 0)]⟩]
noncomputable def Ia (P:Params):List Obj:=[(boot_o_0 P),(boot_o_1 P),(boot_o_2 P)]
noncomputable def H0 (P:Params):List Obj:=[(boot_o_4 P),(boot_o_5 P),(boot_o_6 P),(boot_o_7 P),(boot_o_8 P),(boot_o_9 P),(boot_o_10 P),aL]
noncomputable def HU (P:Params):List Obj:=[(rE "<module>" 182 1 11),⟨(.type "frame"),none,.plain,#[some (.ref 13),some (.ref 3),some (.ref 3),none,some (aK "__main__" 164),none,some (.ref 0)]⟩,aL,bi,(bI 190 ["k"]),aL,(df 0),(ik "_wall" 187 1 1 15 191),(dh 0 (aK "__main__" 164) 20),aL,bi,(df 2),(fC "plain_cells_of" "plain_cells_of" 196 5 1 22),(dh 2 (aK "seekhall.forms" 194) 25),aL,bi,(bI 205 ["wish","own","inner"]),aL,(df 3),(ik "cells_of" 202 11 1 27 208),(dh 3 (aK "seekhall.forms" 194) 32),aL,bi,(bI 216 ["number","low","high"]),aL,(df 5),(ik "is_between" 213 19 3 34 219),(dh 5 (aK "seekhall.keeping" 211) 39),aL,(dg (.type "builtin_function_or_method") [(.builtin "type.__prepare__"),(.type "type")] #[]),(ju (.type "dict") [bH P "__module__" 231 (aK "seekhall.wishes" 222),bH P "__qualname__" 233 (aK "Wish" 232),bH P "__firstlineno__" 235 (.int 22 234),aD P "__init__" 243 54,aD P "kept" 251 61,aD P "may_keep" 259 68,aD P "may_break" 267 75,aD P "__static_attributes__" 269 76] 8 #[]),aL,(dg .none [(.int 24 0),(.int 4 0),(.ref 53),(.int 27 0),(.int 4 0),(.ref 60),(.int 30 0),(.int 4 0),(.ref 67),(.int 33 0),(.int 4 0),(.ref 74)] #[]),(rE "Wish" 226 22 44),⟨(.type "frame"),none,.plain,#[some (.ref 46),some (.ref 3),some (.ref 43),none,some (aK "seekhall.wishes" 222),none,some (.ref 0)]⟩,aL,bi,(bI 239 ["self","wish"]),aL,(cH "Wish.__init__" (bc 7 0)),(dG "__init__" "Wish.__init__" 236 24 2 48 241),(cG "Wish.__init__" (bc 7 0) (aK "seekhall.wishes" 222) 53),aL,bi,(bI 247 ["self","filling"]),aL,(cH "Wish.kept" (bc 7 1)),(dG "kept" "Wish.kept" 244 27 2 55 249),(cG "Wish.kept" (bc 7 1) (aK "seekhall.wishes" 222) 60),aL,bi,(bI 255 ["self","rooms"]),aL,(cH "Wish.may_keep" (bc 7 2)),(dG "may_keep" "Wish.may_keep" 252 30 2 62 257),(cG "Wish.may_keep" (bc 7 2) (aK "seekhall.wishes" 222) 67),aL,bi,(bI 263 ["self","rooms"]),aL,(cH "Wish.may_break" (bc 7 3)),(dG "may_break" "Wish.may_break" 260 33 2 69 265),(cG "Wish.may_break" (bc 7 3) (aK "seekhall.wishes" 222) 74),(bI 268 ["wish"]),(ju (.type "dict") [bH P "__module__" 231 (aK "seekhall.wishes" 222),bH P "__firstlineno__" 235 (.int 22 234),aD P "__init__" 243 54,aD P "kept" 251 61,aD P "may_keep" 259 68,aD P "may_break" 267 75,aD P "__static_attributes__" 269 76,aD P "__dict__" 271 79,aD P "__weakref__" 273 80,bH P "__doc__" 274 .none] 4 #[])]
noncomputable def HF (P:Params):List Obj:=[(dg (.type "getset_descriptor") [(aK "__dict__" 270),(.ref 78),(.builtin "function.__dict__"),(.builtin "function.__dict__#set")] #[]),(dg (.type "getset_descriptor") [(aK "__weakref__" 272),(.ref 78),(.builtin "ExceptionGroup.__weakref__"),.none] #[]),(dg (.type "super") [(.ref 78),(.ref 78),(.ref 78)] #[]),(dg (.type "builtin_function_or_method") [(.builtin "object.__init_subclass__"),(.ref 78)] #[]),(uB [(.ref 78)]),(dg (.type "builtin_function_or_method") [(.builtin "type.__prepare__"),(.type "type")] #[]),(ju (.type "dict") [bH P "__module__" 286 (aK "seekhall.behinds" 277),bH P "__qualname__" 288 (aK "Behind" 287),bH P "__firstlineno__" 290 (.int 36 289),aD P "__init__" 298 96,aD P "kept" 306 103,aD P "may_keep" 312 108,aD P "may_break" 318 113,aD P "__static_attributes__" 321 114] 8 #[]),aL,(dg .none [(.int 38 0),(.int 4 0),(.ref 95),(.int 43 0),(.int 4 0),(.ref 102),(.int 46 0),(.int 4 0),(.ref 107),(.int 55 0),(.int 4 0),(.ref 112)] #[]),(rE "Behind" 281 36 86),⟨(.type "frame"),none,.plain,#[some (.ref 88),some (.ref 3),some (.ref 85),none,some (aK "seekhall.behinds" 277),none,some (.ref 0)]⟩,aL,bi,(bI 294 ["self","wish"]),aL,(cH "Behind.__init__" (bc 9 0)),(dG "__init__" "Behind.__init__" 291 38 2 90 296),(cG "Behind.__init__" (bc 9 0) (aK "seekhall.behinds" 277) 95),aL,bi,(bI 302 ["self","filling"]),aL,(cH "Behind.kept" (bc 9 1)),(dG "kept" "Behind.kept" 299 43 2 97 304),(cG "Behind.kept" (bc 9 1) (aK "seekhall.behinds" 277) 102),aL,bi,(cH "Behind.may_keep" (bc 9 2)),(fC "may_keep" "Behind.may_keep" 307 46 2 104),(cG "Behind.may_keep" (bc 9 2) (aK "seekhall.behinds" 277) 107),aL,bi,(cH "Behind.may_break" (bc 9 3)),(fC "may_break" "Behind.may_break" 313 55 2 109),(cG "Behind.may_break" (bc 9 3) (aK "seekhall.behinds" 277) 112),(bI 319 ["cells","gap"]),(ju (.type "dict") [bH P "__module__" 286 (aK "seekhall.behinds" 277),bH P "__firstlineno__" 290 (.int 36 289),aD P "__init__" 298 96,aD P "kept" 306 103,aD P "may_keep" 312 108,aD P "may_break" 318 113,aD P "__static_attributes__" 321 114,bH P "__doc__" 322 .none] 2 #[]),⟨(.type "type"),none,.cls ⟨b_ "Behind",[(.ref 78)],[(.ref 116),(.ref 78),(.type "object")],115,b_ "Behind",.true,[],[],.false,none,.false⟩,#[some (.ref 83),none,some (aK "Behind" 279),some (aK "Behind" 287),some (.builtin "object.__new__"),some (.bool .true)]⟩,(dg (.type "super") [(.ref 116),(.ref 116),(.ref 116)] #[]),(dg (.type "builtin_function_or_method") [(.builtin "object.__init_subclass__"),(.ref 116)] #[]),(uB [(.ref 78)]),(dg (.type "builtin_function_or_method") [(.builtin "type.__prepare__"),(.type "type")] #[]),(ju (.type "dict") [bH P "__module__" 334 (aK "seekhall.manies" 325),bH P "__qualname__" 336 (aK "Many" 335),bH P "__firstlineno__" 338 (.int 59 337),aD P "__init__" 346 132,aD P "kept" 354 139,aD P "fewest" 360 144,aD P "most" 366 149,aD P "may_keep" 374 156,aD P "may_break" 382 163,aD P "__static_attributes__" 387 164] 10 #[]),aL,(dg .none [(.int 61 0),(.int 4 0),(.ref 131),(.int 68 0),(.int 4 0),(.ref 138),(.int 71 0),(.int 4 0),(.ref 143),(.int 74 0),(.int 4 0),(.ref 148),(.int 77 0),(.int 4 0),(.ref 155),(.int 80 0),(.int 4 0),(.ref 162)] #[]),(rE "Many" 329 59 122),⟨(.type "frame"),none,.plain,#[some (.ref 124),some (.ref 3),some (.ref 121),none,some (aK "seekhall.manies" 325),none,some (.ref 0)]⟩,aL,bi,(bI 342 ["self","wish"]),aL,(cH "Many.__init__" (bc 11 0)),(dG "__init__" "Many.__init__" 339 61 2 126 344),(cG "Many.__init__" (bc 11 0) (aK "seekhall.manies" 325) 131),aL,bi,(bI 350 ["self","filling"]),aL,(cH "Many.kept" (bc 11 1)),(dG "kept" "Many.kept" 347 68 2 133 352),(cG "Many.kept" (bc 11 1) (aK "seekhall.manies" 325) 138),aL,bi,(cH "Many.fewest" (bc 11 2)),(fC "fewest" "Many.fewest" 355 71 2 140),(cG "Many.fewest" (bc 11 2) (aK "seekhall.manies" 325) 143),aL,bi,(cH "Many.most" (bc 11 3)),(fC "most" "Many.most" 361 74 2 145),(cG "Many.most" (bc 11 3) (aK "seekhall.manies" 325) 148),aL,bi,(bI 370 ["self","rooms"]),aL,(cH "Many.may_keep" (bc 11 4)),(dG "may_keep" "Many.may_keep" 367 77 2 150 372),(cG "Many.may_keep" (bc 11 4) (aK "seekhall.manies" 325) 155),aL,bi,(bI 378 ["self","rooms"]),aL,(cH "Many.may_break" (bc 11 5)),(dG "may_break" "Many.may_break" 375 80 2 157 380),(cG "Many.may_break" (bc 11 5) (aK "seekhall.manies" 325) 162),(bI 383 ["among","cells","high","low"]),(ju (.type "dict") [bH P "__module__" 334 (aK "seekhall.manies" 325),bH P "__firstlineno__" 338 (.int 59 337),aD P "__init__" 346 132,aD P "kept" 354 139,aD P "fewest" 360 144,aD P "most" 366 149,aD P "may_keep" 374 156,aD P "may_break" 382 163,aD P "__static_attributes__" 387 164,bH P "__doc__" 388 .none] 2 #[]),⟨(.type "type"),none,.cls ⟨b_ "Many",[(.ref 78)],[(.ref 166),(.ref 78),(.type "object")],165,b_ "Many",.true,[],[],.false,none,.false⟩,#[some (.ref 119),none,some (aK "Many" 327),some (aK "Many" 335),some (.builtin "object.__new__"),some (.bool .true)]⟩,(dg (.type "super") [(.ref 166),(.ref 166),(.ref 166)] #[]),(dg (.type "builtin_function_or_method") [(.builtin "object.__init_subclass__"),(.ref 166)] #[]),(uB [(.ref 78)]),(dg (.type "builtin_function_or_method") [(.builtin "type.__prepare__"),(.type "type")] #[]),(ju (.type "dict") [bH P "__module__" 400 (aK "seekhall.steps" 391),bH P "__qualname__" 402 (aK "Way" 401),bH P "__firstlineno__" 404 (.int 83 403),aD P "__init__" 413 182,aD P "kept" 421 189,aD P "states_behind" 433 196,aD P "last_states" 443 203,aD P "may_keep" 449 208,aD P "may_break" 455 213,aD P "__static_attributes__" 459 214] 10 #[]),aL,(dg .none [(.int 85 0),(.int 4 0),(.ref 181),(.int 93 0),(.int 4 0),(.ref 188),(.int 96 0),(.int 4 0),(.ref 195),(.int 103 0),(.int 4 0),(.ref 202),(.int 109 0),(.int 4 0),(.ref 207),(.int 112 0),(.int 4 0),(.ref 212)] #[]),(rE "Way" 395 83 172),⟨(.type "frame"),none,.plain,#[some (.ref 174),some (.ref 3),some (.ref 171),none,some (aK "seekhall.steps" 391),none,some (.ref 0)]⟩,aL,bi,(bI 408 ["self","wish","step"]),aL,(cH "Way.__init__" (bc 13 0)),(dG "__init__" "Way.__init__" 405 85 2 176 411),(cG "Way.__init__" (bc 13 0) (aK "seekhall.steps" 391) 181),aL,bi,(bI 417 ["self","filling"]),aL,(cH "Way.kept" (bc 13 1)),(dG "kept" "Way.kept" 414 93 2 183 419),(cG "Way.kept" (bc 13 1) (aK "seekhall.steps" 391) 188),aL,bi,(bI 425 ["self","states","room","behind","state","value"]),aL,(cH "Way.states_behind" (bc 13 2)),(dG "states_behind" "Way.states_behind" 422 96 3 190 431),(cG "Way.states_behind" (bc 13 2) (aK "seekhall.steps" 391) 195),aL,bi,(bI 437 ["self","rooms","states","cell"]),aL,(cH "Way.last_states" (bc 13 3)),(dG "last_states" "Way.last_states" 434 103 2 197 441),(cG "Way.last_states" (bc 13 3) (aK "seekhall.steps" 391) 202),aL,bi,(cH "Way.may_keep" (bc 13 4)),(fC "may_keep" "Way.may_keep" 444 109 2 204),(cG "Way.may_keep" (bc 13 4) (aK "seekhall.steps" 391) 207),aL,bi,(cH "Way.may_break" (bc 13 5)),(fC "may_break" "Way.may_break" 450 112 2 209),(cG "Way.may_break" (bc 13 5) (aK "seekhall.steps" 391) 212),(bI 456 ["cells","ends","leads"]),(ju (.type "dict") [bH P "__module__" 400 (aK "seekhall.steps" 391),bH P "__firstlineno__" 404 (.int 83 403),aD P "__init__" 413 182,aD P "kept" 421 189,aD P "states_behind" 433 196,aD P "last_states" 443 203,aD P "may_keep" 449 208,aD P "may_break" 455 213,aD P "__static_attributes__" 459 214,bH P "__doc__" 460 .none] 2 #[]),⟨(.type "type"),none,.cls ⟨b_ "Way",[(.ref 78)],[(.ref 216),(.ref 78),(.type "object")],215,b_ "Way",.true,[],[],.false,none,.false⟩,#[some (.ref 169),none,some (aK "Way" 393),some (aK "Way" 401),some (.builtin "object.__new__"),some (.bool .true)]⟩,(dg (.type "super") [(.ref 216),(.ref 216),(.ref 216)] #[]),(dg (.type "builtin_function_or_method") [(.builtin "object.__init_subclass__"),(.ref 216)] #[]),aL,bi,(df 15),(fC "parts_of" "parts_of" 465 115 2 219),(dh 15 (aK "seekhall.sums" 463) 222),aL,bi,(bI 474 ["terms","rooms","spans","term","parts"]),aL,(df 16),(ik "spans_of" 471 117 2 224 479),(dh 16 (aK "seekhall.sums" 463) 229),(uB [(.ref 78)]),(dg (.type "builtin_function_or_method") [(.builtin "type.__prepare__"),(.type "type")] #[]),(ju (.type "dict") [bH P "__module__" 489 (aK "seekhall.sums" 463),bH P "__qualname__" 491 (aK "Sum" 490),bH P "__firstlineno__" 493 (.int 123 492),aD P "__init__" 501 244,aD P "kept" 509 251,aD P "may_end_well" 520 258,aD P "sums_with" 533 265,aD P "sums_kept" 545 272,aD P "may_keep" 553 279,aD P "may_break" 562 286,aD P "__static_attributes__" 566 287] 11 #[]),aL,(dg .none [(.int 125 0),(.int 4 0),(.ref 243),(.int 131 0),(.int 4 0),(.ref 250),(.int 134 0),(.int 4 0),(.ref 257),(.int 139 0),(.int 4 0),(.ref 264),(.int 147 0),(.int 4 0),(.ref 271),(.int 154 0),(.int 4 0),(.ref 278),(.int 157 0),(.int 4 0),(.ref 285)] #[]),(rE "Sum" 484 123 234),⟨(.type "frame"),none,.plain,#[some (.ref 236),some (.ref 3),some (.ref 233),none,some (aK "seekhall.sums" 463),none,some (.ref 0)]⟩,aL,bi,(bI 497 ["self","wish"]),aL,(cH "Sum.__init__" (bc 17 0)),(dG "__init__" "Sum.__init__" 494 125 2 238 499),(cG "Sum.__init__" (bc 17 0) (aK "seekhall.sums" 463) 243),aL,bi,(bI 505 ["self","filling"]),aL,(cH "Sum.kept" (bc 17 1)),(dG "kept" "Sum.kept" 502 131 2 245 507),(cG "Sum.kept" (bc 17 1) (aK "seekhall.sums" 463) 250),aL,bi,(bI 513 ["self","reached","behind","may_rise_to_low","may_fall_to_high"]),aL,(cH "Sum.may_end_well" (bc 17 2)),(dG "may_end_well" "Sum.may_end_well" 510 134 3 252 518),(cG "Sum.may_end_well" (bc 17 2) (aK "seekhall.sums" 463) 257),aL,bi,(bI 524 ["self","reached","parts","behind","further","part","earlier"]),aL,(cH "Sum.sums_with" (bc 17 3)),(dG "sums_with" "Sum.sums_with" 521 139 4 259 531),(cG "Sum.sums_with" (bc 17 3) (aK "seekhall.sums" 463) 264),aL,bi,(bI 537 ["self","rooms","spans","reached","number","term"]),aL,(cH "Sum.sums_kept" (bc 17 4)),(dG "sums_kept" "Sum.sums_kept" 534 147 2 266 543),(cG "Sum.sums_kept" (bc 17 4) (aK "seekhall.sums" 463) 271),aL,bi,(bI 549 ["self","rooms"]),aL,(cH "Sum.may_keep" (bc 17 5)),(dG "may_keep" "Sum.may_keep" 546 154 2 273 551),(cG "Sum.may_keep" (bc 17 5) (aK "seekhall.sums" 463) 278),aL,bi,(bI 557 ["self","rooms","span"]),aL,(cH "Sum.may_break" (bc 17 6)),(dG "may_break" "Sum.may_break" 554 157 2 280 560),(cG "Sum.may_break" (bc 17 6) (aK "seekhall.sums" 463) 285),(bI 563 ["high","low","terms"]),(ju (.type "dict") [bH P "__module__" 489 (aK "seekhall.sums" 463),bH P "__firstlineno__" 493 (.int 123 492),aD P "__init__" 501 244,aD P "kept" 509 251,aD P "may_end_well" 520 258,aD P "sums_with" 533 265,aD P "sums_kept" 545 272,aD P "may_keep" 553 279,aD P "may_break" 562 286,aD P "__static_attributes__" 566 287,bH P "__doc__" 567 .none] 2 #[]),⟨(.type "type"),none,.cls ⟨b_ "Sum",[(.ref 78)],[(.ref 289),(.ref 78),(.type "object")],288,b_ "Sum",.true,[],[],.false,none,.false⟩,#[some (.ref 231),none,some (aK "Sum" 482),some (aK "Sum" 490),some (.builtin "object.__new__"),some (.bool .true)]⟩,(dg (.type "super") [(.ref 289),(.ref 289),(.ref 289)] #[]),(dg (.type "builtin_function_or_method") [(.builtin "object.__init_subclass__"),(.ref 289)] #[])]
noncomputable def IX (P:Params):List Obj:=[(uB [(.ref 78)]),(dg (.type "builtin_function_or_method") [(.builtin "type.__prepare__"),(.type "type")] #[]),(ju (.type "dict") [bH P "__module__" 579 (aK "seekhall.tables" 570),bH P "__qualname__" 581 (aK "Table" 580),bH P "__firstlineno__" 583 (.int 161 582),aD P "__init__" 591 305,aD P "kept" 599 312,aD P "has_room" 605 317,aD P "rows_in" 611 322,aD P "may_keep" 619 329,aD P "may_break" 629 336,aD P "__static_attributes__" 632 337] 10 #[]),aL,(dg .none [(.int 163 0),(.int 4 0),(.ref 304),(.int 168 0),(.int 4 0),(.ref 311),(.int 171 0),(.int 4 0),(.ref 316),(.int 174 0),(.int 4 0),(.ref 321),(.int 177 0),(.int 4 0),(.ref 328),(.int 180 0),(.int 4 0),(.ref 335)] #[]),(rE "Table" 574 161 295),⟨(.type "frame"),none,.plain,#[some (.ref 297),some (.ref 3),some (.ref 294),none,some (aK "seekhall.tables" 570),none,some (.ref 0)]⟩,aL,bi,(bI 587 ["self","wish"]),aL,(cH "Table.__init__" (bc 19 0)),(dG "__init__" "Table.__init__" 584 163 2 299 589),(cG "Table.__init__" (bc 19 0) (aK "seekhall.tables" 570) 304),aL,bi,(bI 595 ["self","filling"]),aL,(cH "Table.kept" (bc 19 1)),(dG "kept" "Table.kept" 592 168 2 306 597),(cG "Table.kept" (bc 19 1) (aK "seekhall.tables" 570) 311),aL,bi,(cH "Table.has_room" (bc 19 2)),(fC "has_room" "Table.has_room" 600 171 3 313),(cG "Table.has_room" (bc 19 2) (aK "seekhall.tables" 570) 316),aL,bi,(cH "Table.rows_in" (bc 19 3)),(fC "rows_in" "Table.rows_in" 606 174 2 318),(cG "Table.rows_in" (bc 19 3) (aK "seekhall.tables" 570) 321),aL,bi,(bI 615 ["self","rooms"]),aL,(cH "Table.may_keep" (bc 19 4)),(dG "may_keep" "Table.may_keep" 612 177 2 323 617),(cG "Table.may_keep" (bc 19 4) (aK "seekhall.tables" 570) 328),aL,bi,(bI 623 ["self","rooms","fillings","cell"]),aL,(cH "Table.may_break" (bc 19 5)),(dG "may_break" "Table.may_break" 620 180 2 330 627),(cG "Table.may_break" (bc 19 5) (aK "seekhall.tables" 570) 335),(bI 630 ["cells","rows"]),(ju (.type "dict") [bH P "__module__" 579 (aK "seekhall.tables" 570),bH P "__firstlineno__" 583 (.int 161 582),aD P "__init__" 591 305,aD P "kept" 599 312,aD P "has_room" 605 317,aD P "rows_in" 611 322,aD P "may_keep" 619 329,aD P "may_break" 629 336,aD P "__static_attributes__" 632 337,bH P "__doc__" 633 .none] 2 #[]),⟨(.type "type"),none,.cls ⟨b_ "Table",[(.ref 78)],[(.ref 339),(.ref 78),(.type "object")],338,b_ "Table",.true,[],[],.false,none,.false⟩,#[some (.ref 292),none,some (aK "Table" 572),some (aK "Table" 580),some (.builtin "object.__new__"),some (.bool .true)]⟩,(dg (.type "super") [(.ref 339),(.ref 339),(.ref 339)] #[]),(dg (.type "builtin_function_or_method") [(.builtin "object.__init_subclass__"),(.ref 339)] #[]),aL,bi,(bI 641 ["cell","rooms","holders","tried","value"]),aL,(df 21),(ik "finds_value" 638 186 4 342 646),(dh 21 (aK "seekhall.unlikes" 636) 347),(uB [(.ref 78)]),(dg (.type "builtin_function_or_method") [(.builtin "type.__prepare__"),(.type "type")] #[]),(ju (.type "dict") [bH P "__module__" 656 (aK "seekhall.unlikes" 636),bH P "__qualname__" 658 (aK "Unlike" 657),bH P "__firstlineno__" 660 (.int 194 659),aD P "__init__" 668 362,aD P "kept" 676 369,aD P "may_keep" 686 376,aD P "may_break" 697 383,aD P "__static_attributes__" 699 384] 8 #[]),aL,(dg .none [(.int 196 0),(.int 4 0),(.ref 361),(.int 200 0),(.int 4 0),(.ref 368),(.int 203 0),(.int 4 0),(.ref 375),(.int 210 0),(.int 4 0),(.ref 382)] #[]),(rE "Unlike" 651 194 352),⟨(.type "frame"),none,.plain,#[some (.ref 354),some (.ref 3),some (.ref 351),none,some (aK "seekhall.unlikes" 636),none,some (.ref 0)]⟩,aL,bi,(bI 664 ["self","wish"]),aL,(cH "Unlike.__init__" (bc 22 0)),(dG "__init__" "Unlike.__init__" 661 196 2 356 666),(cG "Unlike.__init__" (bc 22 0) (aK "seekhall.unlikes" 636) 361),aL,bi,(bI 672 ["self","filling"]),aL,(cH "Unlike.kept" (bc 22 1)),(dG "kept" "Unlike.kept" 669 200 2 363 674),(cG "Unlike.kept" (bc 22 1) (aK "seekhall.unlikes" 636) 368),aL,bi,(bI 680 ["self","rooms","holders","cell"]),aL,(cH "Unlike.may_keep" (bc 22 2)),(dG "may_keep" "Unlike.may_keep" 677 203 2 370 684),(cG "Unlike.may_keep" (bc 22 2) (aK "seekhall.unlikes" 636) 375),aL,bi,(bI 690 ["self","rooms","seen","cell","value"]),aL,(cH "Unlike.may_break" (bc 22 3)),(dG "may_break" "Unlike.may_break" 687 210 2 377 695),(cG "Unlike.may_break" (bc 22 3) (aK "seekhall.unlikes" 636) 382),(bI 698 ["cells"]),(ju (.type "dict") [bH P "__module__" 656 (aK "seekhall.unlikes" 636),bH P "__firstlineno__" 660 (.int 194 659),aD P "__init__" 668 362,aD P "kept" 676 369,aD P "may_keep" 686 376,aD P "may_break" 697 383,aD P "__static_attributes__" 699 384,bH P "__doc__" 700 .none] 2 #[]),⟨(.type "type"),none,.cls ⟨b_ "Unlike",[(.ref 78)],[(.ref 386),(.ref 78),(.type "object")],385,b_ "Unlike",.true,[],[],.false,none,.false⟩,#[some (.ref 349),none,some (aK "Unlike" 649),some (aK "Unlike" 657),some (.builtin "object.__new__"),some (.bool .true)]⟩,(dg (.type "super") [(.ref 386),(.ref 386),(.ref 386)] #[]),(dg (.type "builtin_function_or_method") [(.builtin "object.__init_subclass__"),(.ref 386)] #[]),aL,bi,(bI 708 ["wish"]),aL,(df 24),(ik "plain_wish_of" 705 219 1 389 709),(dh 24 (aK "seekhall.sames" 703) 394),(uB [(.ref 78)]),(dg (.type "builtin_function_or_method") [(.builtin "type.__prepare__"),(.type "type")] #[]),(ju (.type "dict") [bH P "__module__" 719 (aK "seekhall.sames" 703),bH P "__qualname__" 721 (aK "Same" 720),bH P "__firstlineno__" 723 (.int 231 722),aD P "__init__" 731 409,aD P "kept" 739 416,aD P "may_be_among" 745 421,aD P "may_be_none_of_them" 751 426,aD P "may_keep" 759 433,aD P "may_break" 767 440,aD P "__static_attributes__" 771 441] 10 #[]),aL,(dg .none [(.int 233 0),(.int 4 0),(.ref 408),(.int 239 0),(.int 4 0),(.ref 415),(.int 242 0),(.int 4 0),(.ref 420),(.int 245 0),(.int 4 0),(.ref 425),(.int 248 0),(.int 4 0),(.ref 432),(.int 251 0),(.int 4 0),(.ref 439)] #[]),(rE "Same" 714 231 399),⟨(.type "frame"),none,.plain,#[some (.ref 401),some (.ref 3),some (.ref 398),none,some (aK "seekhall.sames" 703),none,some (.ref 0)]⟩,aL,bi,(bI 727 ["self","wish"]),aL,(cH "Same.__init__" (bc 25 0)),(dG "__init__" "Same.__init__" 724 233 2 403 729),(cG "Same.__init__" (bc 25 0) (aK "seekhall.sames" 703) 408),aL,bi,(bI 735 ["self","filling"]),aL,(cH "Same.kept" (bc 25 1)),(dG "kept" "Same.kept" 732 239 2 410 737),(cG "Same.kept" (bc 25 1) (aK "seekhall.sames" 703) 415),aL,bi,(cH "Same.may_be_among" (bc 25 2)),(fC "may_be_among" "Same.may_be_among" 740 242 2 417),(cG "Same.may_be_among" (bc 25 2) (aK "seekhall.sames" 703) 420),aL,bi,(cH "Same.may_be_none_of_them" (bc 25 3)),(fC "may_be_none_of_them" "Same.may_be_none_of_them" 746 245 2 422),(cG "Same.may_be_none_of_them" (bc 25 3) (aK "seekhall.sames" 703) 425),aL,bi,(bI 755 ["self","rooms"]),aL,(cH "Same.may_keep" (bc 25 4)),(dG "may_keep" "Same.may_keep" 752 248 2 427 757),(cG "Same.may_keep" (bc 25 4) (aK "seekhall.sames" 703) 432),aL,bi,(bI 763 ["self","rooms"]),aL,(cH "Same.may_break" (bc 25 5)),(dG "may_break" "Same.may_break" 760 251 2 434 765),(cG "Same.may_break" (bc 25 5) (aK "seekhall.sames" 703) 439),(bI 768 ["among","cell","inner"]),(ju (.type "dict") [bH P "__module__" 719 (aK "seekhall.sames" 703),bH P "__firstlineno__" 723 (.int 231 722),aD P "__init__" 731 409,aD P "kept" 739 416,aD P "may_be_among" 745 421,aD P "may_be_none_of_them" 751 426,aD P "may_keep" 759 433,aD P "may_break" 767 440,aD P "__static_attributes__" 771 441,bH P "__doc__" 772 .none] 2 #[]),⟨(.type "type"),none,.cls ⟨b_ "Same",[(.ref 78)],[(.ref 443),(.ref 78),(.type "object")],442,b_ "Same",.true,[],[],.false,none,.false⟩,#[some (.ref 396),none,some (aK "Same" 712),some (aK "Same" 720),some (.builtin "object.__new__"),some (.bool .true)]⟩,(dg (.type "super") [(.ref 443),(.ref 443),(.ref 443)] #[]),(dg (.type "builtin_function_or_method") [(.builtin "object.__init_subclass__"),(.ref 443)] #[]),aL,bi,(bI 780 ["wish"]),aL,(df 27),(ik "wish_of" 777 254 1 446 781),(dh 27 (aK "seekhall.sorts" 775) 451),aL,bi,(df 29),(fC "rooms_of" "rooms_of" 786 259 2 453),(dh 29 (aK "seekhall.lookers" 784) 456),aL,bi,(bI 795 ["rooms","cell","room","changed"]),aL,(df 30),(ik "with_room" 792 261 3 458 799),(dh 30 (aK "seekhall.lookers" 784) 463),aL,bi,(df 31),(fC "room_and" "room_and" 802 265 3 465),(dh 31 (aK "seekhall.lookers" 784) 468),aL,bi,(bI 811 ["asked","cell","first","rooms","whole","widest","value","wider"]),aL,(df 32),(ik "widened_at" 808 267 4 470 819),(dh 32 (aK "seekhall.lookers" 784) 475),aL,bi,(bI 825 ["asked","cells","first","rooms","widest","cell"]),aL,(df 33),(ik "widened" 822 278 4 477 831),(dh 33 (aK "seekhall.lookers" 784) 482),aL,bi,(df 34),(fC "missing" "missing" 834 284 3 484),(dh 34 (aK "seekhall.lookers" 784) 487),aL,bi,(bI 843 ["cells","first","rooms","literals","cell"]),aL,(df 35),(ik "missing_of" 840 286 3 489 848),(dh 35 (aK "seekhall.lookers" 784) 494),aL,bi,(df 36),(fC "clause_against" "clause_against" 851 291 5 496),(dh 36 (aK "seekhall.lookers" 784) 499),aL,bi,(bI 860 ["asked","first","now","cells","rooms","told","cell","value","alone"]),aL,(df 37),(ik "taken_by" 857 295 3 501 869),(dh 37 (aK "seekhall.lookers" 784) 506),aL,bi,(bI 875 ["wish","first","now"]),aL,(df 38),(ik "looked_at" 872 305 3 508 878),(dh 38 (aK "seekhall.lookers" 784) 513),aL,bi,(df 40),(fC "_law_deal" "_law_deal" 883 308 2 515),(dh 40 (aK "law_seekhall_k32_values_taken_away" 881) 518),aL,bi,(bI 892 ["_law_deal_here","_law_many","_law_number","_law_one","_law_other"]),aL,(df 41),(ik "_law_draw" 889 314 2 520 897),(dh 41 (aK "law_seekhall_k32_values_taken_away" 881) 525),aL,bi,(df 42),(fC "_law_names" "_law_names" 900 325 2 527),(dh 42 (aK "law_seekhall_k32_values_taken_away" 881) 530),aL,bi,(bI 909 ["_law_deal_here","_law_value","_law_pool_here","_law_k"]),aL,(df 43),(ik "_law_pool" 906 337 1 532 913),(dh 43 (aK "law_seekhall_k32_values_taken_away" 881) 537),aL,bi,(df 44),(fC "_law_rooms" "_law_rooms" 916 346 4 539),(dh 44 (aK "law_seekhall_k32_values_taken_away" 881) 542),aL,bi,(bI 925 ["_law_deal_here","_law_things","_law_least","_law_left","_law_found","_law_k"]),aL,(df 45),(ik "_law_some" 922 354 3 544 931),(dh 45 (aK "law_seekhall_k32_values_taken_away" 881) 549),aL,bi,(bI 937 ["_law_deal_here","_law_low","_law_high","_law_one","_law_other"]),aL,(df 46),(ik "_law_bounds" 934 360 3 551 942),(dh 46 (aK "law_seekhall_k32_values_taken_away" 881) 556),aL,bi,(df 47),(fC "_law_sum" "_law_sum" 945 364 3 558),(dh 47 (aK "law_seekhall_k32_values_taken_away" 881) 561),aL,bi,(df 48),(fC "_law_rows" "_law_rows" 951 375 3 563),(dh 48 (aK "law_seekhall_k32_values_taken_away" 881) 566),aL,bi,(df 49),(fC "_law_way" "_law_way" 957 382 3 568),(dh 49 (aK "law_seekhall_k32_values_taken_away" 881) 571),aL,bi,(df 50),(fC "_law_wish" "_law_wish" 963 391 5 573),(dh 50 (aK "law_seekhall_k32_values_taken_away" 881) 576),aL,bi,(df 51),(fC "_law_kept" "_law_kept" 969 412 2 578),(dh 51 (aK "law_seekhall_k32_values_taken_away" 881) 581),aL,bi,(bI 978 ["_law_names_here","_law_rooms_here","_law_fillings_here","_law_name","_law_more","_law_filling","_law_value","_law_other"]),aL,(df 52),(ik "_law_fillings" 975 434 2 583 986),(dh 52 (aK "law_seekhall_k32_values_taken_away" 881) 588),aL,bi,(df 53),(fC "_law_cells_of" "_law_cells_of" 989 445 1 590),(dh 53 (aK "law_seekhall_k32_values_taken_away" 881) 593),aL,bi,(df 54),(fC "_law_now" "_law_now" 995 453 2 595),(dh 54 (aK "law_seekhall_k32_values_taken_away" 881) 598),aL,bi,(df 55),(fC "_law_due" "_law_due" 1001 461 2 600),(dh 55 (aK "law_seekhall_k32_values_taken_away" 881) 603),aL,bi,(bI 1010 ["_law_found","_law_due_here","_law_k"]),aL,(df 56),(ik "_law_told" 1007 471 2 605 1013),(dh 56 (aK "law_seekhall_k32_values_taken_away" 881) 610),aL,bi,(bI 1019 ["_law_script","_law_deal_here","_law_names_here","_law_pool_here","_law_first","_law_wish_here","_law_now_here","_law_due_here","_law_handed","_law_found"]),aL,(df 57),(ik "law" 1016 480 1 612 1029),(dh 57 (aK "law_seekhall_k32_values_taken_away" 881) 617)]
noncomputable def Io (P:Params):List Obj:=Ia P++(ju (.type "dict") [bH P "__name__" 165 (aK "seekhall.tables" 570),bH P "__doc__" 166 .none,bH P "__package__" 167 .none,bH P "__loader__" 168 (.builtin "__main__.__loader__#opaque"),bH P "__spec__" 169 .none,aD P "__annotations__" 170 6,aD P "__builtins__" 171 4,bH P "__file__" 173 (aK "/claim/cut.py" 172),bH P "__cached__" 174 .none,aD P "_wall" 193 21,aD P "plain_cells_of" 201 26,aD P "cells_of" 210 33,aD P "is_between" 221 40,aD P "Wish" 276 78,aD P "Behind" 324 116,aD P "Many" 390 166,aD P "Way" 462 216,aD P "parts_of" 470 223,aD P "spans_of" 481 230,aD P "Sum" 569 289] 20 #[]) ::(H0 P++(Hb [(1,20),(5,25),(11,32),(19,39),(22,46),(36,88),(59,124),(83,174),(115,222),(117,229),(123,236)]) ::(HU P++⟨(.type "type"),none,.cls ⟨b_ "Wish",[(.type "object")],[(.ref 78),(.type "object")],77,b_ "Wish",.true,[],[(.ref 116),(.ref 166),(.ref 216),(.ref 289)],.false,none,.false⟩,#[none,none,some (aK "Wish" 224),some (aK "Wish" 232),some (.builtin "object.__new__"),some (.bool .true)]⟩ :: HF P))
noncomputable def HL (P:Params):List Obj:=Ia P++(ju (.type "dict") [bH P "__name__" 165 (aK "law_seekhall_k32_values_taken_away" 881),bH P "__doc__" 166 .none,bH P "__package__" 167 .none,bH P "__loader__" 168 (.builtin "__main__.__loader__#opaque"),bH P "__spec__" 169 .none,aD P "__annotations__" 170 6,aD P "__builtins__" 171 4,bH P "__file__" 173 (aK "/claim/cut.py" 172),bH P "__cached__" 174 .none,aD P "_wall" 193 21,aD P "plain_cells_of" 201 26,aD P "cells_of" 210 33,aD P "is_between" 221 40,aD P "Wish" 276 78,aD P "Behind" 324 116,aD P "Many" 390 166,aD P "Way" 462 216,aD P "parts_of" 470 223,aD P "spans_of" 481 230,aD P "Sum" 569 289,aD P "Table" 635 339,aD P "finds_value" 648 348,aD P "Unlike" 702 386,aD P "plain_wish_of" 711 395,aD P "Same" 774 443,aD P "wish_of" 783 452,aD P "rooms_of" 791 457,aD P "with_room" 801 464,aD P "room_and" 807 469,aD P "widened_at" 821 476,aD P "widened" 833 483,aD P "missing" 839 488,aD P "missing_of" 850 495,aD P "clause_against" 856 500,aD P "taken_by" 871 507,aD P "looked_at" 880 514,aD P "_law_deal" 888 519,aD P "_law_draw" 899 526,aD P "_law_names" 905 531,aD P "_law_pool" 915 538,aD P "_law_rooms" 921 543,aD P "_law_some" 933 550,aD P "_law_bounds" 944 557,aD P "_law_sum" 950 562,aD P "_law_rows" 956 567,aD P "_law_way" 962 572,aD P "_law_wish" 968 577,aD P "_law_kept" 974 582,aD P "_law_fillings" 988 589,aD P "_law_cells_of" 994 594,aD P "_law_now" 1000 599,aD P "_law_due" 1006 604,aD P "_law_told" 1015 611,aD P "law" 1031 618] 54 #[]) ::(H0 P++(Hb [(1,20),(5,25),(11,32),(19,39),(22,46),(36,88),(59,124),(83,174),(115,222),(117,229),(123,236),(161,297),(186,347),(194,354),(219,394),(231,401),(254,451),(259,456),(261,463),(265,468),(267,475),(278,482),(284,487),(286,494),(291,499),(295,506),(305,513),(308,518),(314,525),(325,530),(337,537),(346,542),(354,549),(360,556),(364,561),(375,566),(382,571),(391,576),(412,581),(434,588),(445,593),(453,598),(461,603),(471,610),(480,617)]) ::(HU P++⟨(.type "type"),none,.cls ⟨b_ "Wish",[(.type "object")],[(.ref 78),(.type "object")],77,b_ "Wish",.true,[],[(.ref 116),(.ref 166),(.ref 216),(.ref 289),(.ref 339),(.ref 386),(.ref 443)],.false,none,.false⟩,#[none,none,some (aK "Wish" 224),some (aK "Wish" 232),some (.builtin "object.__new__"),some (.bool .true)]⟩ ::(HF P++IX P)))
noncomputable def G8 (P:Params):BT:=Ax 12 (Io P)
noncomputable def Hn (P:Params):BT:=Ax 12 (HL P)
def wD:Env:={ scope:=PySem.Challenge.pw_seekhall_k32_values_taken_away.main.scope,locals:=mainNs,globals:=mainNs,cells:=[],code:=.ref 13,frame:=some 14 }
def zr:List Stmt:=behindTheImports PySem.Challenge.pw_seekhall_k32_values_taken_away
abbrev rj:Code:=.body zr wD
def Co:Life:=⟨[],[],[],0,[],[],false,#[],[],0,false,false,false,0,[2000,10,10],false,0,true,[],[],0,false⟩
abbrev zzB:List Frame:=[topFrame ⟨0,0,0,0⟩]
noncomputable abbrev zzS (T:Params->BT) (n k:Nat) (w:World) (B:J8):SharedT:=⟨T w.params,n,Co,#[],⟨0,0,0,0⟩,k,B⟩
theorem Hg (w:World) (B:J8):topGo Ky PySem.Challenge.pw_seekhall_k32_values_taken_away w 11 (some (.ref 6)) 12 ⟨Kz w.params,#[],boot_drawn,boot_toks,B⟩ (topStub PySem.Challenge.pw_seekhall_k32_values_taken_away)=some ((zzS CW 15 187 w B).abs,⟨denote Ky rj,rj,⟨0,0,0,0⟩,zzB⟩):=by kernel_rfl
theorem GS (w:World) (B:J8):segRun Ky PySem.Challenge.pw_seekhall_k32_values_taken_away w 11 (some (.ref 6)) 1 1 (zzS CW 15 187 w B).abs (blockOf zr wD rj ⟨0,0,0,0⟩ zzB)=some (.next,(zzS CW 15 187 w B).abs,rj,⟨0,0,0,0⟩):=by kernel_rfl
theorem Ih (w:World) (B:J8):segRunT Ky PySem.Challenge.pw_seekhall_k32_values_taken_away w 11 (some (.ref 6)) 1 2159 (zzS CW 15 187 w B) (piecesOf (zr.take 19) wD rj ⟨0,0,0,0⟩ zzB)=some (.next,zzS G8 292 572 w B,rj,⟨160,0,160,8⟩):=by kernel_rfl
theorem Ix (w:World) (B:J8):segRunT Ky PySem.Challenge.pw_seekhall_k32_values_taken_away w 11 (some (.ref 6)) 1 2112 (zzS G8 292 572 w B) (piecesOf (zr.drop 19) wD rj ⟨160,0,160,8⟩ zzB)=some (.next,zzS Hn 619 1032 w B,rj,⟨480,0,493,89⟩):=by kernel_rfl
noncomputable def pi (P:Params):Heap:=⟨⟨HL P⟩,Co⟩
theorem GT (w:World) (B:J8):topRun Ky PySem.Challenge.pw_seekhall_k32_values_taken_away w 11 (some (.ref 6)) 2 (zzS Hn 619 1032 w B).abs ⟨doneF .next,rj,⟨480,0,493,89⟩,zzB⟩=some ⟨pi w.params,#[],⟨0,0,0,0⟩,1032,B⟩:=by kernel_rfl
theorem HE (w:World) (B:J8):topRun Ky PySem.Challenge.pw_seekhall_k32_values_taken_away w 11 (some (.ref 6)) (12+(1+(2159+(2112+2)))) ⟨Kz w.params,#[],boot_drawn,boot_toks,B⟩ (topStub PySem.Challenge.pw_seekhall_k32_values_taken_away)=some ⟨pi w.params,#[],⟨0,0,0,0⟩,1032,B⟩ :=
 go_top (Hg w B) (piece_block (GS w B) (show topRun Ky PySem.Challenge.pw_seekhall_k32_values_taken_away w 11 (some (.ref 6)) _ _ (restOf (zr.take 19++(zr.drop 19++[])) wD rj ⟨0,0,0,0⟩ zzB)=_ from
  piece_app (segRun_of (Ih w B)) (piece_app (segRun_of (Ix w B)) (GT w B))))
theorem Hq (w:World) (B:J8):(staticsOk (Ku PySem.Challenge.pw_seekhall_k32_values_taken_away.main.body) (Kz w.params) (pi w.params) && namesBound PySem.Challenge.pw_seekhall_k32_values_taken_away (pi w.params) && gensDone ⟨pi w.params,#[],⟨0,0,0,0⟩,1032,B⟩ && laidKept (Kz w.params) (pi w.params))=true:=by kernel_rfl
theorem Hd (w:World) (B:J8):(openSeen jr JV (Ku PySem.Challenge.pw_seekhall_k32_values_taken_away.main.body) hX true ⟨pi w.params,#[],⟨0,0,0,0⟩,1032,B⟩).1=(openGood jr JV).1:=by kernel_rfl
theorem G6 (w:World) (B:J8):((openSeen jr JV (Ku PySem.Challenge.pw_seekhall_k32_values_taken_away.main.body) hX true ⟨pi w.params,#[],⟨0,0,0,0⟩,1032,B⟩).2.1,(openSeen jr JV (Ku PySem.Challenge.pw_seekhall_k32_values_taken_away.main.body) hX true ⟨pi w.params,#[],⟨0,0,0,0⟩,1032,B⟩).2.2.1)=((openGood jr JV).2.1,(openGood jr JV).2.2.1):=by kernel_rfl
theorem GV (w:World) (B:J8):(openSeen jr JV (Ku PySem.Challenge.pw_seekhall_k32_values_taken_away.main.body) hX true ⟨pi w.params,#[],⟨0,0,0,0⟩,1032,B⟩).2.2.2=(openGood jr JV).2.2.2:=by kernel_rfl
theorem G7 (w:World) (B:J8):Hook.obs hK ⟨pi w.params,#[],⟨0,0,0,0⟩,1032,B⟩=Hook.val hK w:=by kernel_rfl
theorem Ij:opening PySem.Challenge.pw_seekhall_k32_values_taken_away=plainProg PySem.Challenge.pw_seekhall_k32_values_taken_away.main.scope.names:=by kernel_rfl
theorem IK (s:Shared):fenceModules? PySem.Challenge.pw_seekhall_k32_values_taken_away s=some s:=by kernel_rfl
theorem Ie (w:World):((Kz w.params).isNs m3 && (#[]:Array GenState).size == 0,(Kz w.params).objs.size,(Kz w.params).nsMap m3 "__annotations__")=(true,11,some (.ref 6)):=by kernel_rfl
theorem hl:LeftO PySem.Challenge.pw_seekhall_k32_values_taken_away jr JV hX (Hook.obs hK) (Hook.val hK) 11600 :=
 LeftO.of_pieces (H₀:=Kz) (H₁:=pi) (boot_open Ij rfl IK) Ie HE (by decide+kernel) (λw=>funext λos=>looks_pair (Hq w os) (Hx (Hd w os) (G6 w os) (GV w os) (G7 w os)))
theorem wsd:PySem.W.OpenLaw.wellSaid PySem.Challenge.rw_seekhall_k32_values_taken_away=true:=by kernel_rfl
end Lw
namespace L2
open PySem PySem.Spec PyProof.Rows
abbrev Key:=Sum Int Str
def sg:Key->Value->Bool
 | .inl k,v=>Value.isInt k v
 | .inr x,v=>Value.isStrOf x v
def Iw (w:World):Key->Int
 | .inl k=>hashInt k
 | .inr x=>hashStr w x
theorem bP : ∀{k:Key} {v:Value},sg k v=true->(∃i t,k=i_ i/\v=Value.int i t)\/(∃x t,k=fy x/\v=Value.str x t)
 | .inl i,v,h=>by
  obtain⟨t,e⟩:=Value.isInt_shape (k:=i) (v:=v) h;exact .inl ⟨i,t,rfl,e⟩
 | .inr x,v,h=>by
  obtain⟨t,e⟩:=Value.isStrOf_shape (x:=x) (v:=v) h;exact .inr ⟨x,t,rfl,e⟩
theorem Ap (i:Int) (t:Tok):sg (.inl i) (.int i t)=true:=by simp[sg,Value.isInt]
theorem Ad (x:Str) (t:Tok):sg (.inr x) (.str x t)=true:=by simp[sg,Value.isStrOf]
theorem GB (a b:Int):decide ((i_ a:Key)=i_ b)=(a == b):=by
 by_cases e:a=b
 .subst e;simp
 .have h : ¬ (i_ a:Key)=i_ b:=λq=>e (Jy q)
  rw[decide_eq_false h];exact(beq_eq_false_iff_ne.mpr e).symm
theorem Ga (a b:Str):decide ((fy a:Key)=fy b)=decide (a=b):=by
 by_cases e:a=b
 .subst e;simp
 .have h : ¬ (fy a:Key)=fy b:=λq=>e (Kq q)
  rw[decide_eq_false h,decide_eq_false e]
theorem E9 (a:Int) (b:Str):decide ((i_ a:Key)=fy b)=false:=decide_eq_false (λq=>nomatch q)
theorem F9 (a:Str) (b:Int):decide ((fy a:Key)=i_ b)=false:=decide_eq_false (λq=>nomatch q)
def bo (prog:Program) (w:World):PySem.KeyKind prog w Key where
 is:=sg
 hash:=Iw w
 inj := λv a b ha F=>by
  rcases bP ha with⟨i,t,rfl,rfl⟩ | ⟨x,t,rfl,rfl⟩
  .rcases bP F with⟨j,u,rfl,e⟩ | ⟨y,u,rfl,e⟩
   .injection e with e1 _;rw[e1]
   .exact nomatch e
  .rcases bP F with⟨j,u,rfl,e⟩ | ⟨y,u,rfl,e⟩
   .exact nomatch e
   .injection e with e1 _;rw[e1]
 byValue:=λk v h=>by
  rcases bP h with⟨i,t,rfl,rfl⟩ | ⟨x,t,rfl,rfl⟩ <;> rfl
 pyHash:=λB h=>by
  rcases bP B with⟨i,t,rfl,rfl⟩ | ⟨x,t,rfl,rfl⟩
  .exact wpAny_pyHash_int h
  .exact wpAny_pyHash_str h
 eqBool:=λhu B h=>by
  rcases bP hu with⟨i,t,rfl,rfl⟩ | ⟨x,t,rfl,rfl⟩
  .rcases bP B with⟨j,u,rfl,rfl⟩ | ⟨y,u,rfl,rfl⟩
   .rw[GB] at h;exact wpAny_eqBool_int h
   .rw[E9] at h;exact SeqAt.EqAt.int_str i t y u _ _ _ _ h
  .rcases bP B with⟨j,u,rfl,rfl⟩ | ⟨y,u,rfl,rfl⟩
   .rw[F9] at h;exact SeqAt.EqAt.str_int x t j u _ _ _ _ h
   .rw[Ga] at h;exact wpAny_eqBool_str h
 «strs» := λk x t v h=>by
  rcases bP h with⟨i,u,rfl,e⟩ | ⟨y,u,rfl,e⟩
  .exact nomatch e
  .injection e with e1 _
   subst e1
   cases v <;> rfl
theorem vt (prog:Program) (w:World) (i:Int) (t:Tok):(bo prog w).is (.inl i) (.int i t)=true:=Ap i t
theorem uW (prog:Program) (w:World) (x:Str) (t:Tok):(bo prog w).is (.inr x) (.str x t)=true:=Ad x t
inductive V where
 | non | bl (b:Bool) | int (i:Int) | str (x:Str) | byt (b:Array UInt8) | flt (b:UInt64) | ref (a:Addr) | ty (n:String)
 deriving DecidableEq
def bq:V->Value->Prop
 | .non,u=>u=n_
 | .bl b,u=>u=JR b
 | .int i,u=>∃t,u=Value.int i t
 | .str x,u=>∃t,u=Value.str x t
 | .byt b,u=>∃t,u=Value.bytes b t
 | .flt b,u=>∃t,u=Value.float b t
 | .ref a,u=>u=g9 a
 | .ty n,u=>u=I_ n
abbrev bj:List V->List Value->Prop:=Paired bq
theorem bj.length {xs:List V} {us:List Value} (r:bj xs us):xs.length=us.length:=Paired.length r
theorem bj.get : ∀{xs:List V} {us:List Value} {i:Nat} {x:V},bj xs us->xs[i]? = some x->∃u,us[i]? = some u/\bq x u
 | _,_,_,_,.nil,e=>by simp at e
 | _,_,0,_,.cons r _,e=>by simp at e;subst e;exact⟨_,rfl,r⟩
 | _,_,i+1,x,.cons _ t,e=>by
  obtain⟨u,h1,h2⟩:=bj.get (i:=i) (x:=x) t (by simpa using e)
  exact⟨u,by simpa using h1,h2⟩
theorem bj.append : ∀{xs ys:List V} {us ws:List Value},bj xs us->bj ys ws->bj (xs++ys) (us++ws)
 | _,_,_,_,.nil,s=>s
 | _,_,_,_,.cons r t,s=>.cons r (bj.append t s)
theorem bj.take : ∀{xs:List V} {us:List Value} (n:Nat),bj xs us->bj (xs.take n) (us.take n)
 | _,_,0,_=>.nil
 | _,_,_+1,.nil=>.nil
 | _,_,n+1,.cons r t=>.cons r (bj.take n t)
theorem bj.drop : ∀{xs:List V} {us:List Value} (n:Nat),bj xs us->bj (xs.drop n) (us.drop n)
 | _,_,0,r=>r
 | _,_,_+1,.nil=>.nil
 | _,_,n+1,.cons _ t=>bj.drop n t
def jk:Option V->Option Value->Prop
 | some v,some u=>bq v u
 | none,none=>True
 | _,_=>False
def KV {κ:Type}:List (κ × V)->List (κ × Value)->Prop:=Paired λ(p:κ × V) (q:κ × Value)=>p.1=q.1/\bq p.2 q.2
def kV:Key->V
 | .inl i=>.int i
 | .inr x=>.str x
inductive HO where
 | lst (xs:List V)
 | tup (xs:List V)
 | dK (kvs:List (Key × V)) | dT (kvs:List (List Key × V))
 | set (S:Int->Bool) (n:Nat)
 | ins (C dx:Addr) (fs:List (Str × V))
 | own (x:Addr)
 | xd (fs:List (Str × V))
 | met (f x:Addr)
 | rng (lo hi:Int)
 | frz (o:Obj) (u:HO)
 | tbl (ps:Array Value)
 | tab (q:Str)
 | ext (φ:Heap->Prop)
abbrev Hp:=Addr->Option HO
def upd (H:Hp) (a:Addr) (o:HO):Hp:=λb=>if b=a then some o else H b
theorem ae {H:Hp} {o:HO}:upd H a o a=some o:=by unfold upd;rw[if_pos rfl]
theorem ah {H:Hp} {o:HO} (h:b≠a):upd H a o b=H b:=by unfold upd;rw[if_neg h]
theorem lP {H:Hp} {o u:HO}:upd (upd H a o) a u=upd H a u:=by
 funext b;unfold upd;split <;> rfl
theorem aU {H:Hp} {o u:HO} (h:H a=some o) (h':H b=some u) (d:o≠u):a≠b:=by
 intro e;subst e;rw[h] at h';exact d (e8 h')
theorem ao {H:Hp} {o:HO} (h:H a=some o) (h':H b=none):a≠b:=by
 intro e;subst e;rw[h] at h';cases h'
section
variable (P:Program) (w:World)
def Hw (o:Obj) (q:Str):Prop:=∃vs t,o.data = .fields vs/\vs[1]? = some (.str q t)
def bA (H:Hp) (h:Heap) (a:Addr):HO->Prop
 | .lst xs=>xs.length<=ge/\∃(its:List Value) (n:Nat),bj xs its/\h.get? a=some { cls:=.type "list",data:=.seq its.toArray n }
 | .tup xs=>xs.length<=ge/\∃its:List Value,bj xs its/\IsTup h a its.toArray
 | .dK kvs=>kvs.length<=ge/\(a == G1)=false/\∃vs,KV kvs vs/\h.DictOf (bo P w) a vs
 | .dT kvs=>kvs.length<=ge/\(a == G1)=false/\∃xs:List (List Key × Addr × Value),
   Paired (λ(p:List Key × V) (q:List Key × Addr × Value)=>p.1=q.1/\H q.2.1>>(p.1.map kV)/\bq p.2 q.2.2) kvs xs /\
   ∃o es L,h.get? a=some o/\o.ExactDict/\o.data = .dict es L/\es.toList=xs.map (entryOfKey (Jz (bo P w)))/\(xs.map (·.1)).Nodup
 | .set S n=>h.SetOf (intKind P w) a S n
 | .ins C dx fs=>H dx=some (.own a)/\fs.length<=1000/\dx≠a/\h.get? a=some (instObj C dx) /\
   ∃mA,h.Ns1 dx mA/\(∀f,jk (fs.lookup f) (mA f))/\PySem.Within mA (fs.map (·.1))
 | .own _=>∃o,h.get? a=some o
 | .xd fs=>∃mA,h.Ns1 a mA/\∀f,jk (fs.lookup f) (mA f)
 | .rng lo hi=>∃t u v,h.get? a=some { cls:=.type "range",data:=.fields #[.int lo t,.int hi u,.int 1 v] }
 | .frz o u=>h.get? a=some o/\bA H h a u
 | .tbl ps=>h.get? a=some { cls:=.none,data:=.fields ps }
 | .tab q=>∃ps:Array Value,h.get? a=some { cls:=.none,data:=.fields ps }/\TriplesOk ps.toList/\∀pos F,codeAmong pos ps.toList=some F->∃c oc,F=g9 c/\c≠a/\H c=some (.frz oc (.own a))/\Hw oc q
 | .met f x=>h.get? a=some (methodObj (.ref f) (.ref x))
 | .ext B=>B h/\(∃o,h.get? a=some o)/\∀h1 h2:Heap,B h1->(∀o,h1.get? a=some o->h2.get? a=some o)->B h2
def HOk (H:Hp) (h:Heap):Prop:=∀a o,H a=some o->bA P w H h a o
end
section
variable {H H':Hp} {o:HO}
theorem bA.lt (x:bA P w H h a o):a < h.objs.size:=by
 cases o with
 | lst xs=>obtain⟨_,_,_,_,e⟩:=x;exact e9 e
 | tup xs=>obtain⟨_,_,_,p⟩:=x;exact p.lt
 | dK kvs=>obtain⟨_,_,_,_,o,_,_,e,_⟩:=x;exact e9 e
 | dT kvs=>obtain⟨_,_,_,_,o,_,_,e,_⟩:=x;exact e9 e
 | set S n=>obtain⟨o,_,_,_,e,_⟩:=x;exact e9 e
 | ins C dx fs=>obtain⟨_,_,_,e,_⟩:=x;exact e9 e
 | own y=>obtain⟨_,e⟩:=x;exact e9 e
 | xd fs=>obtain⟨_,⟨_,_,_,e,_⟩,_⟩:=x;exact e9 e
 | rng lo hi=>obtain⟨_,_,_,e⟩:=x;exact e9 e
 | frz ob u=>obtain⟨e,_⟩:=x;exact e9 e
 | tbl ps=>exact e9 (show h.get? a=some _ from x)
 | tab q=>obtain⟨_,e,_⟩:=x;exact e9 e
 | met f y=>exact e9 (show h.get? a=some _ from x)
 | ext B=>obtain⟨_,⟨_,e⟩,_⟩:=x;exact e9 e
theorem Paired.mapP {α β:Type} {F G:α->β->Prop} : ∀{B:List α} {L:List β},Paired F B L->(∀a b,F a b->G a b)->Paired G B L
 | _,_,.nil,_=>.nil
 | _,_,.cons r t,f=>.cons (f _ _ r) (Paired.mapP t f)
theorem bA.stay (x:bA P w H h a o) (k : ∀b u,(b=a\/H b=some (.own a))->h.get? b=some u->h'.get? b=some u)
  (ho : ∀b,H b=some (.own a)->H' b=some (.own a)) (Y : ∀b xs,H b>>xs->H' b>>xs) (L : ∀b o y,H b=some (.frz o (.own y))->H' b=some (.frz o (.own y)):=by exact λ_ _ _ q=>q):bA P w H' h' a o:=by
 induction o with
 | lst xs=>obtain⟨z,its,n,r,e⟩:=x;exact⟨z,its,n,r,k _ _ (.inl rfl) e⟩
 | tup xs=>obtain⟨z,its,r,ob,e,c⟩:=x;exact⟨z,its,r,ob,k _ _ (.inl rfl) e,c⟩
 | dK kvs=>obtain⟨z,y,vs,r,ob,es,B,e,c⟩:=x;exact⟨z,y,vs,r,ob,es,B,k _ _ (.inl rfl) e,c⟩
 | dT kvs =>
  obtain⟨z,y,xs,r,ob,es,B,e,c⟩:=x;exact⟨z,y,xs,Paired.mapP r λp q z=>⟨z.1,Y _ _ z.2.1,z.2.2⟩,ob,es,B,k _ _ (.inl rfl) e,c⟩
 | set S n=>obtain⟨ob,es,B,t,e,c⟩:=x;exact⟨ob,es,B,t,k _ _ (.inl rfl) e,c⟩
 | ins C dx fs =>
  obtain⟨d,z,ne,e,mA,⟨od,es,B,e2,c⟩,r⟩:=x;exact⟨ho _ d,z,ne,k _ _ (.inl rfl) e,mA,⟨od,es,B,k _ _ (.inr d) e2,c⟩,r⟩
 | own y=>obtain⟨ob,e⟩:=x;exact⟨ob,k _ _ (.inl rfl) e⟩
 | xd fs=>obtain⟨mA,⟨od,es,B,e,c⟩,r⟩:=x;exact⟨mA,⟨od,es,B,k _ _ (.inl rfl) e,c⟩,r⟩
 | rng lo hi=>obtain⟨t,u,v,e⟩:=x;exact⟨t,u,v,k _ _ (.inl rfl) e⟩
 | frz ob u ih=>obtain⟨e,q⟩:=x;exact⟨k _ _ (.inl rfl) e,ih q⟩
 | tbl ps =>
  have e:h.get? a=some { cls:=.none,data:=.fields ps }:=x
  show h'.get? a=some { cls:=.none,data:=.fields ps }
  exact k a _ (.inl rfl) e
 | tab q =>
  obtain⟨ps,e,t,hc⟩:=x;refine⟨ps,k _ _ (.inl rfl) e,t,λpos cv z=>?_⟩
  obtain⟨c,oc,F,ne,Z,hq⟩:=hc pos cv z;exact⟨c,oc,F,ne,L _ _ _ Z,hq⟩
 | met f y =>
  have e:h.get? a=some (methodObj (.ref f) (.ref y)):=x
  show h'.get? a=some (methodObj (.ref f) (.ref y))
  exact k a _ (.inl rfl) e
 | ext φ=>obtain⟨p,⟨o,e⟩,st⟩:=x;exact⟨st _ _ p λo q=>k _ _ (.inl rfl) q,⟨o,k _ _ (.inl rfl) e⟩,st⟩
theorem HOk.lt (x:HOk P w H h) (e:H a=some o):a < h.objs.size:=(x a o e).lt
theorem HOk.fresh (x:HOk P w H h) (e:h.objs.size<=a):H a=none:=by
 cases q:H a with
 | none=>rfl
 | some u=>exact absurd (h_ (x.lt q) e) (p9 _)
theorem HOk.kept (x:HOk P w H h) (k : ∀b u,h.get? b=some u->h'.get? b=some u):HOk P w H h':=λa o e =>
 (x a o e).stay (λb u _ q=>k b u q) (λ_ q=>q) λ_ _ q=>q
theorem HOk.laid (x:HOk P w H h) (k : ∀b u,h.get? b=some u->h'.get? b=some u) (hp:h.objs.size<=a) (new:bA P w (upd H a o) h' a o):HOk P w (upd H a o) h':=λb u e=>by
 have hn:=x.fresh hp
 by_cases B:b=a
 .subst B;rw[ae] at e;cases e;exact new
 .rw[ah B] at e
  exact(x b u e).stay (λc v _ q=>k c v q) (λc q=>by rw[ah (ao q hn)];exact q) (λc xs q=>by rw[ah (ao q hn)];exact q) λc _ _ q=>by rw[ah (ao q hn)];exact q
end
def Rd (H:Hp) (a:Addr) (u:HO):Prop:=H a=some u\/∃o,H a=some (.frz o u)
theorem Rd.ok {H:Hp} {u:HO} (r:Rd H a u) (x:HOk P w H h):bA P w H h a u:=by
 rcases r with r | ⟨o,r⟩
 .exact x a u r
 .obtain⟨_,q⟩:=x a _ r
  exact q
def Mut:Option HO->Prop
 | some (.lst _)=>True
 | some (.dK _)=>True
 | some (.dT _)=>True
 | some (.set _ _)=>True
 | some (.ins _ _ _)=>True
 | some (.ext _)=>True
 | some (.tab _)=>True
 | _=>False
section
variable {H:Hp} {x e:Addr} {o':HO}
theorem HOk.write (ok:HOk P w H h) (L:Mut (H x)) (he:e=x\/H e=some (.own x)) (k : ∀b u,b≠e->h.get? b=some u->h'.get? b=some u) (aa : ∃u,h'.get? e=some u)
  (new:bA P w (upd H x o') h' x o'):HOk P w (upd H x o') h':=λb u q=>by
 have F : ∀c y,H c=some (.own y)->c≠x:=λc y r z=>by subst z;rw[r] at L;exact L
 have Y : ∀c xs,H c>>xs->c≠x:=λc xs r z=>by subst z;rw[r] at L;exact L
 by_cases Z:b=x
 .subst Z;rw[ae] at q;cases q;exact new
 .rw[ah Z] at q
  by_cases B:b=e
  .have q':H b=some (.own x):=by
    rcases he with z | z
    .exact absurd (B.trans z) Z
    .rw[B];exact z
   rw[q] at q';cases q';obtain⟨v,hv⟩:=aa;exact⟨v,by rw[B];exact hv⟩
  .refine(ok b u q).stay (λc v hc r=>k c v ?_ r) (λc r=>by rw[ah (F c b r)];exact r) (λc xs r=>by rw[ah (Y c xs r)];exact r) λc _ _ r=>by rw[ah (λz=>by subst z;rw[r] at L;exact L)];exact r
   rcases hc with rfl | hc
   .exact B
   .rintro rfl
    rcases he with z | z
    .exact F c b hc z
    .rw[hc] at z;cases z;exact Z rfl
end
structure Un (fs ex:List Addr) (H H':Hp) (h h':Heap):Prop where
 keep : ∀b o,h.get? b=some o->H b=none->b∉fs->b∉ex->h'.get? b=some o
 slot : ∀b o,h.get? b=some o->H b=none->b∈fs->b∉ex->∃sl,h'.get? b=some { o with slots:=sl }
 free : ∀b o,h.get? b=some o->H b=none->b∉ex->H' b=none
 there : ∀b o,h.get? b=some o->b∉ex->∃o',h'.get? b=some o'
 tups : ∀b xs,H b>>xs->H' b>>xs
 frzs : ∀b o u,H b=some (.frz o u)->H' b=some (.frz o u)
 tbls : ∀b ps,H b=some (.tbl ps)->∃more,H' b=some (.tbl (ps++more))
section
variable {fs fs' ex ex':List Addr} {H H1 H2:Hp} {h1 h2:Heap} {x e:Addr} {o:HO}
theorem Un.any (u:Un fs ex H H1 h h1) {b:Addr} {ob:Obj} (q:h.get? b=some ob) (n:H b=none) (F:b∉ex) : ∃sl,h1.get? b=some { ob with slots:=sl }:=by
 by_cases B:b∈fs
 .exact u.slot b ob q n B F
 .exact⟨ob.slots,u.keep b ob q n B F⟩
theorem Un.kept (k : ∀b u,h.get? b=some u->h'.get? b=some u):Un fs ex H H h h' :=
 ⟨λb ob q _ _ _=>k b ob q,λb ob q _ _ _=>⟨ob.slots,k b ob q⟩,λ_ _ _ n _=>n,λb ob q _=>⟨ob,k b ob q⟩,λ_ _ q=>q,λ_ _ _ q=>q,λ_ ps q=>⟨#[],by rw[q];simp⟩⟩
theorem Un.refl:Un fs ex H H h h:=Un.kept λ_ _ q=>q
theorem Un.laid (k : ∀b u,h.get? b=some u->h'.get? b=some u) (hp:h.objs.size<=a) (hn:H a=none):Un fs ex H (upd H a o) h h' where
 keep:=λb u q _ _ _=>k b u q
 slot:=λb u q _ _ _=>⟨u.slots,k b u q⟩
 free:=λb u q n _=>by rw[ah (j_ (h_ (e9 q) hp))];exact n
 there:=λb u q _=>⟨u,k b u q⟩
 tups:=λb xs q=>by rw[ah (ao q hn)];exact q
 frzs:=λb u xs q=>by rw[ah (ao q hn)];exact q
 tbls:=λb ps q=>⟨#[],by rw[ah (ao q hn),q];simp⟩
theorem Un.write (F:Mut (H x)) (he:e=x\/H e=some (.own x)) (k : ∀b u,b≠e->h.get? b=some u->h'.get? b=some u) (L : ∃u,h'.get? e=some u):Un fs ex H (upd H x o) h h':=by
 have hx : ∀b,H b=none->b≠x:=λb n z=>by subst z;rw[n] at F;exact F
 have Z : ∀b,H b=none->b≠e:=λb n z=>by
  subst z;rcases he with r | r
  .exact hx b n r
  .rw[n] at r;cases r
 have Y : ∀b u,H b=some u->¬ Mut (some u)->b≠x:=λb u q nm z=>by subst z;rw[q] at F;exact nm F
 refine⟨λb u q n _ _=>k b u (Z b n) q,λb u q n _ _=>⟨u.slots,k b u (Z b n) q⟩,λb u q n _=>by rw[ah (hx b n)];exact n,λb u q _=>?_,
  λb xs q=>by rw[ah (Y b _ q λz=>z)];exact q,λb u xs q=>by rw[ah (Y b _ q λz=>z)];exact q,λb ps q=>⟨#[],by rw[ah (Y b _ q λz=>z),q];simp⟩⟩
 by_cases B:b=e
 .subst B;exact L
 .exact⟨u,k b u B q⟩
end
def trk (h:Heap) (H:Hp):List Addr:=(range h.objs.size).filter λa=>(H a).isSome
def tS (h:Heap) (H:Hp):Heap:=PySem.W.hideAll h (trk h H)
theorem Ar (h:Heap) (H:Hp):(tS h H).objs.size=h.objs.size:=PySem.W.hideAll_size _ _
theorem BP {H:Hp} {o:Obj} (e:h.get? b=some o) (n:H b=none):(tS h H).get? b=some o :=
 PySem.W.hideAll_get _ e λB=>by
  have q:(H b).isSome=true:=(y9.mp B).2
  rw[n] at q;simp at q
theorem DC {H:Hp} {o:Obj} (e:(tS h H).get? b=some o):h.get? b=some o/\H b=none:=by
 have B:h.get? b=some o:=PySem.W.of_hideAll (trk h H) e
 refine⟨B,?_⟩
 cases q:H b with
 | none=>rfl
 | some x =>
  have F:b∈trk h H:=y9.mpr ⟨Kf.mpr (e9 B),by simp[q]⟩
  have z:(tS h H).get? b=none:=PySem.W.hideAll_none (trk h H) F
  rw[z] at e;cases e
structure Mod (K:fx) (mg:Str->Option Value) (base:Heap):Prop where
 kin:K.In base
 glob:base.Ns m3 mg
 blt : ∃mb,base.Ns builtinsNs mb/\∀x:Str,x ≠ "__name__" -> mb x=y6 x
 nolimit:base.NoLimit
structure Cx where
 prog:Program
 w:World
 K:fx
 mg:Str->Option Value
 base:Heap
 A:Around
 N:List Str
 s₀:Shared
 H₀:Hp
 env:Env
 outer:List Env
 stack:List Env
 ex:List Addr
 fn:Str->Bool
 calm:Bool
 pn:List (Addr × Obj)
 xe:Value->Shared->Prop
def frs (l:List Env):List Addr:=l.filterMap (·.frame)
abbrev Cx.fs (X:Cx):List Addr:=frs X.outer
def Vis (sc:Scope) (x:Str):Prop:=sc.names.lookup x=some .local\/sc.names.lookup x=some .cell\/sc.names.lookup x=some .free
def Loc (sc:Scope) (x:Str):Prop:=sc.names.lookup x=some .local\/sc.names.lookup x=some .cell
def ID (env:Env) (h:Heap) (m:Str->Option Value) (x:Str) (u:Value):Prop :=
 (env.kindOf x=some .local/\m x=some u)\/((env.kindOf x=some .cell\/env.kindOf x=some .free)/\∃c,env.cells.lookup x=some c/\h.IsCell c (some u))
structure Cx.Ok (X:Cx):Prop where
 mod:Mod X.K X.mg X.base
 kind:X.env.scope.kind = .function
 glob:X.env.globals=m3
 blt:X.env.builtins=builtinsNs
 above:X.s₀.heap.objs.size<=X.env.locals
 inj : ∀x y c,X.env.cells.lookup x=some c->X.env.cells.lookup y=some c->x=y
 has : ∀x,(X.env.kindOf x=some .cell\/X.env.kindOf x=some .free)->∃c,X.env.cells.lookup x=some c
 cab : ∀x c,X.fn x=true->X.env.cells.lookup x=some c->X.s₀.heap.objs.size<=c
 hd:X.calm=true->X.A.handled=none
 frames:X.A.frames=some X.stack
 stk:X.stack=X.outer\/(X.stack=X.env :: X.outer/\X.env.frame=some X.env.locals)
 exf : ∀b∈X.ex,b≠X.env.locals/\∀x c,X.env.cells.lookup x=some c->c≠b
 bs : ∀b o,X.base.get? b=some o->X.s₀.heap.get? b=some o/\X.H₀ b=none
 bsz:X.base.objs.size<=X.s₀.heap.objs.size
 noex : ∀b o,X.base.get? b=some o->b∉X.ex
 exfs : ∀b∈X.ex,b∉X.fs
 funs:X.s₀.heap.FunFrames X.base X.outer
 frf : ∀b∈X.fs,X.H₀ b=none
structure Inv (X:Cx) (pins:List (Addr × Obj)) (σ:List (Option V)) (H:Hp) (s:Shared):Prop where
 ok:X.Ok
 os:s.os=X.s₀.os
 bare:AllBare s.gens
 base:Un X.fs X.ex X.H₀ H X.s₀.heap s.heap
 loc : ∃m,s.heap.Ns X.env.locals m/\∀(i:Nat) (x:Str) (v:V),X.N[i]? = some x->σ[i]? = some (some v)->Vis X.env.scope x->∃u,bq v u/\ID X.env s.heap m x u
 cell : ∀x c,X.env.cells.lookup x=some c->∃v,s.heap.IsCell c v
 free:H X.env.locals=none
 freeC : ∀x c,X.env.cells.lookup x=some c->H c=none
 pin : ∀p∈X.pn++pins,s.heap.get? p.1=some p.2/\H p.1=none/\p.1≠X.env.locals/\p.1∉X.fs/\∀v,p.2.data≠.cell v
 hok:HOk X.prog X.w H s.heap
 len:σ.length=X.N.length
section
variable {X:Cx} {σ:List (Option V)} {H H':Hp}
theorem Cx.Ok.nofr (ok:X.Ok) {b:Addr} {o:Obj} (e:X.base.get? b=some o):b∉X.fs:=λB=>by
 have:=(ok.funs.mem B).1
 rw[e] at this;cases this
theorem Inv.bs (I:Inv X pins σ H s) : ∀b o,X.base.get? b=some o->s.heap.get? b=some o/\H b=none:=λb o e =>
 ⟨I.base.keep b o (I.ok.bs b o e).1 (I.ok.bs b o e).2 (I.ok.nofr e) (I.ok.noex b o e),I.base.free b o (I.ok.bs b o e).1 (I.ok.bs b o e).2 (I.ok.noex b o e)⟩
theorem Inv.bk (I:Inv X pins σ H s) : ∀b o,X.base.get? b=some o->s.heap.get? b=some o:=λb o e=>(I.bs b o e).1
theorem Inv.mod (I:Inv X pins σ H s):Mod X.K X.mg X.base:=I.ok.mod
theorem Inv.kIn (I:Inv X pins σ H s):X.K.In s.heap:=I.ok.mod.kin.keeps I.bk
theorem Inv.lt (I:Inv X pins σ H s):X.env.locals < s.heap.objs.size:=let ⟨_,hn,_⟩:=I.loc;hn.lt
theorem Inv.sz (I:Inv X pins σ H s):X.s₀.heap.objs.size<=s.heap.objs.size:=gt I.ok.above (x8 I.lt)
theorem Inv.nofs (I:Inv X pins σ H s) {a:Addr} (h:s.heap.objs.size<=a):a∉X.fs:=λB=>by
 obtain⟨_,o,F,_⟩:=I.ok.funs.mem B;exact absurd (h_ (e9 F) (gt I.sz h)) (p9 _)
theorem Inv.cne (I:Inv X pins σ H s) : ∀x c,X.env.cells.lookup x=some c->c≠X.env.locals:=λx c e z=>by
 obtain⟨v,o,L,Y⟩:=I.cell x c e;obtain⟨m,⟨o',es,Z,F,B,_⟩,_⟩:=I.loc;rw[z,F] at L;cases L;rw[B] at Y;cases Y
theorem Inv.funs (I:Inv X pins σ H s):s.heap.FunFrames X.base X.outer:=by
 have all : ∀(l:List Env),(∀b∈frs l,b∈X.fs)->X.s₀.heap.FunFrames X.base l->s.heap.FunFrames X.base l:=by
  intro l
  induction l with
  | nil=>intro _ _;trivial
  | cons env r ih =>
   intro Z hl;obtain⟨hk,⟨L,o,B,hn,ho,hd⟩,hr⟩:=hl;have Y:L∈X.fs:=Z L (by unfold frs;rw[List.filterMap_cons,B];exact k7)
   obtain⟨sl,e⟩:=I.base.slot L o ho (I.ok.frf L Y) Y λz=>I.ok.exfs L z Y
   exact⟨hk,⟨L,_,B,hn,e,hd⟩,ih (λb F=>Z b (by unfold frs;rw[List.filterMap_cons,B];exact j7 _ F)) hr⟩
 exact all X.outer (λ_ F=>F) I.ok.funs
theorem Inv.stack (I:Inv X pins σ H s):s.heap.FunFrames X.base X.stack:=by
 rcases I.ok.stk with e | ⟨e,hf⟩
 .rw[e];exact I.funs
 .rw[e]
  obtain⟨m,hn,_⟩:=I.loc;refine .cons (by rw[I.ok.kind];decide) hf hn ?_ I.funs
  exact Heap.get?_none_of_le (gt I.ok.bsz I.ok.above)
theorem Inv.stkSub (I:Inv X pins σ H s) : ∀b∈frs X.stack,b∈X.env.locals :: X.fs:=λb B=>by
 rcases I.ok.stk with e | ⟨e,hf⟩
 .rw[e] at B;exact j7 _ B
 .rw[e] at B
  unfold frs at B;rw[List.filterMap_cons,hf] at B;exact B
theorem Inv.stkFree (I:Inv X pins σ H s) : ∀b∈frs X.stack,H b=none:=λb B=>by
 rcases i6.mp (I.stkSub b B) with e | B
 .rw[e];exact I.free
 .obtain⟨_,o,ho,_⟩:=I.ok.funs.mem B
  exact I.base.free b o ho (I.ok.frf b B) λz=>I.ok.exfs b z B
theorem Inv.step (I:Inv X pins σ H s)
  (L : ∀b∈ch,(b∈X.ex\/X.s₀.heap.objs.size<=b)/\b≠X.env.locals/\(∀x c,X.env.cells.lookup x=some c->c≠b)/\∀p∈X.pn++pins,p.1≠b)
  (keep : ∀b o,b≠X.env.locals->b∉X.fs->b∉ch->s.heap.get? b=some o->H b=none->h'.get? b=some o)
  (slot : ∀b o,b≠X.env.locals->b∈X.fs->b∉ch->s.heap.get? b=some o->H b=none->∃sl,h'.get? b=some { o with slots:=sl }) (free : ∀b o,b∉ch->s.heap.get? b=some o->H b=none->H' b=none)
  (there : ∀b o,b∉ch->s.heap.get? b=some o->∃o',h'.get? b=some o')
  (tups : ∀b xs,H b>>xs->H' b>>xs) (frzs : ∀b o u,H b=some (.frz o u)->H' b=some (.frz o u)) (tbls : ∀b ps,H b=some (.tbl ps)->∃aa,H' b=some (.tbl (ps++aa)))
  (ns : ∀m,s.heap.Ns X.env.locals m->h'.Ns X.env.locals m) (ad:HOk X.prog X.w H' h') (hg:AllBare g') :
  Inv X pins σ H' { s with heap:=h',gens:=g',drawn:=d',toks:=t' }:=by
 have ab : ∀b o,X.s₀.heap.get? b=some o->b≠X.env.locals:=λb o e=>j_ (h_ (e9 e) I.ok.above)
 have Z : ∀b o,X.s₀.heap.get? b=some o->b∉X.ex->b∉ch:=λb o e B hb=>by
  rcases (L b hb).1 with z | z
  .exact B z
  .exact absurd (h_ (e9 e) z) (p9 _)
 have Y : ∀x c,X.env.cells.lookup x=some c->∀v,s.heap.IsCell c v->h'.IsCell c v:=λx c e v ⟨o,ho,hd⟩=>by
  have F:c∉ch:=λz=>(L c z).2.2.1 x c e rfl
  by_cases hc:c∈X.fs
  .obtain⟨sl,q⟩:=slot c o (I.cne x c e) hc F ho (I.freeC x c e)
   exact⟨_,q,hd⟩
  .exact⟨o,keep c o (I.cne x c e) hc F ho (I.freeC x c e),hd⟩
 refine⟨I.ok,I.os,hg,⟨λb o e n hb B=>?_,λb o e n hb B=>?_,λb o e n B=>?_,λb o e B=>?_,λb xs e=>tups b xs (I.base.tups b xs e),λb o xs e=>frzs b o xs (I.base.frzs b o xs e),λb ps e=>?_⟩,?_,λx c e=>?_,?_,λx c e=>?_,λp hp=>?_,ad,I.len⟩
 .exact keep b o (ab b o e) hb (Z b o e B) (I.base.keep b o e n hb B) (I.base.free b o e n B)
 .obtain⟨sl,e1⟩:=I.base.slot b o e n hb B
  obtain⟨ac,e2⟩:=slot b _ (ab b o e) hb (Z b o e B) e1 (I.base.free b o e n B);exact⟨ac,e2⟩
 .obtain⟨o',e1⟩:=I.base.there b o e B
  exact free b o' (Z b o e B) e1 (I.base.free b o e n B)
 .obtain⟨o',e1⟩:=I.base.there b o e B
  exact there b o' (Z b o e B) e1
 .obtain⟨m1,e1⟩:=I.base.tbls b ps e
  obtain⟨m2,e2⟩:=tbls b _ e1;exact⟨m1++m2,by rw[e2,Array.append_assoc]⟩
 .obtain⟨m,hn,hl⟩:=I.loc
  refine⟨m,ns m hn,λi x v e1 e2 e3=>?_⟩
  obtain⟨u,r,l⟩:=hl i x v e1 e2 e3;refine⟨u,r,?_⟩
  rcases l with l | ⟨k,c,e,z⟩
  .exact .inl l
  .exact .inr ⟨k,c,e,Y x c e _ z⟩
 .obtain⟨v,z⟩:=I.cell x c e
  exact⟨v,Y x c e v z⟩
 .obtain⟨m,⟨o,_,_,ho,_⟩,_⟩:=I.loc
  exact free _ o (λz=>(L _ z).2.1 rfl) ho I.free
 .obtain⟨v,o,ho,hd⟩:=I.cell x c e
  exact free c o (λz=>(L c z).2.2.1 x c e rfl) ho (I.freeC x c e)
 .obtain⟨e,n,ne,nf,d⟩:=I.pin p hp
  have F:p.1∉ch:=λz=>(L p.1 z).2.2.2 p hp rfl
  exact⟨keep p.1 p.2 ne nf F e n,free p.1 p.2 F e n,ne,nf,d⟩
theorem Inv.un (I:Inv X pins σ H s) (u:Un X.fs [] H H' s.heap h') (Y:HOk X.prog X.w H' h'):Inv X pins σ H' { s with heap:=h',toks:=t' }:=by
 obtain⟨m,⟨o,es,ep,ho,r⟩,_⟩:=id I.loc;obtain⟨sl,hL⟩:=u.any ho I.free (by simp)
 exact I.step (g':=s.gens) (d':=s.drawn) (ch:=[]) (λ_ z=>nomatch z) (λb o _ F _ e n=>u.keep b o e n F (by simp)) (λb o _ F _ e n=>u.slot b o e n F (by simp)) (λb o _ e n=>u.free b o e n (by simp)) (λb o _ e=>u.there b o e (by simp)) u.tups u.frzs u.tbls (λm' hm=>by
  obtain⟨o',L,Z,B,r'⟩:=hm;rw[ho] at B;cases B;exact⟨_,L,Z,hL,r'⟩) Y I.bare
theorem Inv.call (I:Inv X pins σ H s) (u:Un (frs X.stack) ch H H' s.heap h') (aa:HOk X.prog X.w H' h') (hg:AllBare g')
  (F : ∀b∈ch,(b∈X.ex\/X.s₀.heap.objs.size<=b)/\b≠X.env.locals/\(∀x c,X.env.cells.lookup x=some c->c≠b)/\∀p∈X.pn++pins,p.1≠b) :
  Inv X pins σ H' { s with heap:=h',gens:=g',drawn:=d',toks:=t' }:=by
 obtain⟨m,⟨o,es,ep,ho,r⟩,_⟩:=id I.loc;obtain⟨sl,Y⟩:=u.any ho I.free λz=>(F _ z).2.1 rfl
 exact I.step (ch:=ch) F (λb o Y hb B e n=>u.keep b o e n (λz=>(i6.mp (I.stkSub b z)).elim Y hb) B) (λb o _ _ B e n=>u.any e n B) (λb o B e n=>u.free b o e n B) (λb o B e=>u.there b o e B) u.tups u.frzs u.tbls (λm' hm=>by
  obtain⟨o',Z,ab,L,r'⟩:=hm;rw[ho] at L;cases L;exact⟨_,Z,ab,Y,r'⟩) aa hg
theorem Inv.turned (I:Inv X pins σ H s) (k : ∀b o,b≠it->s.heap.get? b=some o->h'.get? b=some o) (hn:H it=none) (L:it≠X.env.locals)
  (h1:it∈X.ex\/X.s₀.heap.objs.size<=it) (h2 : ∀x c,X.env.cells.lookup x=some c->c≠it) (Y : ∀p∈X.pn++pins,p.1≠it):Inv X pins σ H { s with heap:=h',toks:=t' }:=by
 have F : ∀b u,H b=some u->b≠it:=λb u e z=>by rw[z,hn] at e;cases e
 refine I.step (g':=s.gens) (d':=s.drawn) (ch:=[it]) (λb Z=>?_) (λb o _ _ B e _=>k b o (λz=>B (by simp[z])) e) (λb o _ _ B e _=>⟨o.slots,k b o (λz=>B (by simp[z])) e⟩) (λ_ _ _ _ n=>n)
  (λb o B e=>⟨o,k b o (λz=>B (by simp[z])) e⟩) (λ_ _ e=>e) (λ_ _ _ e=>e) (λb ps e=>⟨#[],by rw[e];simp⟩) (λm hm=>?_) (λb u e=>?_) I.bare
 .have e:b=it:=by simpa using Z
  subst e;exact⟨h1,L,h2,Y⟩
 .obtain⟨o,es,ep,ho,r⟩:=hm
  exact⟨o,es,ep,k _ o (tj L) ho,r⟩
 .refine(I.hok b u e).stay (λc v B q=>k c v ?_ q) (λ_ q=>q) λ_ _ q=>q
  rcases B with z | z
  .rw[z];exact F b u e
  .exact F c _ z
theorem Inv.tok (I:Inv X pins σ H s) (t:Nat):Inv X pins σ H { s with toks:=t }:=I.un (h':=s.heap) (t':=t) Un.refl I.hok
theorem Inv.kept {t':Nat} (I:Inv X pins σ H s) (k : ∀b u,s.heap.get? b=some u->h'.get? b=some u):Inv X pins σ H { s with heap:=h',toks:=t' }:=I.un (Un.kept k) (I.hok.kept k)
theorem Inv.laid {a:Addr} {o:HO} {t':Nat} (I:Inv X pins σ H s) (k : ∀b u,s.heap.get? b=some u->h'.get? b=some u) (hp:s.heap.objs.size<=a) (new:bA X.prog X.w (upd H a o) h' a o) :
  Inv X pins σ (upd H a o) { s with heap:=h',toks:=t' }:=I.un (Un.laid k hp (I.hok.fresh hp)) (I.hok.laid k hp new)
theorem Inv.write {x e:Addr} {o:HO} {t':Nat} (I:Inv X pins σ H s) (F:Mut (H x)) (L:e=x\/H e=some (.own x)) (k : ∀b u,b≠e->s.heap.get? b=some u->h'.get? b=some u) (B : ∃u,h'.get? e=some u)
  (new:bA X.prog X.w (upd H x o) h' x o):Inv X pins σ (upd H x o) { s with heap:=h',toks:=t' }:=I.un (Un.write F L k B) (I.hok.write F L k B new)
theorem Inv.weak {σ':List (Option V)} (I:Inv X pins σ H s) (hl:σ'.length=σ.length) (w : ∀(i:Nat) v,σ'[i]? = some (some v)->σ[i]? = some (some v)):Inv X pins σ' H s :=
 ⟨I.ok,I.os,I.bare,I.base,let ⟨m,hn,hl'⟩:=I.loc;⟨m,hn,λi x v e1 e2 B=>hl' i x v e1 (w i v e2) B⟩,I.cell,I.free,I.freeC,I.pin,I.hok,hl.trans I.len⟩
theorem Inv.pins_of (I:Inv X pins σ H s) (h : ∀p∈pins',s.heap.get? p.1=some p.2/\H p.1=none/\p.1≠X.env.locals/\p.1∉X.fs/\∀v,p.2.data≠.cell v):Inv X pins' σ H s :=
 ⟨I.ok,I.os,I.bare,I.base,I.loc,I.cell,I.free,I.freeC,λp hp=>(ja.mp hp).elim (λz=>I.pin p (k4 _ z)) (h p),I.hok,I.len⟩
theorem wc (B:N.Nodup) {i j:Nat} {x:Str} (a:N[i]? = some x) (b:N[j]? = some x):i=j:=by
 obtain⟨h1,e1⟩:=i4.mp a;obtain⟨h2,e2⟩:=i4.mp b;exact(List.getElem_inj B).mp (e1.trans e2.symm)
theorem sA {v:V} {Q:Unit->Shared->Prop} (I:Inv X pins σ H s) (hN:X.N.Nodup) (hi:X.N[i]? = some x) (Y:Loc X.env.scope x) (r:bq v u)
  (h : ∀s',Inv X pins (σ.set i (some v)) H s'->(∃a,J9 a s.heap s'.heap/\(a=X.env.locals\/X.env.cells.lookup x=some a))->Q Unit.unit s') (hf:X.fn x=true\/X.env.scope.names.lookup x=some .local:=by first | exact .inl rfl | exact .inr rfl | assumption):wpAny M A (storeName X.env x u) Q E s:=by
 obtain⟨m,hn,hl⟩:=id I.loc;have ad:(X.env.scope.kind == .class || (X.env.scope.kind == .module && X.env.locals != X.env.globals))=false:=by rw[I.ok.kind];rfl
 have aa:i < σ.length:=by rw[I.len];exact(i4.mp hi).1
 have cne:=I.cne;have F : ∀{a:Addr} {h':Heap},(∃o,s.heap.get? a=some o/\H a=none)->J9 a s.heap h'->HOk X.prog X.w H h':=λ{a h'} ha B b ob e=>by
  obtain⟨_,_,Z⟩:=ha;refine(I.hok b ob e).stay (λc w' L q=>(B.2 c ?_).trans q) (λ_ q=>q) λ_ _ q=>q
  rintro rfl
  rcases L with rfl | L
  .rw[Z] at e;cases e
  .rw[Z] at L;cases L
 rcases Y with hk | hk
 .refine wpAny_storeName_local hk hn (λh' ah B=>?_) ad
  obtain⟨oL,_,_,ag,_⟩:=id hn;refine h _ ⟨I.ok,I.os,I.bare,⟨λb o e n hb Y=>?_,λb o e n hb Y=>?_,I.base.free,λb o e Y=>?_,I.base.tups,I.base.frzs,I.base.tbls⟩,⟨_,ah,λj y v' e1 e2 e3=>?_⟩,λy c e=>?_,I.free,I.freeC,λp hp=>?_,F ⟨oL,ag,I.free⟩ B,by simpa using I.len⟩ ⟨_,B,.inl rfl⟩
  .exact(B.2 b (j_ (h_ (e9 e) I.ok.above))).trans (I.base.keep b o e n hb Y)
  .obtain⟨sl,e1⟩:=I.base.slot b o e n hb Y
   exact⟨sl,(B.2 b (j_ (h_ (e9 e) I.ok.above))).trans e1⟩
  .obtain⟨o',e1⟩:=I.base.there b o e Y
   exact⟨o',(B.2 b (j_ (h_ (e9 e) I.ok.above))).trans e1⟩
  .by_cases hj:j=i
   .subst hj
    rw[hi] at e1;cases e1;rw[List.getElem?_set_self aa] at e2;cases e2;exact⟨u,r,.inl ⟨hk,by simp⟩⟩
   .rw[Kl (tj hj)] at e2
    obtain⟨u',r',q⟩:=hl j y v' e1 e2 e3;refine⟨u',r',?_⟩
    rcases q with⟨k,e⟩ | ⟨k,c,e,z⟩
    .refine .inl ⟨k,?_⟩
     have:y≠x:=λe=>hj (wc hN e1 (e ▸ hi))
     simp[this,e]
    .exact .inr ⟨k,c,e,z.sameBut B (cne y c e)⟩
  .obtain⟨w',z⟩:=I.cell y c e
   exact⟨w',z.sameBut B (cne y c e)⟩
  .obtain⟨e,n,ne,nf,d⟩:=I.pin p hp
   exact⟨(B.2 p.1 ne).trans e,n,ne,nf,d⟩
 .have hfn:X.fn x=true:=by
   rcases hf with z | z
   .exact z
   .rw[z] at hk;cases hk
  obtain⟨c,L⟩:=I.ok.has x (.inl hk);obtain⟨w',z⟩:=I.cell x c L;refine wpAny_storeName_cell I.ok.kind hk L z (λh' ac B=>?_)
  obtain⟨oc,ab,af⟩:=id z;refine h { s with heap:=h' } ⟨I.ok,I.os,I.bare,⟨λb o e n hb Y=>?_,λb o e n hb Y=>?_,I.base.free,λb o e Y=>?_,I.base.tups,I.base.frzs,I.base.tbls⟩,⟨m,hn.sameBut B (tj (cne x c L)),λj y v' e1 e2 e3=>?_⟩,λy c' e=>?_,I.free,I.freeC,λp hp=>?_,F ⟨oc,ab,I.freeC x c L⟩ B,by simpa using I.len⟩ ⟨c,B,.inr L⟩
  .exact(B.2 b (j_ (h_ (e9 e) (I.ok.cab x c hfn L)))).trans (I.base.keep b o e n hb Y)
  .obtain⟨sl,e1⟩:=I.base.slot b o e n hb Y
   exact⟨sl,(B.2 b (j_ (h_ (e9 e) (I.ok.cab x c hfn L)))).trans e1⟩
  .obtain⟨o',e1⟩:=I.base.there b o e Y
   exact⟨o',(B.2 b (j_ (h_ (e9 e) (I.ok.cab x c hfn L)))).trans e1⟩
  .by_cases hj:j=i
   .subst hj
    rw[hi] at e1;cases e1;rw[List.getElem?_set_self aa] at e2;cases e2;exact⟨u,r,.inr ⟨.inl hk,c,L,ac⟩⟩
   .rw[Kl (tj hj)] at e2
    obtain⟨u',r',q⟩:=hl j y v' e1 e2 e3;refine⟨u',r',?_⟩
    rcases q with q | ⟨k,c',e,z'⟩
    .exact .inl q
    .refine .inr ⟨k,c',e,z'.sameBut B ?_⟩
     rintro rfl
     exact hj (wc hN e1 (I.ok.inj _ _ _ e L ▸ hi))
  .by_cases hcc:c'=c
   .subst hcc;exact⟨_,ac⟩
   .obtain⟨w2,z2⟩:=I.cell y c' e
    exact⟨w2,z2.sameBut B hcc⟩
  .obtain⟨e,n,ne,nf,d⟩:=I.pin p hp
   refine⟨(B.2 p.1 ?_).trans e,n,ne,nf,d⟩
   intro q;rw[q,ab] at e;have q':oc=p.2:=e8 e
   exact d w' (by rw[<- q'];exact af)
theorem qx {v:V} {Q:Unit->Shared->Prop} (I:Inv X pins σ H s) (F:X.N.Nodup) (hi:X.N[i]? = some x) (L:Loc X.env.scope x) (r:bq v u)
  (h : ∀s',Inv X pins (σ.set i (some v)) H s'->Q Unit.unit s') (B:X.fn x=true\/X.env.scope.names.lookup x=some .local:=by first | exact .inl rfl | exact .inr rfl | assumption):wpAny M A (storeName X.env x u) Q E s :=
 sA I F hi L r (λs' Y _=>h s' Y) B
theorem Inv.call' (I:Inv X pins σ H s) (Y:s'.os=s.os) (u:Un (frs X.stack) ch H H' s.heap s'.heap) (B:HOk X.prog X.w H' s'.heap) (L:AllBare s'.gens)
  (F : ∀b∈ch,(b∈X.ex\/X.s₀.heap.objs.size<=b)/\b≠X.env.locals/\(∀x c,X.env.cells.lookup x=some c->c≠b)/\∀p∈X.pn++pins,p.1≠b):Inv X pins σ H' s':=by
 obtain⟨h',g',d',t',o'⟩:=s';have e:o'=s.os:=Y
 subst e;exact I.call (g':=g') (t':=t') (d':=d') u B L F
end
abbrev XK:=Value->Option Addr->Hp->Prop
abbrev St:=List (Option V)
abbrev VK:=V->Hp->Prop
abbrev TE:=St->Hp->VK->Prop
abbrev TT:=St->Hp->(Bool->Hp->Prop)->Prop
abbrev TA:=St->Hp->(List V->Hp->Prop)->Prop
structure pI where
 nx:St->Hp->Prop
 rt:VK
 bk:St->Hp->Prop:=λ_ _=>False
 ct:St->Hp->Prop:=λ_ _=>False
abbrev TS:=pI->St->Hp->Prop
def EP (X:Cx) (pins:List (Addr × Obj)) (σ:St) (Q:VK) (u:Value) (s':Shared):Prop:=∃v H',Inv X pins σ H' s'/\bq v u/\Q v H'
def TP (X:Cx) (pins:List (Addr × Obj)) (σ:St) (Q:Bool->Hp->Prop) (b:Bool) (s':Shared):Prop:=∃H',Inv X pins σ H' s'/\Q b H'
def AP (X:Cx) (pins:List (Addr × Obj)) (σ:St) (Q:List V->Hp->Prop) (us:List Value) (s':Shared):Prop:=∃vs H',Inv X pins σ H' s'/\bj vs us/\Q vs H'
def SP (X:Cx) (pins:List (Addr × Obj)) (D:pI) (f:Flow) (s':Shared):Prop :=
 match f with
 | .next=>∃ σ' H',Inv X pins σ' H' s'/\D.nx σ' H'
 | .brk=>∃ σ' H',Inv X pins σ' H' s'/\D.bk σ' H'
 | .cont=>∃ σ' H',Inv X pins σ' H' s'/\D.ct σ' H'
 | .ret u=>∃v σ' H',Inv X pins σ' H' s'/\bq v u/\D.rt v H'
namespace Irr
set_option allowUnsafeReducibility true in
@[scoped irreducible] def _root_.L2.PE (X:Cx) (e:Expr) (t:TE):Prop :=
 ∀(pins:List (Addr × Obj)) (s:Shared) (σ:St) (H:Hp) (Q:VK),Inv X pins σ H s->t σ H Q->wpAny (model X.prog X.w) X.A (eval e X.env) (EP X pins σ Q) X.xe s
end Irr
namespace Irr
set_option allowUnsafeReducibility true in
@[scoped irreducible] def _root_.L2.PT (X:Cx) (e:Expr) (t:TT):Prop :=
 ∀(pins:List (Addr × Obj)) (s:Shared) (σ:St) (H:Hp) (Q:Bool->Hp->Prop),Inv X pins σ H s->t σ H Q->wpAny (model X.prog X.w) X.A (isTrue e X.env (eval e X.env)) (TP X pins σ Q) X.xe s
end Irr
namespace Irr
set_option allowUnsafeReducibility true in
@[scoped irreducible] def _root_.L2.PW (X:Cx) (e:Expr) (t:TT):Prop :=
 ∀(B:Sem Value) (pins:List (Addr × Obj)) (s:Shared) (σ:St) (H:Hp) (Q:Bool->Hp->Prop),Inv X pins σ H s->t σ H Q->wpAny (model X.prog X.w) X.A (isTrue e X.env B) (TP X pins σ Q) X.xe s
end Irr
theorem PW.pt {X:Cx} {t:TT} (h:PW X e t):PT X e t:=h _
namespace Irr
set_option allowUnsafeReducibility true in
@[scoped irreducible] def _root_.L2.PA (X:Cx) (es:List Expr) (t:TA):Prop :=
 ∀(pos:Pos) (pins:List (Addr × Obj)) (s:Shared) (σ:St) (H:Hp) (Q:List V->Hp->Prop),Inv X pins σ H s->t σ H Q->wpAny (model X.prog X.w) X.A (spliced (A_ pos (j9 es X.env))) (AP X pins σ Q) X.xe s
end Irr
namespace Irr
set_option allowUnsafeReducibility true in
@[scoped irreducible] def _root_.L2.PS (X:Cx) (st:Stmt) (t:TS):Prop :=
 ∀(pins:List (Addr × Obj)) (s:Shared) (σ:St) (H:Hp) (D:pI),Inv X pins σ H s->t D σ H->wpAny (model X.prog X.w) X.A (exec st X.env) (SP X pins D) X.xe s
end Irr
namespace Irr
set_option allowUnsafeReducibility true in
@[scoped irreducible] def _root_.L2.PSs (X:Cx) (st:List Stmt) (t:TS):Prop :=
 ∀(pins:List (Addr × Obj)) (s:Shared) (σ:St) (H:Hp) (D:pI),Inv X pins σ H s->t D σ H->wpAny (model X.prog X.w) X.A (execs st X.env) (SP X pins D) X.xe s
end Irr
theorem thn {t:Sem α} {Q B:α->Shared->Prop} (h:wpAny M A t Q E s) (F : ∀a s,Q a s->B a s):wpAny M A t B E s:=y2 h F λ_ _ x=>x
section
variable {X:Cx}
def C9 (i:Nat):TE:=λσ H Q=>∃v,σ[i]? = some (some v)/\Q v H
def tC (v:V):TE:=λ_ H Q=>Q v H
theorem Gf (hN:X.N[i]? = some x) (Z:Vis X.env.scope x) (L:(x ==("__debug__" : Str))=false:=by decide) (Y:(x ==("__classdict__" : Str))=false:=by decide):PE X (.Name x pos) (C9 i):=by
 intro pins s σ H Q I h;obtain⟨v,e,h⟩:=h;obtain⟨m,hn,hl⟩:=I.loc;obtain⟨u,r,l⟩:=hl i x v hN e Z;have F:EP X pins σ Q u s:=⟨v,H,I,r,h⟩
 rcases l with⟨B,hm⟩ | ⟨B,c,hc,hcell⟩
 .exact wpAny_Name (wpAny_loadName_local I.ok.kind B hn hm F) L
 .rcases B with B | B
  .exact wpAny_Name (wpAny_loadName_cell I.ok.kind B hc hcell F) L
  .exact wpAny_Name (wpAny_loadName_free I.ok.kind B hc hcell F Y) L
theorem aj {i j pos}:PE X (.Constant (.int i) j pos) (tC (.int i)):=λ_ _ _ H _ I h=>wpAny_Constant_int ⟨.int i,H,I.tok _,⟨_,rfl⟩,h⟩
theorem dz {b j pos}:PE X (.Constant (.bool b) j pos) (tC (.bl b)):=λ_ _ _ H _ I h=>Constant_bool ⟨.bl b,H,I,rfl,h⟩
theorem AA {j pos}:PE X (.Constant .none j pos) (tC .non):=λ_ _ _ H _ I h=>Constant_none ⟨.non,H,I,rfl,h⟩
theorem aJ {x j pos}:PE X (.Constant (.str x) j pos) (tC (.str x)):=λ_ _ _ H _ I h=>Calls.Constant_str ⟨.str x,H,I.tok _,⟨_,rfl⟩,h⟩
def Gl (X:Cx) (x:Str):Prop:=X.env.kindOf x=some .globalImplicit
theorem pJ {σ:St} {H:Hp} (I:Inv X pins σ H s) (B:Gl X x) (L:X.mg x=some u) (h:Q u s)
  (F:(x ==("__debug__" : Str))=false:=by decide):wpAny (model X.prog X.w) X.A (eval (.Name x pos) X.env) Q E s :=
 Calls.Name_function_global I.ok.kind B (Calls.loadGlobal_global (by rw[I.ok.glob];exact I.mod.glob.keeps I.bk) L h) F
theorem gs {σ:St} {H:Hp} (I:Inv X pins σ H s) (B:Gl X x) (Y:X.mg x=none) (F:y6 x=some u) (h:Q u s)
  (hn:x ≠ "__name__" := by decide) (L:(x ==("__debug__" : Str))=false:=by decide):wpAny (model X.prog X.w) X.A (eval (.Name x pos) X.env) Q E s:=by
 obtain⟨mb,h1,h2⟩:=I.mod.blt;exact Calls.Name_function_global I.ok.kind B (Calls.loadGlobal_builtin (by rw[I.ok.glob];exact I.mod.glob.keeps I.bk) Y (by rw[I.ok.blt];exact h1.keeps I.bk) ((h2 x hn).trans F) h) L
theorem C4 {v:V} (B:Gl X x) (L:X.mg x=some u) (r:bq v u) (F:(x ==("__debug__" : Str))=false:=by decide):PE X (.Name x pos) (tC v) :=
 λ_ _ _ H _ I h=>pJ I B L ⟨v,H,I,r,h⟩ F
theorem Dt {v:V} (B:Gl X x) (Y:X.mg x=none) (F:y6 x=some u) (r:bq v u) (hn:x ≠ "__name__" := by decide) (L:(x ==("__debug__" : Str))=false:=by decide):PE X (.Name x pos) (tC v) :=
 λ_ _ _ H _ I h=>gs I B Y F ⟨v,H,I,r,h⟩ hn L
variable {a b:Expr} {ta tb:TE}
def PC (X:Cx) (op:CmpOp) (a b:Expr) (t:TE):Prop :=
 ∀ (pins:List (Addr × Obj)) (s:Shared) (σ:St) (H:Hp) (Q:VK),Inv X pins σ H s->t σ H Q ->
  wpAny (model X.prog X.w) X.A (eval a X.env) (λv s₁=>wpAny (model X.prog X.w) X.A (eval b X.env) (λu B=>wpAny (model X.prog X.w) X.A (n6 op v u) (EP X pins σ Q) X.xe B) X.xe s₁) X.xe s
theorem uZ (b:Expr) {op:CmpOp} (h:op≠.In) (h2:op≠.NotIn):Jk op b=false:=by
 have e1:(op == CmpOp.In)=false:=by cases op <;> first | rfl | exact absurd rfl h
 have e2:(op == CmpOp.NotIn)=false:=by cases op <;> first | rfl | exact absurd rfl h2
 cases b <;> simp[Jk,e1,e2]
def xz (ta:TE):TE:=λσ H Q=>ta σ H λx H1=>Q (.bl (decide (x = .non))) H1
theorem bq.none_iff {x:V} {v:Value} (r:bq x v):(v == n_)=decide (x = .non):=by
 cases x with
 | non=>cases r;rfl
 | bl _=>cases r;rfl
 | int _=>obtain⟨t,rfl⟩:=r;rfl
 | str _=>obtain⟨t,rfl⟩:=r;rfl
 | byt _=>obtain⟨t,rfl⟩:=r;rfl
 | flt _=>obtain⟨t,rfl⟩:=r;rfl
 | ref _=>cases r;rfl
 | ty _=>cases r;rfl
theorem mW {j pos'} (ha:PE X a ta):PC X .Is a (.Constant .none j pos') (xz ta):=by
 intro pins s σ H Q I h;refine thn (ha pins s σ H _ I h) λv Z B=>?_
 obtain⟨x,H1,L,F,Y⟩:=B;exact Constant_none (is_none_gen ⟨.bl _,H1,L,by rw[F.none_iff];rfl,Y⟩)
def tB (t:TE):TT:=λσ H Q=>t σ H λx H1=>∃c,x = .bl c/\Q c H1
theorem nZ {op:CmpOp} {t:TE} (h:PC X op a b t) (h1:Jk op b=false:=by first | exact uZ _ ∅ ∅ | rfl):PE X (.Compare a [op] [b] pos) t:=λpins s σ H Q I B=>wpAny_Compare1 (h pins s σ H Q I B) h1
theorem ql {op:CmpOp} {t:TE} (h:PC X op a b t) (h1:Jk op b=false:=by first | exact uZ _ ∅ ∅ | rfl):PT X (.Compare a [op] [b] pos) (tB t):=by
 intro pins s σ H Q I Y;refine wpAny_isTrue_Compare1 (thn (h pins s σ H _ I Y) λv s1 h1=>thn h1 λu s2 h2=>thn h2 λc s3 B=>?_) h1
 obtain⟨x,H1,Z,L,F⟩:=B;obtain⟨d,rfl,q⟩:=F;cases L;exact x6 ⟨H1,Z,q⟩
theorem dw {t:TE} (h:PE X e t) (he : ∀B,isTrue e X.env B=(do let v <- B;standAt e.pos;holding [v] (truthy v)):=by intro _;rfl):PT X e (tB t):=by
 intro pins s σ H Q I Z;refine isTrue_plain (thn (h pins s σ H _ I Z) λv s1 F=>?_) (he _)
 obtain⟨x,H1,I1,Y,L⟩:=F;obtain⟨d,rfl,q⟩:=L;cases Y;exact x6 ⟨H1,I1,q⟩
variable {tA tB':TT} {rest:List Expr}
def Gq (t u:TT):TT:=λσ H Q=>t σ H λc H1=>if c=true then u σ H1 Q else Q false H1
def tOr (t u:TT):TT:=λσ H Q=>t σ H λc H1=>if c=true then Q true H1 else u σ H1 Q
def Gx (t:TT):TT:=λσ H Q=>t σ H λc H1=>Q (!c) H1
theorem zd (ha:PT X a tA):PW X (.BoolOp .And [a] pos) tA:=by
 intro F pins s σ H Q I h;refine isTrue_and (thn (ha pins s σ H Q I h) λc B e=>?_)
 cases c with
 | true=>exact isTrue_and_nil e
 | false=>exact e
theorem jM (ha:PT X a tA):PW X (.BoolOp .Or [a] pos) tA:=by
 intro F pins s σ H Q I h;refine isTrue_or (thn (ha pins s σ H Q I h) λc B e=>?_)
 cases c with
 | false=>exact isTrue_or_nil e
 | true=>exact e
theorem wO (ha:PT X a tA) (Z:PW X (.BoolOp .And (b :: rest) pos) tB'):PW X (.BoolOp .And (a :: b :: rest) pos) (Gq tA tB'):=by
 intro wh pins s σ H Q I h;refine isTrue_and (thn (ha pins s σ H _ I h) λc Y B=>?_)
 obtain⟨H1,F,L⟩:=B;cases c with
 | true=>exact Z wh pins Y σ H1 Q F L
 | false=>exact⟨H1,F,L⟩
theorem kJ (ha:PT X a tA) (Z:PW X (.BoolOp .Or (b :: rest) pos) tB'):PW X (.BoolOp .Or (a :: b :: rest) pos) (tOr tA tB'):=by
 intro wh pins s σ H Q I h;refine isTrue_or (thn (ha pins s σ H _ I h) λc Y B=>?_)
 obtain⟨H1,F,L⟩:=B;cases c with
 | true=>exact⟨H1,F,L⟩
 | false=>exact Z wh pins Y σ H1 Q F L
theorem iP (ha:PT X a tA):PT X (.UnaryOp .Not a pos) (Gx tA):=by
 intro pins s σ H Q I h;exact isTrue_not (ha pins s σ H (λc H1=>Q (!c) H1) I h)
def BS (ta tb:TE):TE:=λσ H Q=>ta σ H λx H1=>∃c,x = .bl c/\if c=true then tb σ H1 Q else Q (.bl false) H1
def E6 (ta tb:TE):TE:=λσ H Q=>ta σ H λx H1=>∃c,x = .bl c/\if c=true then Q (.bl true) H1 else tb σ H1 Q
def AO (ta:TE):TE:=λσ H Q=>ta σ H λx H1=>∃c,x = .bl c/\Q (.bl (!c)) H1
theorem eZ {op} {t:TE} (h:PE X a t):PE X (.BoolOp op [a] pos) t:=λpins s σ H Q I B=>BoolOp_one (h pins s σ H Q I B)
theorem qm (ha:PE X a ta) (Z:PE X (.BoolOp .And (b :: rest) pos) tb):PE X (.BoolOp .And (a :: b :: rest) pos) (BS ta tb):=by
 intro pins s σ H Q I h;refine BoolOp_and (thn (ha pins s σ H _ I h) λv s1 B=>?_)
 obtain⟨x,H1,L,Y,F⟩:=B;obtain⟨c,rfl,F⟩:=F;cases Y;refine x6 ?_
 cases c with
 | true=>exact Z pins s1 σ H1 Q L F
 | false=>exact⟨.bl false,H1,L,rfl,F⟩
theorem mm (ha:PE X a ta) (Z:PE X (.BoolOp .Or (b :: rest) pos) tb):PE X (.BoolOp .Or (a :: b :: rest) pos) (E6 ta tb):=by
 intro pins s σ H Q I h;refine BoolOp_or (thn (ha pins s σ H _ I h) λv s1 B=>?_)
 obtain⟨x,H1,L,Y,F⟩:=B;obtain⟨c,rfl,F⟩:=F;cases Y;refine x6 ?_
 cases c with
 | false=>exact Z pins s1 σ H1 Q L F
 | true=>exact⟨.bl true,H1,L,rfl,F⟩
theorem Bj (ha:PE X a ta):PE X (.UnaryOp .Not a pos) (AO ta):=by
 intro pins s σ H Q I h;refine UnaryOp_ (thn (ha pins s σ H _ I h) λv Z B=>?_)
 obtain⟨x,H1,Y,L,F⟩:=B;obtain⟨c,rfl,F⟩:=F;cases L;exact not_of (x6 ⟨.bl (!c),H1,Y,rfl,F⟩)
end
def SqL (K:fx) (H:Hp) (a:Addr) (xs:List V):Prop :=
 Rd H a (.lst xs) \/
  ∃(o:Obj) (its:Array Value) (n:Nat),K.lookup a=some o/\o.cls = .type "list" /\ o.dict=none/\o.data = .seq its n/\its.size<=ge/\bj xs its.toList
def SqT (K:fx) (H:Hp) (a:Addr) (xs:List V):Prop :=
 Rd H a (.tup xs) \/
  ∃(o:Obj) (its:Array Value) (n:Nat),K.lookup a=some o/\o.cls = .type "tuple" /\ o.data = .seq its n/\its.size<=ge/\bj xs its.toList
def Iy:Value->Option V
 | .none=>some .non
 | .bool b=>some (.bl b)
 | .int i _=>some (.int i)
 | .str x _=>some (.str x)
 | .bytes b _=>some (.byt b)
 | .float b _=>some (.flt b)
 | .ref a=>some (.ref a)
 | .type n=>some (.ty n)
 | _=>none
theorem bq.abs {x:V} (r:bq x u):Iy u=some x:=by
 cases x with
 | non=>cases r;rfl
 | bl _=>cases r;rfl
 | int _=>obtain⟨t,rfl⟩:=r;rfl
 | str _=>obtain⟨t,rfl⟩:=r;rfl
 | byt _=>obtain⟨t,rfl⟩:=r;rfl
 | flt _=>obtain⟨t,rfl⟩:=r;rfl
 | ref _=>cases r;rfl
 | ty _=>cases r;rfl
theorem bq.inj {x y:V} {u:Value} (r:bq x u) (q:bq y u):x=y:=e8 (r.abs.symm.trans q.abs)
theorem bj.inj : ∀{xs ys:List V} {us:List Value},bj xs us->bj ys us->xs=ys
 | _,_,_,.nil,.nil=>rfl
 | _,_,_,.cons r t,.cons r' t'=>by rw[r.inj r',bj.inj t t']
section
variable {X:Cx} {σ:St} {H:Hp} {xs ys:List V}
theorem SqL.of (h:H a*>xs):SqL K H a xs:=.inl (.inl h)
theorem SqT.of (h:H a>>xs):SqT K H a xs:=.inl (.inl h)
theorem Inv.list (I:Inv X pins σ H s) (h:SqL X.K H a xs) : ∃its:List Value,bj xs its/\PlainL s.heap a its.toArray/\xs.length<=ge:=by
 rcases h with h | ⟨o,its,n,hk,hc,hd,hs,hz,r⟩
 .obtain⟨z,its,n,r,e⟩:=h.ok I.hok
  exact⟨its,r,⟨_,n,e,rfl,rfl,rfl⟩,z⟩
 .refine⟨its.toList,r,⟨o,n,I.kIn a o hk,hc,hd,by simpa using hs⟩,?_⟩
  have e:=r.length;simp only[y8] at e;omega
theorem Inv.tuple (I:Inv X pins σ H s) (h:SqT X.K H a xs) : ∃its:List Value,bj xs its/\IsTup s.heap a its.toArray/\xs.length<=ge:=by
 rcases h with h | ⟨o,its,n,hk,hc,hs,hz,r⟩
 .obtain⟨z,its,r,p⟩:=h.ok I.hok
  exact⟨its,r,p,z⟩
 .refine⟨its.toList,r,⟨o,I.kIn a o hk,hc,n,by simpa using hs⟩,?_⟩
  have e:=r.length;simp only[y8] at e;omega
theorem Inv.list_inj (I:Inv X pins σ H s) (h:SqL X.K H a xs) (h':SqL X.K H a ys):xs=ys:=by
 obtain⟨its,r,⟨o,n,e,_,_,d⟩,_⟩:=I.list h;obtain⟨its',r',⟨o',F,B,_,_,d'⟩,_⟩:=I.list h';rw[e] at B;cases B;rw[d] at d'
 injection d' with d1 _
 have:its=its':=by simpa using congrArg Array.toList d1
 subst this;exact r.inj r'
theorem Inv.tuple_inj (I:Inv X pins σ H s) (h:SqT X.K H a xs) (h':SqT X.K H a ys):xs=ys:=by
 obtain⟨its,r,⟨o,e,_,n,d⟩,_⟩:=I.tuple h;obtain⟨its',r',⟨o',B,_,F,d'⟩,_⟩:=I.tuple h';rw[e] at B;cases B;rw[d] at d'
 injection d' with d1 _
 have:its=its':=by simpa using congrArg Array.toList d1
 subst this;exact r.inj r'
end
abbrev Cx.wish (X:Cx) (E:Value->Shared->Prop):Cx:={ X with xe:=E }
abbrev Cx.nox (X:Cx):Cx:=X.wish λ_ _=>False
theorem Cx.Ok.wish {X:Cx} (ok:X.Ok) (E:Value->Shared->Prop):(X.wish E).Ok :=
 ⟨ok.mod,ok.kind,ok.glob,ok.blt,ok.above,ok.inj,ok.has,ok.cab,ok.hd,ok.frames,ok.stk,ok.exf,ok.bs,ok.bsz,ok.noex,ok.exfs,ok.funs,ok.frf⟩
theorem Cx.Ok.unwish {X:Cx} (ok:(X.wish E).Ok):X.Ok :=
 ⟨ok.mod,ok.kind,ok.glob,ok.blt,ok.above,ok.inj,ok.has,ok.cab,ok.hd,ok.frames,ok.stk,ok.exf,ok.bs,ok.bsz,ok.noex,ok.exfs,ok.funs,ok.frf⟩
section
variable {X:Cx} {σ:St} {H:Hp}
theorem Inv.wish (I:Inv X pins σ H s) (E:Value->Shared->Prop):Inv (X.wish E) pins σ H s:=⟨I.ok.wish E,I.os,I.bare,I.base,I.loc,I.cell,I.free,I.freeC,I.pin,I.hok,I.len⟩
theorem Inv.unwish (I:Inv (X.wish E) pins σ H s):Inv X pins σ H s:=⟨I.ok.unwish,I.os,I.bare,I.base,I.loc,I.cell,I.free,I.freeC,I.pin,I.hok,I.len⟩
theorem SP.unwish {D:pI} {f:Flow} {s':Shared} (h:SP (X.wish E) pins D f s'):SP X pins D f s':=by
 cases f with
 | next=>obtain⟨σ',H',I,q⟩:=h;exact⟨σ',H',I.unwish,q⟩
 | brk=>obtain⟨σ',H',I,q⟩:=h;exact⟨σ',H',I.unwish,q⟩
 | cont=>obtain⟨σ',H',I,q⟩:=h;exact⟨σ',H',I.unwish,q⟩
 | ret u=>obtain⟨v,σ',H',I,r,q⟩:=h;exact⟨v,σ',H',I.unwish,r,q⟩
theorem PSs.nox {st:List Stmt} {t:TS} (h:PSs X.nox st t):PSs X st t:=λpins s σ H D I B =>
 y2 (h pins s σ H D (I.wish _) B) (λ_ _ q=>q.unwish) λ_ _ z=>D_ z
end
section
variable {X:Cx} {t u:TS} {te:TE}
def AY:TS:=λD σ H=>D.nx σ H
def oy (t u:TS):TS:=λD σ H=>t { D with nx:=u D } σ H
theorem aM:PSs X [] AY:=λ_ _ σ H _ I h=>wpAny_execs_nil ⟨σ,H,I,h⟩
theorem af (h1:PS X st t) (h2:PSs X rest u):PSs X (st :: rest) (oy t u):=by
 intro pins s σ H D I h;refine wpAny_execs_cons (thn (h1 pins s σ H { D with nx:=u D } I h) λf B q=>?_)
 cases f with
 | next =>
  obtain⟨σ',H',F,q⟩:=q;exact h2 pins B σ' H' D F q
 | ret v=>exact q
 | brk=>exact q
 | cont=>exact q
theorem ai (h1:PS X st t):PSs X [st] t:=by
 intro pins s σ H D I h;refine wpAny_execs_cons (thn (h1 pins s σ H D I h) λf B q=>?_)
 cases f with
 | next=>exact wpAny_execs_nil q
 | ret v=>exact q
 | brk=>exact q
 | cont=>exact q
theorem Inv.quiet {σ:St} {H:Hp} (I:Inv X pins σ H s):interactive X.env=false:=by simp[interactive,I.ok.kind]
def B0 (te:TE):TS:=λD σ H=>te σ H λ_ H1=>D.nx σ H1
theorem bW (Z:PE X e te) (L:KA e none pos.line X.env=pure false:=by rfl):PS X (.Expr e pos) (B0 te):=by
 intro pins s σ H D I h;exact wpAny_Expr_any (thn (Z pins s σ H _ I h) λv s1 B=>by obtain⟨x,H1,F,r1,Y⟩:=B;exact(⟨σ,H1,F,Y⟩)) I.quiet L
def EJ (te:TE):TS:=λD σ H=>te σ H D.rt
theorem az (Z:PE X e te):PS X (.Return (some e) pos) (EJ te):=by
 intro pins s σ H D I h;exact wpAny_Return_some (thn (Z pins s σ H _ I h) λv s1 B=>by obtain⟨x,H1,L,F,Y⟩:=B;exact(⟨x,σ,H1,L,F,Y⟩))
def GK (c:TT) (t u:TS):TS:=λD σ H=>c σ H λb H1=>if b=true then t D σ H1 else u D σ H1
theorem bg {c:Expr} {a b:List Stmt} {tc:TT} (hc:PT X c tc) (ha:PSs X a t) (Z:PSs X b u):PS X (.If c a b pos) (GK tc t u):=by
 intro pins s σ H D I h;refine wpAny_If (thn (hc pins s σ H _ I h) λd Y B=>?_)
 obtain⟨H1,L,F⟩:=B;cases d with
 | true=>exact ha pins Y σ H1 D L F
 | false=>exact Z pins Y σ H1 D L F
def xj:TS:=λ_ _ _=>False
theorem dX:PS X st xj:=λ_ _ _ _ _ _ h=>h.elim
end
abbrev TG:=V->St->Hp->(St->Hp->Prop)->Prop
abbrev TGs:=List V->St->Hp->(St->Hp->Prop)->Prop
def PG (X:Cx) (B:Expr) (t:TG):Prop :=
 ∀ (pins:List (Addr × Obj)) (s:Shared) (σ:St) (H:Hp) (v:V) (u:Value) (Q:St->Hp->Prop),Inv X pins σ H s->bq v u->t v σ H Q ->
  wpAny (model X.prog X.w) X.A (assign B X.env u) (λ_ s'=>∃ σ' H',Inv X pins σ' H' s'/\Q σ' H') X.xe s
def PGs (X:Cx) (ts:List Expr) (t:TGs):Prop :=
 ∀ (pins:List (Addr × Obj)) (s:Shared) (σ:St) (H:Hp) (vs:List V) (us:List Value) (Q:St->Hp->Prop),Inv X pins σ H s->bj vs us->t vs σ H Q ->
  wpAny (model X.prog X.w) X.A (assignInOrder ((Km ts X.env).map (·.2)) us) (λ_ s'=>∃ σ' H',Inv X pins σ' H' s'/\Q σ' H') X.xe s
abbrev TIp:=V->V->Hp->VK->Prop
def PIp (X:Cx) (op:Operator) (t:TIp):Prop :=
 ∀ (pins:List (Addr × Obj)) (s:Shared) (σ:St) (H:Hp) (x y:V) (v u:Value) (Q:VK),Inv X pins σ H s->bq x v->bq y u->t x y H Q ->
  wpAny (model X.prog X.w) X.A (inplaceOp op v u) (EP X pins σ Q) X.xe s
section
variable {X:Cx}
def gb (i:Nat):TG:=λv σ H Q=>Q (σ.set i (some v)) H
theorem ay (i:Nat) {x:Str} (F:X.N.Nodup:=by first | assumption | exact of_decide_eq_true (by kernel_rfl)) (hi:X.N[i]? = some x:=by exact rfl) (L:Loc X.env.scope x:=by first | exact Or.inl rfl | exact Or.inr rfl) (B:X.fn x=true\/X.env.scope.names.lookup x=some .local:=by first | exact .inl rfl | exact .inr rfl | assumption):PG X (.Name x pos) (gb i):=by
 intro pins s σ H v u Q I r h;exact wpAny_assign_Name (qx I F hi L r (λs' Y=>⟨_,H,Y,h⟩) B)
def BB:TGs:=λvs σ H Q=>vs=[]/\Q σ H
def qK (t:TG) (u:TGs):TGs:=λvs σ H Q=>∃v r,vs=v :: r/\t v σ H λσ' H'=>u r σ' H' Q
theorem iF:PGs X [] BB:=by
 intro pins s σ H vs us Q I r h;obtain⟨e,h⟩:=h;subst e;cases r;exact assignInOrder_nil ⟨σ,H,I,h⟩
theorem cF {t:TG} {u:TGs} (h1:PG X e t) (h2:PGs X es u)
  (Y:(Km (e :: es) X.env).map (·.2)=assign e X.env ::(Km es X.env).map (·.2):=by rfl):PGs X (e :: es) (qK t u):=by
 intro pins s σ H vs us Q I r h;obtain⟨v,vr,e1,h⟩:=h;subst e1;cases r with
 | cons r Z =>
  rw[Y];refine assignInOrder_cons (thn (h1 pins s σ H _ _ _ I r h) λ_ s1 B=>?_)
  obtain⟨F,H1,I1,L⟩:=B;exact h2 pins s1 F H1 _ _ Q I1 Z L
def Ig (K:fx) (n:Nat) (t:TGs):TG:=λv σ H Q=>∃a xs,v = .ref a/\SqT K H a xs/\xs.length=n/\t xs σ H Q
theorem EM {t:TGs} (hc:X.calm=true) (h:PGs X es t)
  (hn:(Km es X.env).length=n:=by rfl) (F:(Km es X.env).findIdx? (·.1)=none:=by rfl):PG X (.Tuple es k pos) (Ig X.K n t):=by
 intro pins s σ H v u Q I r B;obtain⟨a,xs,e1,hq,hl,B⟩:=B;subst e1;cases r;obtain⟨its,L,Y,hz⟩:=I.tuple hq;refine assign_Tuple_tuple (I.ok.hd hc) Y (by simp[hn,<- hl,L.length]) F λh' Z=>?_
 have I1:Inv X pins σ H { s with heap:=h' }:=I.kept (t':=s.toks) λb o e=>Z b o (j_ (e9 e)) e
 exact h pins _ σ H xs _ Q I1 (by simpa using L) B
def zy (te:TE) (g:TG):TS:=λD σ H=>te σ H λx H1=>g x σ H1 D.nx
theorem Gj {te:TE} {g:TG} (he:PE X e te) (hg:PG X tg g) (Z:swapsWithSole [tg] e pos.line X.env=pure false:=by rfl) (Y:swappedStores [tg] e X.env=pure none:=by rfl)
  (h1:(Km [tg] X.env).map (·.2)=[assign tg X.env]:=by rfl):PS X (.Assign [tg] e pos) (zy te g):=by
 intro pins s σ H D I h;refine wpAny_Assign_stores (thn (he pins s σ H _ I h) λv s1 B=>?_) Z Y
 obtain⟨x,H1,I1,L,F⟩:=B;rw[h1];exact thn (hg pins s1 σ H1 x v _ I1 L F) λ_ s2 q=>q
theorem aB (i:Nat) {x:Str} {e:Expr} {te:TE} {pos':Pos} (he:PE X e te) (hN:X.N.Nodup:=by assumption) (hi:X.N[i]? = some x:=by exact rfl) (Z:Loc X.env.scope x:=by first | exact Or.inl rfl | exact Or.inr rfl) (hs:KA e (some (.Name x pos')) pos.line X.env=pure false:=by rfl) (F:X.fn x=true\/X.env.scope.names.lookup x=some .local:=by first | exact .inl rfl | exact .inr rfl | assumption) :
  PS X (.Assign [.Name x pos'] e pos) (zy te (gb i)):=by
 intro pins s σ H D I h;refine wpAny_Assign_Name (thn (he pins s σ H _ I h) λv s1 B=>?_) hs
 obtain⟨y,H1,I1,Y,L⟩:=B;exact qx I1 hN hi Z Y (λs2 I2=>⟨_,H1,I2,L⟩) F
def GJ (i:Nat) (te:TE) (B:TIp):TS:=λD σ H=>∃x,σ[i]? = some (some x)/\te σ H λy H1=>B x y H1 λz H2=>D.nx (σ.set i (some z)) H2
theorem EV (i:Nat) {x:Str} {e:Expr} {te:TE} {op:Operator} {ti:TIp} {pos':Pos} (he:PE X e te) (ho:PIp X op ti) (hN:X.N.Nodup:=by assumption) (hi:X.N[i]? = some x:=by exact rfl) (hx:Loc X.env.scope x:=by first | exact Or.inl rfl | exact Or.inr rfl) (hf:X.fn x=true\/X.env.scope.names.lookup x=some .local:=by first | exact .inl rfl | exact .inr rfl | assumption) :
  PS X (.AugAssign (.Name x pos') op e pos) (GJ i te ti):=by
 intro pins s σ H D I h;obtain⟨v,e1,h⟩:=h;obtain⟨m,hn,hl⟩:=I.loc;have aa:Vis X.env.scope x:=by rcases hx with k | k;exact .inl k;exact .inr (.inl k)
 obtain⟨u,r,l⟩:=hl i x v hi e1 aa;refine wpAny_AugAssign_Name ?_
 have go:wpAny (model X.prog X.w) X.A (eval e X.env) (λw Y=>wpAny (model X.prog X.w) X.A (inplaceOp op u w) (λr Z=>wpAny (model X.prog X.w) X.A (storeName X.env x r) (λ_=>SP X pins D .next) X.xe Z) X.xe Y) X.xe s:=by
  refine thn (he pins s σ H _ I h) λw s1 B=>?_
  obtain⟨y,H1,I1,r1,q1⟩:=B;refine thn (ho pins s1 σ H1 v y u w _ I1 r r1 q1) λz s2 F=>?_
  obtain⟨zv,H2,I2,r2,q2⟩:=F;exact qx I2 hN hi hx r2 (λs3 I3=>⟨_,H2,I3,q2⟩) hf
 rcases l with⟨L,hm⟩ | ⟨L,c,hc,hcell⟩
 .exact wpAny_loadName_local I.ok.kind L hn hm go
 .rcases L with L | L
  .exact wpAny_loadName_cell I.ok.kind L hc hcell go
  .rcases hx with k | k
   .have:X.env.scope.names.lookup x=some .free:=L
    rw[k] at this;cases this
   .have:X.env.scope.names.lookup x=some .free:=L
    rw[k] at this;cases this
end
section
variable {X:Cx}
def wY (c:TT) (tb:TS):TS:=λD σ H=>∃W:Nat->St->Hp->Prop,(∃m,W m σ H)/\∀m σ H,W m σ H ->
 c σ H λb H1=>if b=true then ∃N:St->Hp->Prop,(∀ σ' H',N σ' H'->∃B,B < m/\W B σ' H')/\tb { D with nx:=N,ct:=N,bk:=D.nx } σ H1 else D.nx σ H1
theorem qY {c:Expr} {tc:TT} {tb:TS} (hp:PassesOwn (model X.prog X.w) X.A X.env X.xe) (hc:PT X c tc) (hb:PSs X body tb):PS X (.While c body [] pos) (wY tc tb):=by
 intro pins s σ H D I h;obtain⟨W,⟨m0,w0⟩,Y⟩:=h;refine wpAny_While (codeAny_whileLoop (λn s'=>∃ σ' H',Inv X pins σ' H' s'/\W n σ' H') ?_ m0 ⟨σ,H,I,w0⟩)
 rintro n s1 ⟨F,H1,I1,w1⟩
 refine Jf hp (thn (hc pins s1 F H1 _ I1 (Y n F H1 w1)) λb s2 L=>?_)
 obtain⟨H2,I2,q2⟩:=L;cases b with
 | true =>
  obtain⟨N,hN,q2⟩:=q2;rw[if_pos rfl];refine Jf hp (thn (hb pins s2 F H2 _ I2 q2) λf s3 q3=>?_)
  cases f with
  | next =>
   obtain⟨B,Z,I3,n3⟩:=q3;obtain⟨m',hm,w3⟩:=hN B Z n3;exact⟨m',hm,B,Z,I3,w3⟩
  | cont =>
   obtain⟨B,Z,I3,n3⟩:=q3;obtain⟨m',hm,w3⟩:=hN B Z n3;exact⟨m',hm,B,Z,I3,w3⟩
  | brk=>exact q3
  | ret v=>exact q3
 | false =>
  rw[if_neg jc];exact wpAny_execs_nil ⟨F,H2,I2,q2⟩
end
structure It where
 go:Nat->Hp->Prop
 yld:Nat->Hp->V->Hp->Prop
 stop:Nat->Hp->Prop
def pX (X:Cx) (pins:List (Addr × Obj)) (H:Hp) (b:Addr):Prop :=
 H b=none/\b≠X.env.locals/\b∉X.fs/\(b∈X.ex\/X.s₀.heap.objs.size<=b)/\(∀x c,X.env.cells.lookup x=some c->c≠b)/\∀p∈X.pn++pins,p.1≠b
theorem Inv.fpOk {X:Cx} {σ:St} {H H':Hp} (I:Inv X pins σ H s) (B:s.heap.objs.size<=b) (hn:H' b=none):pX X pins H' b:=by
 refine⟨hn,pc (h_ I.lt B),I.nofs B,.inr (gt I.sz B),λx c e z=>?_,λp hp z=>?_⟩
 .obtain⟨v,q⟩:=I.cell x c e
  exact absurd (h_ q.lt (by rw[z];exact B)) (p9 _)
 .exact absurd (h_ (e9 (I.pin p hp).1) (by rw[z];exact B)) (p9 _)
structure tV (P:Program) (w:World) (K:fx) (tg:Expr) (J:It) (fp:List Addr) (it:Addr) (tn:Nat->Heap->Prop):Prop where
 mem:it∈fp
 obj : ∀i h,tn i h->∀b∈fp,∃o,h.get? b=some o/\∀v,o.data≠.cell v
 keep : ∀i h h',tn i h->(∀b∈fp,∀o,h.get? b=some o->h'.get? b=some o)->tn i h'
 item : ∀(X:Cx),X.prog=P->X.w=w->X.K=K->X.calm=true->∀(i:Nat) (pins:List (Addr × Obj)) (s:Shared) (σ:St) (H:Hp) (E:Value->Shared->Prop),Inv X pins σ H s->(∀b∈fp,pX X pins H b)->tn i s.heap->J.go i H ->
  wpAny (model P w) X.A (Jr (.ref it)) (λr s1=>∃u,r=some u /\
   wpAny (model P w) X.A (letOwnedTupleGo tg (.ref it) u) (λ_ s2=>∃x H',Inv X pins σ H' s2/\bq x u/\J.yld i H x H'/\tn (i+1) s2.heap/\∀b∈fp,H' b=none) E s1) E s
 done : ∀(X:Cx),X.prog=P->X.w=w->X.K=K->X.calm=true->∀(i:Nat) (pins:List (Addr × Obj)) (s:Shared) (σ:St) (H:Hp) (E:Value->Shared->Prop),Inv X pins σ H s->(∀b∈fp,pX X pins H b)->tn i s.heap->J.stop i H ->
  wpAny (model P w) X.A (Jr (.ref it)) (λr s1=>r=none/\Inv X pins σ H s1) E s
 self : ∀(A:Around) (i:Nat) (s:Shared) (Q:Value->Shared->Prop) (E:Value->Shared->Prop),tn i s.heap->Q (.ref it) s->wpAny (model P w) A (pyIter (.ref it)) Q E s
abbrev TI:=St->Hp->(It->Hp->Prop)->Prop
def PIE (X:Cx) (pins:List (Addr × Obj)) (σ:St) (tg:Expr) (R:It->Hp->Prop) (B:Value) (L:Shared):Prop :=
 ∃(it:Addr) (fp:List Addr) (F:Nat->Heap->Prop) (J:It) (H':Hp),B = .ref it/\Inv X pins σ H' L/\tV X.prog X.w X.K tg J fp it F/\F 0 L.heap/\(∀b∈fp,pX X pins H' b)/\R J H'
def PI (X:Cx) (tg iter:Expr) (wi:TI):Prop :=
 ∀ (pins:List (Addr × Obj)) (s:Shared) (σ:St) (H:Hp) (R:It->Hp->Prop),Inv X pins σ H s->wi σ H R ->
  wpAny (model X.prog X.w) X.A (eval iter X.env) (λv B=>wpAny (model X.prog X.w) X.A (pyIter v) (PIE X pins σ tg R) X.xe B) X.xe s
theorem sD {o:Obj} {n:String} {vs:Array Value} {Q:Unit->Shared->Prop} (F:s.heap.get? it=some o) (Y:o.cls = .type n) (L:o.data = .fields vs)
    (hn:["enumerate","zip","dict_itemiterator","dict_reverseitemiterator","odict_iterator","itertools.zip_longest","itertools.pairwise"].contains n=false) (B:Q Unit.unit s):wpAny M A (letOwnedTupleGo tg (.ref it) u) Q E s:=by
  unfold letOwnedTupleGo;cases tg <;> first
    | exact e7 B
    | (cases u <;> first
        | exact e7 B
        | (refine a_ (wpAny_load F ?_)
           rw[Y,L]
           show wpAny M A (if (["enumerate","zip","dict_itemiterator","dict_reverseitemiterator","odict_iterator","itertools.zip_longest","itertools.pairwise"].contains n && vs[0]? == some (w4 _))=true then _ else _) Q E s
           rw[if_neg (by intro h;rw[hn,Bool.false_and] at h;cases h)]
           exact e7 B))
def Itl (K:fx) (a:Addr):It :=
 ⟨λi H=>∃xs x,SqL K H a xs/\xs[i]? = some x,λi H x H'=>H'=H/\∀xs,SqL K H a xs->xs[i]? = some x,λi H=>∃xs,SqL K H a xs/\xs.length<=i⟩
def Itt (K:fx) (a:Addr):It :=
 ⟨λi H=>∃xs x,SqT K H a xs/\xs[i]? = some x,λi H x H'=>H'=H/\∀xs,SqT K H a xs->xs[i]? = some x,λi H=>∃xs,SqT K H a xs/\xs.length<=i⟩
def Itr (lo:Int) (n:Nat):It:=⟨λi _=>i < n,λi H x H'=>H'=H/\x = .int (lo+i),λi _=>n<=i⟩
theorem zD (a it:Addr):tV P w K tg (Itl K a) [it] it (λi h=>h.IsListIter it a i) where
 mem:=by simp
 obj:=λi h st b B=>by
  have e:b=it:=by simpa using B
  subst e;obtain⟨o,e,c,d⟩:=st;exact⟨o,e,λv z=>by rw[d] at z;cases z⟩
 keep:=λi h h' st k=>st.at λo e=>k it (by simp) o e
 item:=by
  intro X hP hw hK hc i pins s σ H E I L st hg;subst hP hw hK;obtain⟨xs,x,Y,hx⟩:=hg;obtain⟨its,rv,p,hz⟩:=I.list Y;obtain⟨u,hu,ru⟩:=rv.get hx;obtain⟨f0,f1,f2,f3,Z,f5⟩:=L it (by simp)
  refine wpAny_pyNext_list_item st p.isList (x:=u) (by simpa using hu) λh' F sb=>?_
  have I1:Inv X pins σ H { s with heap:=h' }:=I.turned (t':=s.toks) (λb o B e=>(sb.2 b B).trans e) f0 f1 f3 Z f5
  obtain⟨o,e,c,d⟩:=id F;exact⟨u,rfl,sD (s:={ s with heap:=h' }) e c d ∅ ⟨x,H,I1,ru,⟨rfl,λys hy=>by rw[I.list_inj hy Y];exact hx⟩,F,λb B=>(L b B).1⟩⟩
 done:=by
  intro X hP hw hK hc i pins s σ H E I L st hg;subst hP hw hK;obtain⟨xs,Y,hx⟩:=hg;obtain⟨its,rv,p,hz⟩:=I.list Y;obtain⟨f0,f1,f2,f3,Z,f5⟩:=L it (by simp)
  have hl:=rv.length;exact wpAny_pyNext_list_end (I.ok.hd hc) st p.isList (by simp;omega) λh' eb=>⟨rfl,I.turned (t':=s.toks) (λb o B e=>eb b o B e) f0 f1 f3 Z f5⟩
 self:=λ_ _ _ _ _ st h=>wpAny_pyIter_listiter st h
theorem xT (a it:Addr):tV P w K tg (Itt K a) [it] it (λi h=>h.IsTupleIter it a i) where
 mem:=by simp
 obj:=λi h st b B=>by
  have e:b=it:=by simpa using B
  subst e;obtain⟨o,e,c,d⟩:=st;exact⟨o,e,λv z=>by rw[d] at z;cases z⟩
 keep:=λi h h' st k=>st.at λo e=>k it (by simp) o e
 item:=by
  intro X hP hw hK hc i pins s σ H E I L st hg;subst hP hw hK;obtain⟨xs,x,Y,hx⟩:=hg;obtain⟨its,rv,p,hz⟩:=I.tuple Y;obtain⟨u,hu,ru⟩:=rv.get hx;obtain⟨f0,f1,f2,f3,Z,f5⟩:=L it (by simp)
  refine wpAny_pyNext_tuple_item st (show s.heap.IsTuple a its.toArray from p) (x:=u) (by simpa using hu) λh' F sb=>?_
  have I1:Inv X pins σ H { s with heap:=h' }:=I.turned (t':=s.toks) (λb o B e=>(sb.2 b B).trans e) f0 f1 f3 Z f5
  obtain⟨o,e,c,d⟩:=id F;exact⟨u,rfl,sD (s:={ s with heap:=h' }) e c d ∅ ⟨x,H,I1,ru,⟨rfl,λys hy=>by rw[I.tuple_inj hy Y];exact hx⟩,F,λb B=>(L b B).1⟩⟩
 done:=by
  intro X hP hw hK hc i pins s σ H E I L st hg;subst hP hw hK;obtain⟨xs,Y,hx⟩:=hg;obtain⟨its,rv,p,hz⟩:=I.tuple Y;obtain⟨f0,f1,f2,f3,Z,f5⟩:=L it (by simp)
  have hl:=rv.length;exact wpAny_pyNext_tuple_end (I.ok.hd hc) st (show s.heap.IsTuple a its.toArray from p) (by simp;omega) λh' eb=>⟨rfl,I.turned (t':=s.toks) (λb o B e=>eb b o B e) f0 f1 f3 Z f5⟩
 self:=λ_ _ _ _ _ st h=>wpAny_pyIter_tupleiter st h
theorem xi (it:Addr) (lo:Int) (n:Nat):tV P w K tg (Itr lo n) [it] it (λi h=>IsRangeIter h it (lo+(i:Nat) * 1) ((n:Int) - (i:Nat)) 1) where
 mem:=by simp
 obj := λi h st b B=>by
  have e:b=it:=by simpa using B
  subst e;exact⟨_,st,λv z=>by
   have z':Data.fields _=Data.cell v:=z
   cases z'⟩
 keep:=λi h h' st k=>k it (by simp) _ st
 item:=by
  intro X hP Z hK hc i pins s σ H E I L st hg;subst hP Z hK;obtain⟨f0,f1,f2,f3,Y,f5⟩:=L it (by simp)
  have W:=Walks.range (prog:=X.prog) (w:=X.w) (I.ok.hd hc) it lo 1 n;refine W.item i s _ _ hg st λv h' tk hv F kk=>?_
  obtain⟨t,rfl⟩:=hv;have I1:Inv X pins σ H { s with heap:=h',toks:=tk }:=I.turned (λb o B e=>kk b o (by simpa using B) e) f0 f1 f3 Y f5
  refine⟨_,rfl,sD (s:={ s with heap:=h',toks:=tk }) (n := "range_iterator") F rfl rfl ∅ ⟨.int (lo+i),H,I1,⟨t,?_⟩,⟨rfl,rfl⟩,F,λb B=>(L b B).1⟩⟩
  rw[Int.mul_one]
 done:=by
  intro X hP Z hK hc i pins s σ H E I L st hg;subst hP Z hK;obtain⟨f0,f1,f2,f3,Y,f5⟩:=L it (by simp)
  exact wpAny_pyNext_range_end (I.ok.hd hc) st (by have:n<=i:=hg;omega) λh' eb=>⟨rfl,I.turned (t':=s.toks) (λb o B e=>eb b o B e) f0 f1 f3 Y f5⟩
 self:=λ_ _ _ _ _ st h=>wpAny_pyIter_rangeiter st h
section
variable {X:Cx}
theorem AS {σ:St} {H:Hp} {R:It->Hp->Prop} {hi:Int} {t u v:Tok} (I:Inv X pins σ H s) (h1 : -(2 ^ 62)<=lo) (h2:lo < 2 ^ 62) (F : -(2 ^ 62)<=hi) (Y:hi < 2 ^ 62)
  (q:R (Itr lo (hi - lo).toNat) H):wpAny (model X.prog X.w) X.A (pyIter (.ref s.heap.objs.size)) (PIE X pins σ tg R) E { s with heap:=s.heap.push { cls:=.type "range",data:=.fields #[.int lo t,.int hi u,.int 1 v] },toks:=tk }:=by
 refine wpAny_pyIter_range (IsRange.new ..) (small_one h1 h2 F Y) ?_
 have B:Inv X pins σ H { s with heap:=s.heap.push { cls:=.type "range",data:=.fields #[.int lo t,.int hi u,.int 1 v] },toks:=tk }:=I.kept λb o e=>d_ _ e
 refine⟨(s.heap.push { cls:=.type "range",data:=.fields #[.int lo t,.int hi u,.int 1 v] }).objs.size,[(s.heap.push { cls:=.type "range",data:=.fields #[.int lo t,.int hi u,.int 1 v] }).objs.size],_,_,H,rfl,
  B.kept (t':=tk) λb o e=>d_ _ e,xi _ lo (hi - lo).toNat,?_,λb L=>?_,q⟩
 .have e1:lo+((0:Nat):Int) * 1=lo:=by simp
  have e2:(((hi - lo).toNat:Nat):Int) - ((0:Nat):Int)=Builtin.Range.rangeSize lo hi 1:=by rw[rangeSize_one];split <;> omega
  show IsRangeIter _ _ (lo+((0:Nat):Int) * 1) ((((hi - lo).toNat:Nat):Int) - ((0:Nat):Int)) 1
  rw[e1,e2];exact gr _ rfl
 .have e:b=(s.heap.push { cls:=.type "range",data:=.fields #[.int lo t,.int hi u,.int 1 v] }).objs.size:=by simpa using L
  subst e;exact B.fpOk (hH _) (B.hok.fresh (hH _))
def AV (ta:TA):TI:=λσ H R=>ta σ H λvs H1=>∃j:Int,vs=[.int j]/\-(2 ^ 62)<=j/\j < 2 ^ 62/\R (Itr 0 j.toNat) H1
theorem dE {a:Expr} {ta:TA} {p:Pos} (hg:Gl X "range") (hm:X.mg "range" = none) (ha:PA X [a] ta) (Z:j9 [a] X.env=[(false,eval a X.env)]:=by rfl):PI X tg (.Call (.Name "range" p) [a] [] pos) (AV ta):=by
 intro pins s σ H R I h;refine Call_ (gs I hg hm boot_range (n9 (thn (ha pos pins s σ H _ I h) λus s1 B=>?_) Z rfl))
 obtain⟨vs,H1,I1,Y,F⟩:=B;obtain⟨j,e,F,L,q⟩:=F;subst e;cases Y with
 | cons r rr =>
  cases rr;obtain⟨t,rfl⟩:=r;exact call_range_1 (AS I1 () () F L (by simpa using q))
def HK (wi:TI) (g:TG) (tb:TS):TS:=λD σ H=>wi σ H λJ H1=>∃W:Nat->Nat->St->Hp->Prop,(∃m,W 0 m σ H1)/\∀i m σ H,W i m σ H ->
 (J.stop i H/\D.nx σ H)\/(J.go i H/\∃N:St->Hp->Prop,(∀ σ' H',N σ' H'->∃F,F < m/\W (i+1) F σ' H')/\∀x H',J.yld i H x H'->g x σ H' λB H2=>tb { D with nx:=N,ct:=N,bk:=D.nx } B H2)
def qP (fp:List Addr) (h:Heap):List (Addr × Obj):=fp.filterMap λb=>(h.get? b).map λo=>(b,o)
theorem lf {o:Obj} (B:b∈fp) (e:h.get? b=some o):(b,o)∈qP fp h:=List.mem_filterMap.mpr ⟨b,B,by rw[e];rfl⟩
theorem zV {p:Addr × Obj} (hp:p∈qP fp h):p.1∈fp/\h.get? p.1=some p.2:=by
 obtain⟨b,F,e⟩:=List.mem_filterMap.mp hp;cases q:h.get? b with
 | none=>rw[q] at e;cases e
 | some o =>
  rw[q] at e;have B:(b,o)=p:=e8 e
  subst B;exact⟨F,q⟩
theorem Inv.pinned {σ:St} {H:Hp} (I:Inv X pins σ H s) (L : ∀b∈fp,pX X pins H b) (Y : ∀b∈fp,∃o,s.heap.get? b=some o/\∀v,o.data≠.cell v):Inv X (pins++qP fp s.heap) σ H s :=
 I.pins_of λp hp=>(ja.mp hp).elim (λz=>I.pin p (m7 _ z)) λz=>by
  obtain⟨B,e⟩:=zV z;obtain⟨f0,f1,Z,_⟩:=L p.1 B;obtain⟨o,F,d⟩:=Y p.1 B;rw[e] at F;cases F;exact⟨e,f0,f1,Z,d⟩
theorem Inv.unpinned {pl:List (Addr × Obj)} {σ:St} {H:Hp} (I:Inv X (pins++pl) σ H s):Inv X pins σ H s:=I.pins_of λp hp=>I.pin p (m7 _ (k4 _ hp))
theorem bp {wi:TI} {g:TG} {tb:TS} (hi:PI X tg iter wi) (hg:PG X tg g) (L:PSs X body tb) (hp:PassesOwn (model X.prog X.w) X.A X.env X.xe:=by exact PassesOwn.never) (hc:X.calm=true:=by exact rfl)
  (hs : ∀x,foldedSetIterable iter X.env x=pure x:=by intro _;rfl):PS X (.For tg iter body [] pos) (HK wi g tb):=by
 intro pins s σ H D I h;refine wpAny_For (thn (hi pins s σ H _ I h) λv s1 h1=>thn h1 λar s2 h2=>?_) hs
 obtain⟨it,fp,tn,J,H2,e,I2,T,ao,f2,W,⟨m0,w0⟩,aj⟩:=h2;subst e;have aa : ∀{H':Hp},(∀b∈fp,H' b=none)->∀b∈fp,pX X pins H' b:=λhn b L=>⟨hn b L,(f2 b L).2⟩
 refine codeAny_forLoop_any (λn s'=>∃i σ' H',Inv X pins σ' H' s'/\tn i s'.heap/\(∀b∈fp,H' b=none)/\W i n σ' H') ?_ m0 ⟨0,σ,H2,I2,ao,λb L=>(f2 b L).1,w0⟩
 rintro n s3 ⟨i,ab,H3,I3,ak,ai,w3⟩
 rcases aj i n ab H3 w3 with⟨am,qn⟩ | ⟨go,N,hN,step⟩
 .refine Jf hp (thn (T.done X rfl rfl rfl hc i pins s3 ab H3 X.xe I3 (aa ai) ak am) λr s4 ac=>?_)
  obtain⟨hr,I4⟩:=ac;subst hr;exact wpAny_execs_nil ⟨ab,H3,I4,qn⟩
 .refine Jf hp (thn (T.item X rfl rfl rfl hc i pins s3 ab H3 X.xe I3 (aa ai) ak go) λr s4 af=>?_)
  obtain⟨u,hr,h4⟩:=af;subst hr;refine Jf hp (thn h4 λ_ s5 ad=>?_)
  obtain⟨x,H5,I5,r5,y5,ah,an⟩:=ad;have ap:=I5.pinned (aa an) (T.obj _ _ ah);refine Jf hp (thn (hg _ s5 ab H5 x u _ ap r5 (step x H5 y5)) λ_ s6 ag=>?_)
  obtain⟨aq,H6,I6,q6⟩:=ag;refine Jf hp (thn (L _ s6 aq H6 _ I6 q6) λf s7 q7=>?_)
  have F : ∀{B:St} {Z:Hp},Inv X (pins++qP fp s5.heap) B Z s7->N B Z->∃m,m < n/\∃i σ' H',Inv X pins σ' H' s7/\tn i s7.heap/\(∀b∈fp,H' b=none)/\W i m σ' H':=λ{B Z} Y n7=>by
   obtain⟨m',hm,w7⟩:=hN B Z n7;refine⟨m',hm,i+1,B,Z,Y.unpinned,T.keep _ _ _ ah λb L o e=>(Y.pin (b,o) (m7 _ (m7 _ (lf L e)))).1,λb L=>?_,w7⟩
   obtain⟨o,e,d⟩:=T.obj _ _ ah b L;exact(Y.pin (b,o) (m7 _ (m7 _ (lf L e)))).2.1
  cases f with
  | next=>obtain⟨B,Z,Y,n7⟩:=q7;exact F Y n7
  | cont=>obtain⟨B,Z,Y,n7⟩:=q7;exact F Y n7
  | brk=>obtain⟨B,Z,Y,q7⟩:=q7;exact⟨B,Z,Y.unpinned,q7⟩
  | ret v=>obtain⟨x7,B,Z,Y,r7,q7⟩:=q7;exact⟨x7,B,Z,Y.unpinned,r7,q7⟩
end
abbrev R2:=V->V->Hp->VK->Prop
def OpR (X:Cx) (f:Value->Value->Sem Value) (r:R2):Prop :=
 ∀ (pins:List (Addr × Obj)) (s:Shared) (σ:St) (H:Hp) (x y:V) (v u:Value) (Q:VK),Inv X pins σ H s->bq x v->bq y u->r x y H Q ->
  wpAny (model X.prog X.w) X.A (f v u) (EP X pins σ Q) X.xe s
def UnR (X:Cx) (f:Value->Sem Value) (r:V->Hp->VK->Prop):Prop :=
 ∀ (pins:List (Addr × Obj)) (s:Shared) (σ:St) (H:Hp) (x:V) (v:Value) (Q:VK),Inv X pins σ H s->bq x v->r x H Q ->
  wpAny (model X.prog X.w) X.A (f v) (EP X pins σ Q) X.xe s
def bX (X:Cx) (f:Value) (r:List V->Hp->VK->Prop):Prop :=
 ∀ (pins:List (Addr × Obj)) (s:Shared) (σ:St) (H:Hp) (xs:List V) (us:List Value) (Q:VK),Inv X pins σ H s->bj xs us->r xs H Q ->
  wpAny (model X.prog X.w) X.A (call f us) (EP X pins σ Q) X.xe s
def tOp (r:R2) (ta tb:TE):TE:=λσ H Q=>ta σ H λx H1=>tb σ H1 λy H2=>r x y H2 Q
def tUn (r:V->Hp->VK->Prop) (ta:TE):TE:=λσ H Q=>ta σ H λx H1=>r x H1 Q
def rI (C:Int->Int->Prop) (g:Int->Int->V):R2:=λx y H Q=>∃i j,x = .int i/\y = .int j/\C i j/\Q (g i j) H
def rI0 (g:Int->Int->V):R2:=λx y H Q=>∃i j,x = .int i/\y = .int j/\Q (g i j) H
def rU (g:Int->V):V->Hp->VK->Prop:=λx H Q=>∃i,x = .int i/\Q (g i) H
section
variable {X:Cx} {a b c:Expr} {ta tb tc:TE}
theorem Gs (ha:PE X a ta) (hb:PE X b tb) {pins:List (Addr × Obj)} {s:Shared} {σ:St} {H:Hp} {R:V->V->Hp->Prop} (I:Inv X pins σ H s)
  (h:ta σ H λx H1=>tb σ H1 λy H2=>R x y H2) {Q:Value->Shared->Prop} {f:Value->Value->Sem Value}
  (Z : ∀v u Y x y H2,Inv X pins σ H2 Y->bq x v->bq y u->R x y H2->wpAny (model X.prog X.w) X.A (f v u) Q X.xe Y) :
  wpAny (model X.prog X.w) X.A (eval a X.env) (λv s₁=>wpAny (model X.prog X.w) X.A (eval b X.env) (λu L=>wpAny (model X.prog X.w) X.A (f v u) Q X.xe L) X.xe s₁) X.xe s:=by
 refine thn (ha pins s σ H _ I h) λv s1 B=>?_
 obtain⟨x,H1,I1,r1,q1⟩:=B;refine thn (hb pins s1 σ H1 _ I1 q1) λu Y F=>?_
 obtain⟨y,H2,I2,r2,q2⟩:=F;exact Z v u Y x y H2 I2 r1 r2 q2
theorem aR {op:Operator} {r:R2} (L:OpR X (G2 op) r) (ha:PE X a ta) (F:PE X b tb):PE X (.BinOp a op b pos) (tOp r ta tb):=by
 intro pins s σ H Q I h;exact wpAny_BinOp (Gs ha F I h λv u B x y H2 Z rx Y q=>L pins B σ H2 x y v u Q Z rx Y q)
theorem oY {op:UnaryOp} {r:V->Hp->VK->Prop} (Y:UnR X (unaryOp op) r) (ha:PE X a ta):PE X (.UnaryOp op a pos) (tUn r ta):=by
 intro pins s σ H Q I h;exact UnaryOp_ (thn (ha pins s σ H _ I h) λv s1 B=>by obtain⟨x,H1,Z,L,F⟩:=B;exact(Y pins s1 σ H1 x v Q Z L F))
theorem opI {f:Value->Value->Sem Value} {C:Int->Int->Prop} {g:Int->Int->Int}
  (B : ∀(i j:Int) (t u:Tok) (s:Shared) (Q:Value->Shared->Prop) (E:Value->Shared->Prop),C i j->Q (.int (g i j) s.toks) { s with toks:=s.toks+1 }->wpAny (model X.prog X.w) X.A (f (.int i t) (.int j u)) Q E s) :
  OpR X f (rI C λi j=>.int (g i j)):=by
 intro pins s σ H x y v u Q I Y L h;obtain⟨i,j,rfl,rfl,F,q⟩:=h;obtain⟨t,rfl⟩:=Y;obtain⟨t',rfl⟩:=L;exact B i j t t' s _ _ F ⟨.int (g i j),H,I.tok _,⟨_,rfl⟩,q⟩
theorem Hr {f:Value->Value->Sem Value} {g:Int->Int->Int}
  (B : ∀(i j:Int) (t u:Tok) (s:Shared) (Q:Value->Shared->Prop) (E:Value->Shared->Prop),Q (.int (g i j) s.toks) { s with toks:=s.toks+1 }->wpAny (model X.prog X.w) X.A (f (.int i t) (.int j u)) Q E s) :
  OpR X f (rI0 λi j=>.int (g i j)):=by
 intro pins s σ H x y v u Q I L F h;obtain⟨i,j,rfl,rfl,q⟩:=h;obtain⟨t,rfl⟩:=L;obtain⟨t',rfl⟩:=F;exact B i j t t' s _ _ ⟨.int (g i j),H,I.tok _,⟨_,rfl⟩,q⟩
theorem Dw {f:Value->Value->Sem Value} {g:Int->Int->Bool}
  (B : ∀(i j:Int) (t u:Tok) (s:Shared) (Q:Value->Shared->Prop) (E:Value->Shared->Prop),Q (.bool (g i j)) s->wpAny (model X.prog X.w) X.A (f (.int i t) (.int j u)) Q E s) :
  OpR X f (rI0 λi j=>.bl (g i j)):=by
 intro pins s σ H x y v u Q I L F h;obtain⟨i,j,rfl,rfl,q⟩:=h;obtain⟨t,rfl⟩:=L;obtain⟨t',rfl⟩:=F;exact B i j t t' s _ _ ⟨.bl (g i j),H,I,rfl,q⟩
def Ag (i j:Int):Prop:=(-(2 ^ 64) < i/\i < 2 ^ 64)\/(-(2 ^ 64) < j/\j < 2 ^ 64)
theorem Ag.ok {i j:Int} (h:Ag i j):IntMulOk i j:=by
 rcases h with⟨h1,h2⟩ | ⟨h1,h2⟩
 .exact .of_left (intBits_le_64 h1 h2)
 .exact .of_right (intBits_le_64 h1 h2)
theorem bu:OpR X (G2 .Add) (rI0 λi j=>.int (i+j)):=Hr λ_ _ _ _ _ _ _ q=>add_int q
theorem jJ:OpR X (G2 .Sub) (rI0 λi j=>.int (i - j)):=Hr λ_ _ _ _ _ _ _ q=>sub_int q
theorem ig:OpR X (G2 .Mult) (rI Ag λi j=>.int (i * j)):=opI λ_ _ _ _ _ _ _ B q=>mul_int q B.ok
theorem iJ:OpR X (G2 .Mod) (rI (λ_ j=>0 < j) λi j=>.int (i % j)):=opI λi j _ _ _ _ _ B q=>by
 have h1:(0:Int) < j:=B
 exact mod_int' () (by rw[Int.fmod_eq_emod_of_nonneg i ()];exact q)
theorem unI {f:Value->Sem Value} {g:Int->Int}
  (B : ∀(i:Int) (t:Tok) (s:Shared) (Q:Value->Shared->Prop) (E:Value->Shared->Prop),Q (.int (g i) s.toks) { s with toks:=s.toks+1 }->wpAny (model X.prog X.w) X.A (f (.int i t)) Q E s) :
  UnR X f (rU λi=>.int (g i)):=by
 intro pins s σ H x v Q I F h;obtain⟨i,rfl,q⟩:=h;obtain⟨t,rfl⟩:=F;exact B i t s _ _ ⟨.int (g i),H,I.tok _,⟨_,rfl⟩,q⟩
theorem jO:UnR X (unaryOp .USub) (rU λi=>.int (Neg.neg i)):=unI λ_ _ _ _ _ q=>neg_int q
end
def wg:V->V->Bool
 | .non,.non=>true | .non,.int _=>true | .int _,.non=>true | .non,.bl _=>true | .bl _,.non=>true | .non,.str _=>true | .str _,.non=>true
 | .int _,.int _=>true | .bl _,.bl _=>true | .str _,.str _=>true | .byt _,.byt _=>true
 | .int _,.str _=>true | .str _,.int _=>true | .bl _,.str _=>true | .str _,.bl _=>true
 | _,_=>false
def rEq:R2:=λx y H Q=>wg x y=true/\Q (.bl (decide (x=y))) H
def rNe:R2:=λx y H Q=>wg x y=true/\Q (.bl (!decide (x=y))) H
theorem yC {i j:Int}:decide (V.int i=V.int j)=(i == j):=by
 rw[ow];simp
theorem BV {i j:Bool}:decide (V.bl i=V.bl j)=(i == j):=by
 rw[ow];simp
theorem yT {i j:Str}:decide (V.str i=V.str j)=(i == j):=by
 rw[ow];simp
theorem yV {i j:Array UInt8}:decide (V.byt i=V.byt j)=(i.toList == j.toList):=by
 rw[ow];cases i;cases j;simp
section
variable {X:Cx} {a b c:Expr} {ta tb tc:TE}
theorem bJ {σ:St} {H:Hp} {Q:VK} {k B:Bool} (I:Inv X pins σ H s) (q:Q (.bl k) H) (e:k=B):EP X pins σ Q (.bool B) s:=by
 subst e;exact⟨.bl k,H,I,rfl,q⟩
theorem bM:OpR X (n6 .Eq) rEq:=by
 intro pins s σ H x y v u Q I L B h;obtain⟨F,q⟩:=h;cases x with
 | non =>
  cases L;cases y with
  | non=>cases B;exact PySem.EqNone.eq_none_none (bJ I q (by simp))
  | bl j=>cases B;exact PySem.EqNone.eq_none_bool (bJ I q (by simp))
  | int j=>obtain⟨t',rfl⟩:=B;exact PySem.EqNone.eq_none_int (bJ I q (by simp))
  | str j=>obtain⟨t',rfl⟩:=B;exact PySem.EqNone.eq_none_str (bJ I q (by simp))
  | _=>exact absurd (show false=true from F) jc
 | bl i =>
  cases L;cases y with
  | non=>cases B;exact PySem.EqNone.eq_bool_none (bJ I q (by simp))
  | bl j=>cases B;exact eq_bool (bJ I q BV)
  | str j=>obtain⟨t',rfl⟩:=B;exact PySem.EqMixed.eq_bool_str (bJ I q (by simp))
  | _=>exact absurd (show false=true from F) jc
 | int i =>
  obtain⟨t,rfl⟩:=L;cases y with
  | non=>cases B;exact PySem.EqNone.eq_int_none (bJ I q (by simp))
  | int j=>obtain⟨t',rfl⟩:=B;exact eq_int (bJ I q yC)
  | str j=>obtain⟨t',rfl⟩:=B;exact PySem.EqMixed.eq_int_str (bJ I q (by simp))
  | _=>exact absurd (show false=true from F) jc
 | str i =>
  obtain⟨t,rfl⟩:=L;cases y with
  | non=>cases B;exact PySem.EqNone.eq_str_none (bJ I q (by simp))
  | bl j=>cases B;exact PySem.EqMixed.eq_str_bool (bJ I q (by simp))
  | int j=>obtain⟨t',rfl⟩:=B;exact PySem.EqMixed.eq_str_int (bJ I q (by simp))
  | str j=>obtain⟨t',rfl⟩:=B;exact eq_str (bJ I q yT)
  | _=>exact absurd (show false=true from F) jc
 | byt i =>
  obtain⟨t,rfl⟩:=L;cases y with
  | byt j=>obtain⟨t',rfl⟩:=B;exact PySem.W.eq_bytes (bJ I q yV)
  | _=>exact absurd (show false=true from F) jc
 | _=>cases y <;> exact absurd (show false=true from F) jc
theorem zm:OpR X (n6 .NotEq) rNe:=by
 intro pins s σ H x y v u Q I L B h;obtain⟨F,q⟩:=h;cases x with
 | non =>
  cases L;cases y with
  | non=>cases B;exact PySem.EqNone.ne_none_none (bJ I q (by simp))
  | bl j=>cases B;exact PySem.EqNone.ne_none_bool (bJ I q (by simp))
  | int j=>obtain⟨t',rfl⟩:=B;exact PySem.EqNone.ne_none_int (bJ I q (by simp))
  | str j=>obtain⟨t',rfl⟩:=B;exact PySem.EqNone.ne_none_str (bJ I q (by simp))
  | _=>exact absurd (show false=true from F) jc
 | bl i =>
  cases L;cases y with
  | non=>cases B;exact PySem.EqNone.ne_bool_none (bJ I q (by simp))
  | bl j=>cases B;exact ne_bool (bJ I q (congrArg not BV))
  | str j=>obtain⟨t',rfl⟩:=B;exact PySem.EqMixed.ne_bool_str (bJ I q (by simp))
  | _=>exact absurd (show false=true from F) jc
 | int i =>
  obtain⟨t,rfl⟩:=L;cases y with
  | non=>cases B;exact PySem.EqNone.ne_int_none (bJ I q (by simp))
  | int j=>obtain⟨t',rfl⟩:=B;exact ne_int (bJ I q (congrArg not yC))
  | str j=>obtain⟨t',rfl⟩:=B;exact PySem.EqMixed.ne_int_str (bJ I q (by simp))
  | _=>exact absurd (show false=true from F) jc
 | str i =>
  obtain⟨t,rfl⟩:=L;cases y with
  | non=>cases B;exact PySem.EqNone.ne_str_none (bJ I q (by simp))
  | bl j=>cases B;exact PySem.EqMixed.ne_str_bool (bJ I q (by simp))
  | int j=>obtain⟨t',rfl⟩:=B;exact PySem.EqMixed.ne_str_int (bJ I q (by simp))
  | str j=>obtain⟨t',rfl⟩:=B;exact ne_str (bJ I q (congrArg not yT))
  | _=>exact absurd (show false=true from F) jc
 | byt i =>
  obtain⟨t,rfl⟩:=L;cases y with
  | byt j=>obtain⟨t',rfl⟩:=B;exact PySem.W.ne_bytes (bJ I q (congrArg not yV))
  | _=>exact absurd (show false=true from F) jc
 | _=>cases y <;> exact absurd (show false=true from F) jc
theorem By:OpR X (n6 .Lt) (rI0 λi j=>.bl (decide (i < j))):=Dw λ_ _ _ _ _ _ _ q=>lt_int q
theorem kL:OpR X (n6 .LtE) (rI0 λi j=>.bl (decide (i<=j))):=Dw λ_ _ _ _ _ _ _ q=>le_int q
theorem oB:OpR X (n6 .Gt) (rI0 λi j=>.bl (decide (j < i))):=Dw λ_ _ _ _ _ _ _ q=>gt_int q
theorem HP:OpR X (n6 .GtE) (rI0 λi j=>.bl (decide (j<=i))):=Dw λ_ _ _ _ _ _ _ q=>ge_int q
theorem nomark (b:Expr) {op:CmpOp} (h:op≠.In:=by decide) (h2:op≠.NotIn:=by decide):Jk op b=false:=by
 have e1:(op == CmpOp.In)=false:=by cases op <;> first | rfl | exact absurd rfl h
 have e2:(op == CmpOp.NotIn)=false:=by cases op <;> first | rfl | exact absurd rfl h2
 cases b <;> simp[Jk,e1,e2]
theorem bw {op:CmpOp} {r:R2} (L:OpR X (n6 op) r) (ha:PE X a ta) (F:PE X b tb) (Z:Jk op b=false:=by first | exact nomark _ | with_unfolding_all rfl):PE X (.Compare a [op] [b] pos) (tOp r ta tb):=by
 intro pins s σ H Q I h;exact wpAny_Compare1 (Gs ha F I h λv u B x y H2 I2 rx Y q=>L pins B σ H2 x y v u Q I2 rx Y q) Z
def rV (t:TE):TT:=λσ H Q=>t σ H λx H'=>∃k,x = .bl k/\Q k H'
theorem aG {op:CmpOp} {r:R2} (L:OpR X (n6 op) r) (ha:PE X a ta) (F:PE X b tb) (Y:Jk op b=false:=by first | exact nomark _ | with_unfolding_all rfl):PT X (.Compare a [op] [b] pos) (rV (tOp r ta tb)):=by
 intro pins s σ H Q I h;refine wpAny_isTrue_Compare1 (thn (ha pins s σ H _ I h) λv Z ⟨x,H1,I1,r1,q1⟩=>thn (F pins Z σ H1 _ I1 q1) λu B ⟨y,H2,I2,r2,q2⟩ =>
  thn (L pins B σ H2 x y v u _ I2 r1 r2 q2) λc s3 ⟨z,H3,I3,r3,k,e,q3⟩=>?_) Y
 subst e;cases r3;exact x6 ⟨H3,I3,q3⟩
def xm (r r':R2) (ta tb tc:TE):TE:=λσ H Q=>ta σ H λx H1=>tb σ H1 λy H2=>r x y H2 λz B=>∃k,z = .bl k /\
 (if k=true then tc σ B λF L=>r' y F L Q else Q (.bl false) B)
theorem AE {op B:CmpOp} {r r':R2} (ho:OpR X (n6 op) r) (L:OpR X (n6 B) r') (ha:PE X a ta) (hb:PE X b tb) (hc:PE X c tc)
  (hm:lastMarks [op,B] [b,c]=false:=by with_unfolding_all rfl):PE X (.Compare a [op,B] [b,c] pos) (xm r r' ta tb tc):=by
 intro pins s σ H Q I h;refine Compare_chain (thn (ha pins s σ H _ I h) λv s1 ⟨x,H1,I1,r1,q1⟩=>chain_link (thn (hb pins s1 σ H1 _ I1 q1) λu Y ⟨y,H2,I2,r2,q2⟩ =>
  thn (ho pins Y σ H2 x y v u _ I2 r1 r2 q2) λd s3 ⟨z,H3,I3,r3,k,e,q3⟩=>?_)) hm
 subst e;cases r3;refine x6 ?_
 cases k with
 | false=>exact ite_ff ⟨.bl false,H3,I3,rfl,q3⟩
 | true=>exact ite_tt (chain_last (thn (hc pins s3 σ H3 _ I3 q3) λw' s4 F=>by obtain⟨z',H4,Z,r4,q4⟩:=F;exact(L pins s4 σ H4 y z' u w' Q Z r2 r4 q4)))
theorem oq:(ge:Nat) < 2 ^ 63:=by rw[Ja];decide
theorem wQ:OpR X (G2 .Add) (λx y H Q=>∃i j,x = .str i/\y = .str j/\i.length+j.length<=ge/\Q (.str (i++j)) H):=by
 intro pins s σ H x y v u Q I L F h;obtain⟨i,j,rfl,rfl,B,q⟩:=h;obtain⟨t,rfl⟩:=L;obtain⟨t',rfl⟩:=F;exact add_str (λt' tk=>⟨.str (i++j),H,I.tok _,⟨_,rfl⟩,q⟩) B
theorem dv {x:V} (r:bj [x] us) : ∃u,us=[u]/\bq x u:=by
 cases r with
 | cons B F=>cases F;exact⟨_,rfl,B⟩
theorem pf {x y:V} (r:bj [x,y] us) : ∃u B,us=[u,B]/\bq x u/\bq y B:=by
 cases r with
 | cons F L =>
  cases L with
  | cons Z Y=>cases Y;exact⟨_,_,rfl,F,Z⟩
theorem sP (F:X.calm=true):bX X (.builtin "max") (λxs H Q=>∃i j,xs=[.int i,.int j]/\Q (.int (if j > i then j else i)) H):=by
 intro pins s σ H xs us Q I r h;obtain⟨i,j,rfl,q⟩:=h;obtain⟨u,L,rfl,⟨t,rfl⟩,⟨t',rfl⟩⟩:=pf r;refine max_two_ints (I.ok.hd F) λh' tk k=>⟨_,H,I.kept k,?_,q⟩
 by_cases B:j > i
 .rw[if_pos B,if_pos B];exact⟨_,rfl⟩
 .rw[if_neg B,if_neg B];exact⟨_,rfl⟩
theorem sf (F:X.calm=true):bX X (.builtin "min") (λxs H Q=>∃i j,xs=[.int i,.int j]/\Q (.int (if j < i then j else i)) H):=by
 intro pins s σ H xs us Q I r h;obtain⟨i,j,rfl,q⟩:=h;obtain⟨u,L,rfl,⟨t,rfl⟩,⟨t',rfl⟩⟩:=pf r;refine min_two_ints (I.ok.hd F) λh' tk k=>⟨_,H,I.kept k,?_,q⟩
 by_cases B:j < i
 .rw[if_pos B,if_pos B];exact⟨_,rfl⟩
 .rw[if_neg B,if_neg B];exact⟨_,rfl⟩
theorem Ah:bX X (.type "int") (λxs H Q=>(∃i,xs=[.int i]/\Q (.int i) H)\/∃k,xs=[.bl k]/\Q (.int (if k then 1 else 0)) H):=by
 intro pins s σ H xs us Q I r h;rcases h with⟨i,rfl,q⟩ | ⟨k,rfl,q⟩
 .obtain⟨u,rfl,t,rfl⟩:=dv r
  exact call_int_int ⟨.int i,H,I,⟨_,rfl⟩,q⟩
 .obtain⟨u,rfl,r1⟩:=dv r
  cases r1;exact call_int_bool ⟨.int (if k then 1 else 0),H,I.tok _,⟨_,rfl⟩,q⟩
end
structure xR (h:Heap) (x dx C:Addr) (mA:Str->Option Value):Prop where
 obj:h.get? x=some (instObj C dx)
 ns:h.Ns1 dx mA
 ne:dx≠x
theorem zG (n:h.Ns1 dx mA) : ∃od,h.get? dx=some od/\∀name,lookIn name od=some (mA name):=by
 obtain⟨o,es,ep,Z,F,Y,_,hm⟩:=n;refine⟨o,Z,λname=>?_⟩
 have e:=hm name;unfold nsFind findBy at e;rw[<- Array.find?_toList] at e;unfold lookIn;rw[F];dsimp only
 split
 .rename_i y q
  rw[q] at e;exact congrArg some e
 .rename_i q
  rw[q] at e;have a:es.toList.any (·.refKey)=false:=by
   rw[List.any_eq_false];intro y hy;obtain⟨z,t,B⟩:=Y y (Array.mem_toList_iff.mp hy);simp[DictEntry.refKey,B]
  have L : ¬ es.toList.any (·.refKey)=true:=by rw[a];exact jc
  rw[if_neg L];exact congrArg some e
theorem xR.look {x:Addr} (I:xR h x dx C mA) : ∃od,PySem.W.InstAt h x (instObj C dx) C (some od)/\∀name,lookIn name od=some (mA name) :=
 let ⟨od,ho,hl⟩:=zG I.ns
 ⟨od,⟨I.obj,rfl,rfl,ho⟩,hl⟩
section
variable {x:Addr} {v:Value}
theorem Es {B:Bool} (X:K.In s.heap) (I:xR s.heap x dx C mA) (L:plainGet K C name=true) (Z:hasDictIn K C=true)
  (ha:findIn K (.ref C) name=some none) (Y:mA name=some v) (F:handedIn v=true) (h:Q v { s with toks:=s.toks+1 }) :
  wpAny (model prog w) A (getAttr (.ref x) name B) Q E s:=by
 obtain⟨od,J,hl⟩:=I.look;exact PySem.W.get_value X J (plainGet_of L).1 (PySem.W.findObj_own Z ha rfl (by rw[hl,Y])) F h
theorem Ba {Q:Value × List Value->Shared->Prop} (X:K.In s.heap) (I:xR s.heap x dx C mA) (B:plainGet K C name=true)
  (F:findIn K (.ref C) name=some (-f)) (L:isFn K (.ref f)=true) (Y:mA name=none) (h:Q (.ref f,[.ref x]) s) :
  wpAny (model prog w) A (getMethod (.ref x) name pl) Q E s:=by
 obtain⟨od,J,hl⟩:=I.look;exact PySem.W.method_fn X J (plainGet_of B).1 (plainGet_of B).2 F (beq_iff_eq.mp L) (by show(lookIn name od).map (·.isSome)=some false;rw[hl,Y];rfl) h
theorem Ef {ns:List Str} {Q:Unit->Shared->Prop} (X:K.In s.heap) (I:xR s.heap x dx C mA)
  (hs:findIn K (.ref C) "__setattr__" = some (some (.builtin "object.__setattr__"))) (hp:plainOver K C=true) (ht:takerIn K C name=some none) (hh:hasDictIn K C=true)
  (hw:PySem.Within mA ns) (hsz:ns.length<=ge)
  (h : ∀h',xR h' x dx C (λy=>if y=name then some v else mA y)->J9 dx s.heap h'->Q Unit.unit { s with heap:=h',toks:=s.toks+2 }) :
  wpAny (model prog w) A (setAttr (.ref x) name v) Q E s:=by
 obtain⟨od,J,hl⟩:=I.look;refine PySem.W.set_plain X J hs (PySem.W.osa_open (s:={ s with toks:=s.toks+1 }) (r:=none) X J hp ht λb=>?_)
 obtain⟨cd,hc,Y⟩:=PySem.W.any_some hh;have hx:s.heap.get? x=some ⟨.ref C,some dx,.plain,#[]⟩:=I.obj
 refine a_ (e7 (a_ (a_ (wpAny_loadPart hx (a_ (PySem.W.Looks.here (s:={ s with toks:=s.toks+1 }) (PySem.W.looks_clsIn X hc) ?_))))))
 rw[Y];refine e7 (a:=some dx) (a_ (e7 (a_ ?_)))
 refine wpAny_nsSet1 (s:={ s with toks:=s.toks+1 }) I.ns λh' F B=>?_
 obtain⟨oD,ac,ab,L,aa,Z⟩:=F.count (PySem.Within.cons name v hw);refine a_ (wpAny_lookBehind L (by rw[aa];exact pastItsLine_dict (gt Z (by rw[u6];omega))) ?_)
 exact e7 (h _ ⟨(B.2 _ (tj I.ne)).trans I.obj,F,I.ne⟩ B)
theorem Bo {vs:List Value} (X:K.In s.heap) (L:makesIn K C=true)
  (hi:findIn K (.ref C) "__init__" = some (-f)) (F:PySem.W.typeIn K (.ref f)=some (.type "function"))
  (h:JA (model prog w) (A.under (.builtin "type.__call__" ⟨.ref C :: vs,kw⟩)) (.call (.ref f) ⟨.ref (s.heap.objs.size+1) :: vs,kw⟩) (PySem.W.InitBack (s.heap.objs.size+1) R)
   { s with heap:=(s.heap.push JQ).push (instObj C s.heap.objs.size) }) :
  JA (model prog w) A (.call (.ref C) ⟨vs,kw⟩) R s:=by
 obtain⟨Z,g,d,t,Y⟩:=s;exact PySem.W.make_core (PySem.W.makes_of X L) (PySem.W.looks_findIn X hi) (λB=>PySem.W.bind_fn X B F) (.inl rfl) h
end
def cz (f:Str) (v:V):List (Str × V)->List (Str × V)
 | []=>[(f,v)]
 | (g,x) :: r=>if g=f then(g,v) :: r else(g,x) :: cz f v r
theorem bz (f g:Str) (v:V) : ∀fs:List (Str × V),(cz f v fs).lookup g=if g=f then some v else fs.lookup g
 | []=>by
  show Kr g [(f,v)]=_
  by_cases h:g=f
  .have hb:(g == f)=true:=beq_iff_eq.mpr h
   simp only[Kr,hb,if_pos h]
  .have hb:(g == f)=false:=beq_eq_false_iff_ne.mpr h
   simp only[Kr,hb,if_neg h]
 | (k, x) :: r=>by
  have F:=bz f g v r;rw[show cz f v ((k,x) :: r)=(if k=f then(k,v) :: r else(k,x) :: cz f v r) from rfl]
  by_cases B:k=f
  .rw[if_pos B]
   by_cases h:g=k
   .have hb:(g == k)=true:=beq_iff_eq.mpr h
    simp only[Kr,hb,if_pos (h.trans B)]
   .have hb:(g == k)=false:=beq_eq_false_iff_ne.mpr h
    simp only[Kr,hb,if_neg (λe:g=f=>h (e.trans B.symm))]
  .rw[if_neg B]
   by_cases h:g=k
   .have hb:(g == k)=true:=beq_iff_eq.mpr h
    simp only[Kr,hb,if_neg (λe:g=f=>B (h.symm.trans e))]
   .have hb:(g == k)=false:=beq_eq_false_iff_ne.mpr h
    simp only[Kr,hb];exact F
theorem nU (f:Str) (v:V) : ∀fs:List (Str × V),f∈(cz f v fs).map (·.1)/\∀g,g∈fs.map (·.1)->g∈(cz f v fs).map (·.1)
 | []=>⟨by simp[cz],λg h=>by simp at h⟩
 | (k, x) :: r=>by
  obtain⟨F,L⟩:=nU f v r;rw[show cz f v ((k,x) :: r)=(if k=f then(k,v) :: r else(k,x) :: cz f v r) from rfl]
  by_cases B:k=f
  .rw[if_pos B]
   subst B;exact⟨by simp,λg h=>by simpa using h⟩
  .rw[if_neg B]
   refine⟨?_,λg h=>?_⟩
   .rw[i9]
    exact j7 _ F
   .rw[i9] at h ⊢
    rcases i6.mp h with e | e
    .exact i6.mpr (.inl e)
    .exact j7 _ (L g e)
theorem oI (f:Str) (v:V) : ∀fs:List (Str × V),(cz f v fs).length<=fs.length+1
 | []=>by simp[cz]
 | (k,x) :: r=>by
  have F:=oI f v r;rw[show cz f v ((k,x) :: r)=(if k=f then(k,v) :: r else(k,x) :: cz f v r) from rfl]
  by_cases B:k=f
  .rw[if_pos B,u6,u6];omega
  .rw[if_neg B,u6,u6];omega
theorem jk.some_of {v:V} {o:Option Value} (r:jk (some v) o) : ∃u,o=some u/\bq v u:=by
 cases o with
 | none=>exact(show False from r).elim
 | some u=>exact⟨u,rfl,r⟩
theorem jk.none_of {o:Option Value} (r:jk none o):o=none:=by
 cases o with
 | none=>rfl
 | some u=>exact(show False from r).elim
theorem zu {v:V} (r:bq v u):handedIn u=true:=by
 cases v with
 | non=>cases (show u=n_ from r);rfl
 | bl b=>cases (show u=JR b from r);rfl
 | int i=>obtain⟨t,e⟩:=(show ∃t,u=Value.int i t from r);cases e;rfl
 | str x=>obtain⟨t,e⟩:=(show ∃t,u=Value.str x t from r);cases e;rfl
 | byt b=>obtain⟨t,e⟩:=(show ∃t,u=Value.bytes b t from r);cases e;rfl
 | flt b=>obtain⟨t,e⟩:=(show ∃t,u=Value.float b t from r);cases e;rfl
 | ref a=>cases (show u=g9 a from r);rfl
 | ty n=>cases (show u=I_ n from r);rfl
section
variable {H H':Hp} {fs fs':List (Str × V)}
theorem pP (B:HOk P w H h) (e:H a=some (.ins C dx fs)) : ∃mA,xR h a dx C mA/\(∀f,jk (fs.lookup f) (mA f))/\PySem.Within mA (fs.map (·.1))/\fs.length<=1000/\H dx=some (.own a):=by
 obtain⟨d,z,ne,ob,mA,n,r,q⟩:=(show bA P w H h a (.ins C dx fs) from B a _ e)
 exact⟨mA,⟨ob,n,ne⟩,r,q,z,d⟩
end
structure Cls (K:fx) (C:Addr):Prop where
 pg:plainGet K C Str.empty=true
 hd:hasDictIn K C=true
 po:plainOver K C=true
 sa:findIn K (.ref C) "__setattr__" = some (some (.builtin "object.__setattr__"))
theorem Cls.get (c:Cls K C) (f:Str):plainGet K C f=true:=c.pg
def aP (K:fx) (C:Addr) (f:Str):Prop:=findIn K (.ref C) f=some none
theorem aP.taker {f:Str} (n:aP K C f):takerIn K C f=some none:=by
 unfold takerIn;rw[show findIn K (.ref C) f=some none from n]
 rfl
structure aO (K:fx) (C:Addr) (m:Str) (f:Addr):Prop where
 at_:findIn K (.ref C) m=some (-f)
 fn:isFn K (.ref f)=true
 kp:J6 K (.ref f)=true
section
variable {X:Cx} {σ:St} {H:Hp} {fs:List (Str × V)} {f:Str} {v:V}
theorem pU {b:Bool} (I:Inv X pins σ H s) (e:H a=some (.ins C dx fs)) (c:Cls X.K C) (n:aP X.K C f) (l:fs.lookup f=some v)
  (h : ∀u s',Inv X pins σ H s'->bq v u->Q u s'):wpAny (model X.prog X.w) A (getAttr (.ref a) f b) Q E s:=by
 obtain⟨mA,O,r,_,_,_⟩:=pP I.hok e;obtain⟨u,hu,B⟩:=jk.some_of (v:=v) (o:=mA f) (by rw[<- l];exact r f)
 exact Es I.kIn O (c.get f) c.hd n hu (zu B) (h u _ (I.tok _) B)
theorem qd {m:Str} {g:Addr} {Q:Value × List Value->Shared->Prop} (I:Inv X pins σ H s) (e:H a=some (.ins C dx fs)) (c:Cls X.K C) (k:aO X.K C m g) (l:fs.lookup m=none)
  (h:Q (.ref g,[.ref a]) s):wpAny (model X.prog X.w) A (getMethod (.ref a) m pl) Q E s:=by
 obtain⟨mA,O,r,_,_,_⟩:=pP I.hok e;have hn:mA m=none:=jk.none_of (by rw[<- l];exact r m)
 exact Ba I.kIn O (c.get m) k.at_ k.fn hn h
theorem xt {y:V} {Q:Unit->Shared->Prop} (I:Inv X pins σ H s) (e:H a=some (.ins C dx fs)) (c:Cls X.K C) (n:aP X.K C f) (hl:fs.length < 1000) (ry:bq y u)
  (h : ∀s',Inv X pins σ (upd H a (.ins C dx (cz f y fs))) s'->Q Unit.unit s'):wpAny (model X.prog X.w) A (setAttr (.ref a) f u) Q E s:=by
 obtain⟨mA,O,r,wi,_,F⟩:=pP I.hok e;have L:(fs.map (·.1)).length<=ge:=by rw[c_,Ja];omega
 refine Ef I.kIn O c.sa c.po n.taker c.hd wi L λh' B sb=>h _ ?_
 have hd : ∃o,h'.get? dx=some o:=let ⟨o,_,_,e',_⟩:=B.ns;⟨o,e'⟩
 refine I.write (x:=a) (e:=dx) (by rw[e];exact o6) (.inr F) (λb q Y z=>(sb.2 b Y).trans z) hd ?_
 refine⟨by rw[ah O.ne];exact F,?_,O.ne,B.obj,_,B.ns,λg=>?_,λg Z=>?_⟩
 .have:=oI f y fs;omega
 .show jk ((cz f y fs).lookup g) (if g=f then some u else mA g)
  rw[bz]
  by_cases q:g=f
  .rw[if_pos q,if_pos q];exact ry
  .rw[if_neg q,if_neg q];exact r g
 .by_cases q:g=f
  .rw[q];exact(nU f y fs).1
  .refine(nU f y fs).2 g (wi g λz=>Z ?_)
   show(if g=f then some u else mA g)=none
   rw[if_neg q];exact z
theorem Inv.made (I:Inv X pins σ H s):Inv X pins σ (upd (upd H s.heap.objs.size (.own (s.heap.objs.size+1))) (s.heap.objs.size+1) (.ins C s.heap.objs.size []))
  { s with heap:=(s.heap.push JQ).push (instObj C s.heap.objs.size) }:=by
 have e1:(s.heap.push JQ).get? s.heap.objs.size=some JQ:=gr s.heap rfl
 have e2:((s.heap.push JQ).push (instObj C s.heap.objs.size)).get? (s.heap.objs.size+1)=some (instObj C s.heap.objs.size):=by
  have:=gr (s.heap.push JQ) (o:=instObj C s.heap.objs.size) rfl
  rwa [m_] at this
 have L:(s.heap.push JQ).Ns s.heap.objs.size (λ_=>none):=⟨JQ,#[],_,e1,rfl,(λe Y=>absurd Y (by simp)),λ_=>rfl⟩
 have F:=I.laid (a:=s.heap.objs.size) (o:=.own (s.heap.objs.size+1)) (h':=s.heap.push JQ) (t':=s.toks) (λb u q=>d_ _ q) (hH _) ⟨_,e1⟩
 refine F.laid (a:=s.heap.objs.size+1) (o:=.ins C s.heap.objs.size []) (t':=s.toks) (λb u q=>d_ _ q) (Ji (m_ _ _)) ?_
 have ne:s.heap.objs.size≠s.heap.objs.size+1:=j_ (Jd _)
 refine⟨by rw[ah ne,ae],x5 _,ne,e2,λ_=>none,(Heap.Ns1.of_empty L).at λo q=>d_ _ q,λ_=>o6,λy B=>absurd rfl B⟩
theorem yB {f:Str} (B:JN e f env (eval e env)=eval e env)
  (h:wpAny (model prog w) A (eval e env) (λo s₁=>wpAny (model prog w) A (getAttr o f true) Q E s₁) E s):wpAny (model prog w) A (eval (.Attribute e f pos) env) Q E s :=
 Attribute_any_ h (by rw[arm_eval_Attribute,B])
end
section
variable {X:Cx} {σ:St} {H:Hp} {c:Value} {b:Bool}
inductive nY (K:fx) (H:Hp):V->Value->Prop where
 | non:nY K H .non (.type "NoneType")
 | bl (x:Bool):nY K H (.bl x) (.type "bool")
 | int (i:Int):nY K H (.int i) (.type "int")
 | str (x:Str):nY K H (.str x) (.type "str")
 | flt (x:UInt64):nY K H (.flt x) (.type "float")
 | lst {a:Addr} {xs:List V} (e:H a*>xs):nY K H (.ref a) (.type "list")
 | frz {a:Addr} {o:Obj} {xs:List V} (e:H a=some (.frz o (.lst xs))):nY K H (.ref a) (.type "list")
 | tup {a:Addr} {xs:List V} (e:H a>>xs):nY K H (.ref a) (.type "tuple")
 | dK {a:Addr} {kvs:List (Key × V)} (e:H a<*kvs):nY K H (.ref a) (.type "dict")
 | dT {a:Addr} {kvs:List (List Key × V)} (e:H a=some (.dT kvs)):nY K H (.ref a) (.type "dict")
 | ins {a C dx:Addr} {fs:List (Str × V)} (e:H a=some (.ins C dx fs)) (cl:Cls K C) (ha:findIn K (.ref C) "__class__" = some (some (.builtin "object.__class__")))
   (hn:specialIn K (.builtin "object.__class__") "__get__" = some (some (.builtin "getset_descriptor.__get__"))) (htk:PySem.W.takesIn K (.builtin "object.__class__")=some true)
   (hm:PySem.W.mroIn K C (.type "object")=some true):nY K H (.ref a) (.ref C)
theorem zO {x:V} {t:Value} (I:Inv X pins σ H s) (B:bq x u) (ty:nY X.K H x t) (e:kitOne X.K t c=some b) (h : ∀tk,Q (.bool b) { s with toks:=tk }) :
  wpAny (model X.prog X.w) A (call (.builtin "isinstance") [u,c]) Q E s:=by
 cases ty with
 | non=>cases (show u=n_ from B);exact J7 PySem.W.kitx_none I.kIn o6 e (λz=>nomatch z) h
 | bl y=>cases (show u=JR y from B);exact J7 PySem.W.kitx_bool I.kIn o6 e (λz=>nomatch z) h
 | int i=>obtain⟨t,q⟩:=(show ∃t,u=Value.int i t from B);cases q;exact J7 PySem.W.kitx_int I.kIn o6 e (λz=>nomatch z) h
 | str y=>obtain⟨t,q⟩:=(show ∃t,u=Value.str y t from B);cases q;exact J7 PySem.W.kitx_str I.kIn o6 e (λz=>nomatch z) h
 | flt y=>obtain⟨t,q⟩:=(show ∃t,u=Value.float y t from B);cases q;exact J7 PySem.W.kitx_float I.kIn o6 e (λz=>nomatch z) h
 | @lst a xs ea =>
  cases (show u=g9 a from B)
  obtain⟨_,_,n,_,h1⟩:=(show bA X.prog X.w H s.heap a (.lst xs) from I.hok a _ ea)
  exact J7 kitx_list I.kIn ⟨_,h1,rfl⟩ e (λz=>nomatch z) h
 | @frz a ob xs ea =>
  cases (show u=g9 a from B)
  obtain⟨_,_,_,n,_,h1⟩:=(show bA X.prog X.w H s.heap a (.frz ob (.lst xs)) from I.hok a _ ea)
  exact J7 kitx_list I.kIn ⟨_,h1,rfl⟩ e (λz=>nomatch z) h
 | @tup a xs ea =>
  cases (show u=g9 a from B)
  obtain⟨_,_,_,p⟩:=(show bA X.prog X.w H s.heap a (.tup xs) from I.hok a _ ea)
  obtain⟨o,h1,h2,_⟩:=p;exact J7 PySem.W.kitx_tuple I.kIn ⟨o,h1,h2⟩ e (λz=>nomatch z) h
 | @dK a kvs ea =>
  cases (show u=g9 a from B)
  obtain⟨_,_,vs,_,p⟩:=(show bA X.prog X.w H s.heap a (.dK kvs) from I.hok a _ ea)
  obtain⟨o,es,F,h1,h2,_⟩:=p;exact J7 kitx_dict I.kIn ⟨o,h1,h2.1⟩ e (λz=>nomatch z) h
 | @dT a kvs ea =>
  cases (show u=g9 a from B)
  obtain⟨_,_,xs,_,o,es,F,h1,h2,_⟩:=(show bA X.prog X.w H s.heap a (.dT kvs) from I.hok a _ ea)
  exact J7 kitx_dict I.kIn ⟨o,h1,h2.1⟩ e (λz=>nomatch z) h
 | @ins a C dx fs ea cl ha hn htk hm =>
  cases (show u=g9 a from B)
  obtain⟨mA,O,_⟩:=pP I.hok ea;obtain⟨od,J,_⟩:=O.look;exact J7 (PySem.W.kitx_own (cl.get _) cl.hd ha hn htk hm) I.kIn J e (λz=>nomatch z) h
end
structure di (k:Nat) (A:Around):Prop where
 hd:A.handled=none
 dp:A.depth+3 * k+5 < recursionLimit
 un:A.units+16 * k+200 < cLine
theorem di.mono (r:di k A) (h:j<=k):di j A:=⟨r.hd,by have:=r.dp;omega,by have:=r.un;omega⟩
theorem di.deeper {k:Nat} {A:Around} (r:di (k+1) A) (env:Env):di k (A.deeper env) :=
 ⟨r.hd,by have:=r.dp;show A.depth+1+3 * k+5 < _;omega,by have:=r.un;show A.units+3+16 * k+200 < _;omega⟩
theorem xX:(A.under (.builtin "type.__call__" ⟨.ref C :: us,kw⟩)).depth=A.depth+1:=by
 first | rfl | simp[Around.under,Code.weight,Code.isCreation,Code.isGuard,Code.isCaller,Code.frames,Code.isFrame,guardIds]
theorem xM:(A.under (.builtin "type.__call__" ⟨.ref C :: us,kw⟩)).units=A.units+1:=by
 first | rfl | simp[Around.under,Code.cUnits,Code.frames,Code.isFrame]
theorem di.make (r:di (k+1) A) (C:Addr) (us:List Value) (kw:List (Str × Value)):di k (A.under (.builtin "type.__call__" ⟨.ref C :: us,kw⟩)) :=
 ⟨r.hd,by have:=r.dp;rw[xX];omega,by have:=r.un;rw[xM];omega⟩
theorem di.depth {k:Nat} {A:Around} (r:di k A):A.depth < recursionLimit:=by have:=r.dp;omega
theorem di.units {k:Nat} {A:Around} (r:di k A):A.units+64 < cLine:=by have:=r.un;omega
def yl:TA:=λ_ H Q=>Q [] H
def kM (ta:TE) (B:TA):TA:=λσ H Q=>ta σ H λx H1=>B σ H1 λxs H2=>Q (x :: xs) H2
section
variable {X:Cx} {te:TE} {t:TA}
theorem ag:PA X [] yl:=λ_ _ _ _ H Q I h=>J1 ⟨[],H,I,.nil,h⟩
theorem ac (ha:PE X e te) (hr:PA X es t) (hs:j9 (e :: es) X.env=(false,eval e X.env) :: j9 es X.env:=by rfl):PA X (e :: es) (kM te t):=by
 intro pos pins s σ H Q I h;rw[hs]
 show wpAny _ _ (spliced ((false,eval e X.env) :: A_ pos (j9 es X.env))) _ _ s
 refine JS (thn (ha pins s σ H _ I h) λu s1 B=>?_)
 obtain⟨x,H1,I1,Z,Y⟩:=B;exact thn (hr pos pins s1 σ H1 _ I1 Y) λus s2 F=>by obtain⟨xs,H2,I2,r2,L⟩:=F;exact(⟨x :: xs,H2,I2,.cons Z r2,L⟩)
def DE (t:TA):TE:=λσ H Q=>t σ H λxs H1=>xs.length<=ge/\∀p,H1 p=none->Q (.ref p) (upd H1 p (.tup xs))
def DR (t:TA):TE:=λσ H Q=>t σ H λxs H1=>xs.length<=ge/\∀p,H1 p=none->Q (.ref p) (upd H1 p (.lst xs))
theorem bT {x1} (h:PA X es t):PE X (.Tuple es x1 pos) (DE t):=by
 intro pins s σ H Q I L;refine wpAny_Tuple_spliced (thn (h pos pins s σ H _ I L) λus B ⟨xs,H1,I1,r,z,q⟩=>⟨by rw[<- r.length];exact z,?_⟩)
 have F:H1 B.heap.objs.size=none:=I1.hok.fresh (hH _)
 refine⟨.ref B.heap.objs.size,upd H1 B.heap.objs.size (.tup xs),I1.laid (t':=B.toks) (λb u e=>d_ _ e) (hH _) ?_,rfl,q _ F⟩
 exact⟨z,us,r,⟨_,gr _ rfl,rfl,_,rfl⟩⟩
theorem bG (h:PA X es t):PE X (.List es pos) (DR t):=by
 intro pins s σ H Q I L;refine wpAny_List_spliced (thn (h pos pins s σ H _ I L) λus B ⟨xs,H1,I1,r,z,q⟩=>⟨by rw[<- r.length];exact z,?_⟩)
 have F:H1 B.heap.objs.size=none:=I1.hok.fresh (hH _)
 refine⟨.ref B.heap.objs.size,upd H1 B.heap.objs.size (.lst xs),I1.laid (t':=B.toks) (λb u e=>d_ _ e) (hH _) ?_,rfl,q _ F⟩
 exact⟨z,us,0,r,gr _ rfl⟩
end
abbrev Sp:=List V->Hp->VK->XK->Prop
abbrev CXT:=List Env->Hp->Shared->XK->Value->Shared->Prop
structure xD (P:Program) (w:World) (K:fx) (mg:Str->Option Value) (base:Heap) (A:Around) (outer:List Env) (s:Shared) (H:Hp):Prop where
 frames:A.frames=some outer
 mod:Mod K mg base
 bs : ∀b o,base.get? b=some o->s.heap.get? b=some o/\H b=none
 bsz:base.objs.size<=s.heap.objs.size
 funs:s.heap.FunFrames base outer
 frf : ∀b∈frs outer,H b=none
 hok:HOk P w H s.heap
 bare:AllBare s.gens
def CE (outer:List Env) (P:Program) (w:World) (H:Hp) (s:Shared) (Q:VK) (u:Value) (s':Shared):Prop :=
 ∃v H',s'.os=s.os/\AllBare s'.gens/\Un (frs outer) [] H H' s.heap s'.heap/\HOk P w H' s'.heap/\bq v u/\Q v H'
def CR (CX:CXT) (outer:List Env) (P:Program) (w:World) (H:Hp) (s:Shared) (Q:VK) (E:XK) (r:Result) (s':Shared):Prop :=
 match r with
 | .ok (.ret u)=>CE outer P w H s Q u s'
 | .ok _=>False
 | .error e=>CX outer H s E e s'
structure ll (P:Program) (w:World) (K:fx) (mg:Str->Option Value) (base:Heap) (CX:CXT) (k:Nat) (f:Addr) (fd:FuncData) (ps:List Str) (sp:Sp):Prop where
 len : ∀vs H Q E,sp vs H Q E->vs.length=ps.length
 run : ∀(A:Around) (outer:List Env) (s:Shared) (H:Hp) (args:Args) (us:List Value) (vs:List V) (Q:VK) (E:XK),di k A->xD P w K mg base A outer s H->BindsTo s fd args (ps.zip us)->bj vs us->sp vs H Q E ->
  JA (model P w) A (.call (.ref f) args) (CR CX outer P w H s Q E) s
theorem ll.mono {P:Program} {w:World} {K:fx} {mg:Str->Option Value} {base:Heap} {CX:CXT} {j k:Nat} {f:Addr} {fd:FuncData} {ps:List Str} {sp:Sp} (F:ll P w K mg base CX j f fd ps sp) (h:j<=k) :
  ll P w K mg base CX k f fd ps sp:=⟨F.len,λA outer s H args us vs Q E B=>F.run A outer s H args us vs Q E (B.mono h)⟩
theorem xD.make {H:Hp} (e:xD P w K mg base A outer s H) (C:Addr) (us:List Value) (kw:List (Str × Value)) :
  xD P w K mg base (A.under (.builtin "type.__call__" ⟨.ref C :: us,kw⟩)) outer s H:=⟨by first | exact e.frames | (simpa [Around.under,Code.envs,Code.isFrame,pushEnvs] using e.frames),e.mod,e.bs,e.bsz,e.funs,e.frf,e.hok,e.bare⟩
section
variable {X:Cx} {σ:St} {H:Hp}
theorem Inv.env0 (I:Inv X pins σ H s):xD X.prog X.w X.K X.mg X.base X.A X.stack s H :=
 ⟨I.ok.frames,I.ok.mod,I.bs,gt I.ok.bsz I.sz,I.stack,I.stkFree,I.hok,I.bare⟩
theorem Inv.after {Q:VK} (I:Inv X pins σ H s) (h:CE X.stack X.prog X.w H s Q u s'):EP X pins σ Q u s':=by
 obtain⟨v,H',os,B,un,L,r,q⟩:=h;obtain⟨Y,g,d,t,F⟩:=s';obtain rfl:F=s.os:=os
 exact⟨v,H',I.call (h':=Y) (g':=g) (d':=d) (t':=t) (ch:=[]) un L B (λb z=>absurd z (by simp)),r,q⟩
end
def rT (sp:Sp) (dvs:List V) (E:XK) (t:TA):TE:=λσ H Q=>t σ H λvs H1=>sp (vs++dvs) H1 Q E
def kK (K:fx) (fd:FuncData) (ps:List Str) (ds:List Value):Prop :=
 ∀(s:Shared) (us:List Value),K.In s.heap->(us++ds).length=ps.length->BindsTo s fd ⟨us,[]⟩ (ps.zip (us++ds))
theorem kK.all (h : ∀us:List Value,us.length=ps.length->bindArgs fd ⟨us,[]⟩=pure (ps.zip us)):kK K fd ps []:=λs us _ hl=>by
 rw[Ju] at hl ⊢;exact .of_eq (h us hl)
def ux (CX:CXT) (X:Cx) (E:XK):Prop:=∀(pins:List (Addr × Obj)) (σ:St) (H:Hp) (s:Shared) (e:Value) (s':Shared),Inv X pins σ H s->CX X.stack H s E e s'->X.xe e s'
section
variable {X:Cx} {CX:CXT} {sp:Sp} {dvs:List V} {E:XK} {m:Str} {p:Pos} {o:Expr} {ta:TE} {t:TA}
theorem ox {σ:St} {H:Hp} {Q:VK} {vs:List V} (F:ll X.prog X.w X.K X.mg X.base CX k f fd ps sp) (hr:di k X.A) (Z:kK X.K fd ps ds) (Y:bj dvs ds) (hx:ux CX X E)
  (I:Inv X pins σ H s) (r:bj vs us) (h:sp (vs++dvs) H Q E):wpAny (model X.prog X.w) X.A (call (.ref f) us) (EP X pins σ Q) X.xe s:=by
 have L:bj (vs++dvs) (us++ds):=r.append Y
 have hl:(us++ds).length=ps.length:=by rw[<- L.length];exact F.len _ _ _ _ h
 refine wpAny_call (codeAny_mono (F.run X.A X.stack s H ⟨us,[]⟩ (us++ds) (vs++dvs) Q E hr I.env0 (Z s us I.kIn hl) L h) λr s' B=>?_)
 cases r with
 | error e=>exact hx pins σ H s e s' I B
 | ok fl =>
  cases fl with
  | ret u=>exact I.after B
  | next=>exact D_ B
  | brk=>exact D_ B
  | cont=>exact D_ B
theorem Df (F:ll X.prog X.w X.K X.mg X.base CX k f fd ps sp) (hr:di k X.A) (hg:Gl X x) (hm:X.mg x=-f) (hk:J6 X.K (.ref f)=true) (Z:kK X.K fd ps ds) (Y:bj dvs ds) (hx:ux CX X E)
  (ha:PA X (e :: es) t) (L:(x ==("__debug__" : Str))=false:=by decide) (he:j9 (e :: es) X.env=(false,eval e X.env) :: j9 es X.env:=by rfl) (B:(A_ pos (j9 es X.env)).any (·.1)=false:=by rfl) :
  PE X (.Call (.Name x p) (e :: es) [] pos) (rT sp dvs E t):=by
 intro pins s σ H Q I h;refine x3 (pJ I hg hm ?_ L)
 refine callWith_K (h₀:=X.base) I.ok.mod.kin hk (thn (ha pos pins s σ H _ I h) λus s1 ⟨vs,H1,I1,r,q⟩=>⟨I1.kIn,?_⟩) he B
 exact ox F hr Z Y hx I1 r q
structure Mk (K:fx) (C f:Addr):Prop where
 makes:makesIn K C=true
 init:findIn K (.ref C) "__init__" = some (-f)
 fn:isFn K (.ref f)=true
 kp:J6 K (.ref C)=true
theorem A4 {σ:St} {H:Hp} {Q:VK} {vs:List V} (M:Mk X.K C f) (F:ll X.prog X.w X.K X.mg X.base CX k f fd ps sp) (hr:di (k+1) X.A) (hb:kK X.K fd ps ds) (hd:bj dvs ds)
  (hx:ux CX X E) (I:Inv X pins σ H s) (r:bj vs us)
  (h : ∀x dx,H x=none->H dx=none->dx≠x->sp (.ref x ::(vs++dvs)) (upd (upd H dx (.own x)) x (.ins C dx [])) (λv H2=>v = .non/\Q (.ref x) H2) E) :
  wpAny (model X.prog X.w) X.A (call (.ref C) us) (EP X pins σ Q) X.xe s:=by
 have Y:=h (s.heap.objs.size+1) s.heap.objs.size (I.hok.fresh (le_succ _)) (I.hok.fresh (hH _)) (j_ (Jd _));have L:=Inv.made (C:=C) I;have Z:bj (V.ref (s.heap.objs.size+1) ::(vs++dvs)) (g9 (s.heap.objs.size+1) ::(us++ds)):=.cons rfl (r.append hd)
 have hl:(g9 (s.heap.objs.size+1) :: us++ds).length=ps.length:=by
  have e:=Z.length;rw[F.len _ _ _ _ Y] at e;exact e.symm
 refine wpAny_call (Bo (f:=f) I.kIn M.makes M.init (beq_iff_eq.mp M.fn) (codeAny_mono (F.run _ X.stack _ _ ⟨g9 (s.heap.objs.size+1) :: us,[]⟩ (g9 (s.heap.objs.size+1) ::(us++ds)) _ _ E (hr.make C us [])
  (L.env0.make C us []) (hb _ (g9 (s.heap.objs.size+1) :: us) L.kIn hl) Z Y) λr s' B=>?_))
 cases r with
 | error e=>exact hx pins σ _ _ e s' L B
 | ok fl =>
  cases fl with
  | ret u =>
   obtain⟨v,H',I3,rv,ev,q3⟩:=L.after B;subst ev;exact⟨rv,⟨V.ref (s.heap.objs.size+1),H',I3,rfl,q3⟩⟩
  | next=>exact D_ B
  | brk=>exact D_ B
  | cont=>exact D_ B
end
structure aA (N P:List Str) (sc:Scope):Prop where
 kind:sc.kind = .function
 co:sc.isCoroutine=false
 gen:sc.isGenerator=false
 nd:N.Nodup
 pre:N.take P.length=P
 par : ∀x∈P,sc.names.lookup x=some .local\/sc.names.lookup x=some .cell
 nofree : ∀y∈sc.names,y.2≠.free
theorem rR {B:Str->Option y7} {x:Str} : ∀{binds:List (Str × Value)} {m:Str->Option Value},(∀v,(x,v)∉binds)->bindL B binds m x=m x
 | [],_,_=>rfl
 | (n,v) :: r,m,h=>by
  unfold bindL;rw[rR λw F=>h w (j7 _ F)]
  split
  .have:x≠n:=by rintro rfl;exact h v k7
   simp[this]
  .rfl
theorem sH {B:Str->Option y7} {x:Str} : ∀{binds:List (Str × Value)} {m:Str->Option Value},(∀v,(x,v)∉binds)->bindC B binds m x=m x
 | [],_,_=>rfl
 | (n,v) :: r,m,h=>by
  unfold bindC;rw[sH λw F=>h w (j7 _ F)]
  split
  .rfl
  .have:x≠n:=by rintro rfl;exact h v k7
   simp[this]
theorem sR {B:Str->Option y7} {x:Str} {v:Value} : ∀{P:List Str} {vs:List Value} {i:Nat} {m:Str->Option Value},P.Nodup->P[i]? = some x->vs[i]? = some v->B x=some .local ->
  bindL B (P.zip vs) m x=some v
 | [],_,_,_,_,h,_,_=>by simp at h
 | _ :: _,[],_,_,_,_,h,_=>by simp at h
 | p :: P,w :: vs,0,m,nd,h1,h2,hk=>by
  simp at h1 h2;subst h1;subst h2
  show bindL B ((p,w) :: P.zip vs) m p=_
  unfold bindL;rw[rR λv F=>(mu.mp nd).1 (of_mem_zip F).1,if_pos hk]
  simp
 | p :: P,w :: vs,i+1,m,nd,h1,h2,hk=>by
  show bindL B ((p,w) :: P.zip vs) m x=_
  unfold bindL;exact sR (i:=i) (mu.mp nd).2 (by simpa using h1) (by simpa using h2) hk
theorem sN {B:Str->Option y7} {x:Str} {v:Value} : ∀{P:List Str} {vs:List Value} {i:Nat} {m:Str->Option Value},P.Nodup->P[i]? = some x->vs[i]? = some v->B x≠some .local ->
  bindC B (P.zip vs) m x=some v
 | [],_,_,_,_,h,_,_=>by simp at h
 | _ :: _,[],_,_,_,_,h,_=>by simp at h
 | p :: P,w :: vs,0,m,nd,h1,h2,hk=>by
  simp at h1 h2;subst h1;subst h2
  show bindC B ((p,w) :: P.zip vs) m p=_
  unfold bindC;rw[sH λv F=>(mu.mp nd).1 (of_mem_zip F).1,if_neg hk]
  simp
 | p :: P,w :: vs,i+1,m,nd,h1,h2,hk=>by
  show bindC B ((p,w) :: P.zip vs) m x=_
  unfold bindC;exact sN (i:=i) (mu.mp nd).2 (by simpa using h1) (by simpa using h2) hk
def jt (N:List Str) (vs:List V):St:=vs.map some++List.replicate (N.length - vs.length) none
def uC (CX:CXT) (P:Program) (w:World) (K:fx) (mg:Str->Option Value) (base:Heap) (N:List Str) (qual:Str) (scope:Scope) (f:Addr) (cd:Value) (A:Around) (outer:List Env) (s:Shared) (H:Hp) (E:XK):Cx where
 prog:=P
 w:=w
 K:=K
 mg:=mg
 base:=base
 A:=A.deeper (envOfC qual scope s.heap.objs.size f cd)
 N:=N
 s₀:=s
 H₀:=H
 env:=envOfC qual scope s.heap.objs.size f cd
 outer:=outer
 stack:=envOfC qual scope s.heap.objs.size f cd :: outer
 ex:=[]
 calm:=true
 fn:=λ_=>true
 pn:=[]
 xe:=λe s'=>wpAny (model P w) (A.deeper (envOfC qual scope s.heap.objs.size f cd)) (leaving (envOfC qual scope s.heap.objs.size f cd) e) (λ_ B=>CX outer H s E e B) (λF B=>CX outer H s E F B) s'
theorem wj (h:sc.names.lookup x=some .cell) : ∃c,(nl n sc.names []).lookup x=some c:=by
 have q:=PySem.W.cellsFrom_some sc.names n [] (.inl h);exact Jq.mp q
theorem zM {CX:CXT} {s1:Shared} {H:Hp} {E:XK} {vs:List V}
  (S:aA N ps scope) (hd:A.handled=none) (B:xD P w K mg base A outer s H) (hl:vs.length=ps.length) (r:bj vs us)
  (x:InCallC s s.heap.objs.size (bindL (envOfC qual scope s.heap.objs.size f cd).kindOf (ps.zip us) λ_=>none) (nl (s.heap.objs.size+1) scope.names []) (bindC (envOfC qual scope s.heap.objs.size f cd).kindOf (ps.zip us) λ_=>none) s1) :
  Inv (uC CX P w K mg base N qual scope f cd A outer s H E) [] (jt N vs) H s1:=by
 have aa:ps.length<=N.length:=by have:=congrArg List.length S.pre;rw[IZ] at this;omega
 obtain⟨h1,tk,rfl,Z⟩:=x.done;have F : ∀b:Addr,b∉(uC CX P w K mg base N qual scope f cd A outer s H E).ex:=λb z=>absurd (show b∈([]:List Addr) from z) (by simp)
 refine⟨⟨B.mod,S.kind,rfl,rfl,hH _,λy z c h1 h2=>?_,λy L=>?_,λy c _ h=>?_,λ_=>hd,Around.frames_deeper B.frames,.inr ⟨rfl,rfl⟩,λb z=>absurd z (F b),B.bs,B.bsz,λb _ _=>F b,λb z=>absurd z (F b),B.funs,B.frf⟩,
  rfl,B.bare,Un.kept Z,⟨_,x.toInCall.ns,λi y v h1 h2 h3=>?_⟩,λy c h=>⟨_,x.cell y c h⟩,B.hok.fresh (hH _),λy c h=>?_,λp hp=>absurd (show p∈([]:List (Addr × Obj)) from hp) (by simp),B.hok.kept Z,?_⟩
 .exact name_of_addr x.apart (JI h1) (JI h2)
 .have L:scope.names.lookup y=some .cell\/scope.names.lookup y=some .free:=L
  rcases L with L | L
  .exact wj L
  .exact absurd rfl (S.nofree _ (JI L))
 .exact x8 (x.above y c (JI h))
 .have hi:i < vs.length:=by
   unfold jt at h2
   by_cases hi:i < vs.length
   .exact hi
   .rw[u9 (by simpa using hi)] at h2
    rw[List.getElem?_replicate] at h2
    split at h2 <;> cases h2
  have ha:vs[i]? = some v:=by
   unfold jt at h2;rw[t4 (by simpa using hi),ei] at h2
   cases e:vs[i]? with
   | none=>rw[e] at h2;cases h2
   | some a=>rw[e] at h2;cases h2;rfl
  obtain⟨u,hu,rv⟩:=r.get ha;have hp:ps[i]? = some y:=by
   rw[<- S.pre,List.getElem?_take_of_lt ()];exact h1
  have Y:ps.Nodup:=by rw[<- S.pre];exact S.nd.sublist (JD _ _)
  refine⟨u,rv,?_⟩
  rcases S.par y (f_ hp) with k | k
  .exact .inl ⟨k,sR Y hp hu k⟩
  .obtain⟨c,e⟩:=wj (n:=s.heap.objs.size+1) k
   refine .inr ⟨.inl k,c,e,?_⟩
   have q:=x.cell y c e;rw[sN Y hp hu (by show scope.names.lookup y≠_;rw[k];decide)] at q
   exact q
 .exact B.hok.fresh (x8 (x.above y c (JI h)))
 .unfold jt
  show _=N.length
  rw[o9,c_,List.length_replicate];omega
theorem HS {CX:CXT} {dV kV:Value} {an:Option Addr}
   {sp:Sp} (lk:K.lookup f=some ⟨oc,od,.func (fnOf name qual params body scope dV kV doc pm an cdv ct),osl⟩) (ac:codeIn K cdv qual=true) (S:aA N ps scope)
  (Z : ∀vs H Q E,sp vs H Q E->vs.length=ps.length)
  (F : ∀(A:Around) (outer:List Env) (s:Shared) (H:Hp) (vs:List V) (Q:VK) (E:XK),di k (A.deeper (envOfC qual scope s.heap.objs.size f cdv))->sp vs H Q E ->
   ∃t,PSs (uC CX P w K mg base N qual scope f cdv A outer s H E) body t/\t { nx:=λ_ H'=>Q .non H',rt:=Q } (jt N vs) H) :
  ll P w K mg base CX (k+1) f (fnOf name qual params body scope dV kV doc pm an cdv ct) ps sp:=by
 refine⟨Z,λA outer s H args us vs Q E hr e0 hb r Y=>?_⟩
 have hl:=Z _ _ _ _ Y;have KX:K.In s.heap:=e0.mod.kin.keeps λb o e=>(e0.bs b o e).1
 have ab:s.heap.NoLimit:=e0.mod.nolimit.keeps λb o e=>(e0.bs b o e).1
 have B : ∀y∈ps.zip us,scope.names.lookup y.1=some .local\/(scope.names.lookup y.1=some .cell/\((nl (s.heap.objs.size+1) scope.names []).lookup y.1).isSome=true):=λ⟨n,v⟩ hy=>by
  rcases S.par n (of_mem_zip hy).1 with q | q
  .exact .inl q
  .exact .inr ⟨q,PySem.W.cellsFrom_some _ _ _ (.inl q)⟩
 refine codeAny_call_function hr.depth (KX _ _ lk) rfl S.co S.gen rfl (PySem.W.codeRec_of KX ac) (hb _ _ _ _ ?_)
 refine wpAny_newFunctionEnv_cells S.kind B λenv he s1 x=>?_
 subst he;refine⟨ab.keeps x.toInCall.keep,codeAny_func ?_⟩
 obtain⟨t,ht,hq⟩:=F A outer s H vs Q E (hr.deeper _) Y;have I:Inv (uC CX P w K mg base N qual scope f cdv A outer s H E) [] (jt N vs) H s1:=zM S hr.hd e0 hl r x
 refine y2 (ht [] s1 (jt N vs) H _ I hq) (λfl s' L=>?_) λe s' L=>L
 have aa : ∀{σ':St} {H':Hp} {v:V} {u:Value},Inv (uC CX P w K mg base N qual scope f cdv A outer s H E) [] σ' H' s'->bq v u->Q v H'->CE outer P w H s Q u s' :=
  λ{σ' H' v u} J rv q=>⟨v,H',J.os,J.bare,J.base,J.hok,rv,q⟩
 cases fl with
 | ret u =>
  obtain⟨v,σ',H',J,rv,q⟩:=L;exact aa J rv q
 | next =>
  obtain⟨σ',H',J,q⟩:=L;exact aa (v:=V.non) (u:=n_) J rfl q
 | brk =>
  obtain⟨_,_,_,q⟩:=L;exact D_ q
 | cont =>
  obtain⟨_,_,_,q⟩:=L;exact D_ q
section
variable {X:Cx} {p:Pos} {t:TA} {id T:String} {r:List V->Hp->VK->Prop}
def tCB (r:List V->Hp->VK->Prop) (t:TA):TE:=λσ H Q=>t σ H λvs H1=>r vs H1 Q
theorem aF (hc:bX X (.builtin id) r) (hm:X.mg x=none) (ha:PA X (e :: es) t) (hg:Gl X x:=by exact rfl) (hv:y6 x=some (.builtin id):=by decide+kernel) (hn:x ≠ "__name__" := by decide) (L:(x ==("__debug__" : Str))=false:=by decide)
  (he:j9 (e :: es) X.env=(false,eval e X.env) :: j9 es X.env:=by rfl) (B:(A_ pos (j9 es X.env)).any (·.1)=false:=by rfl):PE X (.Call (.Name x p) (e :: es) [] pos) (tCB r t):=by
 intro pins s σ H Q I h;refine x3 (gs I hg hm hv ?_ hn L)
 exact PyProof.Rows.callWith_builtin1 (thn (ha pos pins s σ H _ I h) λus s1 F=>by obtain⟨vs,H1,I1,Z,Y⟩:=F;exact(hc pins s1 σ H1 vs us Q I1 Z Y)) he B
theorem aY (hc:bX X (.type T) r) (hm:X.mg x=none) (ha:PA X (e :: es) t) (hg:Gl X x:=by exact rfl) (hv:y6 x=some (.type T):=by decide+kernel) (hn:x ≠ "__name__" := by decide) (L:(x ==("__debug__" : Str))=false:=by decide)
  (he:j9 (e :: es) X.env=(false,eval e X.env) :: j9 es X.env:=by rfl) (B:(A_ pos (j9 es X.env)).any (·.1)=false:=by rfl):PE X (.Call (.Name x p) (e :: es) [] pos) (tCB r t):=by
 intro pins s σ H Q I h;refine x3 (gs I hg hm hv ?_ hn L)
 exact n9 (thn (ha pos pins s σ H _ I h) λus s1 F=>by obtain⟨vs,H1,I1,Z,Y⟩:=F;exact(hc pins s1 σ H1 vs us Q I1 Z Y)) he B
end
end L2
variable {CX:L2.CXT} {Cs:List (Kg × L2.Sp)} {D:L2.pI} {H H' H1 H2:L2.Hp} {J:L2.It} {X:L2.Cx} {dvs vs xs zs:List L2.V} {fs':List (Jb × L2.V)} {kvs:List (L2.Key × L2.V)} {o o' u0:L2.HO} {r':L2.V->Option Int->Option Int->L2.Hp->L2.VK->Prop} {sp:L2.Sp} {ta tb td te to tv ty:L2.TE} {tc:L2.TT} {trs:List (L2.TE × L2.TE)} {vb:List (L2.Key × IY)} {wi:L2.TI} {y:L2.V} {σ σ0:L2.St} {σ':List (Option L2.V)}
namespace HT
open PySem PyProof.Rows
theorem cat_tup {t:Addr} {vs ws:List Value} (ht:IsTup s.heap t vs.toArray) (hb:IsTup s.heap b ws.toArray) (hv:vs≠[])
  (h1:ws=[]->Q (.ref t) s) (h2:ws≠[]->Q (.ref s.heap.objs.size) { s with heap:=s.heap.push { cls:=.type "tuple",data:=.seq (vs++ws).toArray } })
  (hsz:vs.length+ws.length<=ge):wpAny (model prog w) A (G2 .Add (.ref t) (.ref b)) Q E s:=by
 obtain⟨⟨cls,dd,data,sl⟩,ho,hc,n,hd⟩:=id ht;obtain⟨⟨ac,Z,ab,aa⟩,B,Y,n2,L⟩:=id hb;simp only at hc hd Y L;subst hc hd Y L;have e:vs.toArray++ws.toArray=(vs++ws).toArray:=by simp
 by_cases hw:ws=[]
 .exact concat_meets ⟨_,ho,rfl⟩ ⟨_,B,rfl⟩ noFill_tuple_add seq_tuple_add PySem.F.slot_tuple_add PySem.F.entry_tuple_add (PySem.F.args_tuple_add_2 _ _)
   (tuple_addW1 t b vs.toArray ws.toArray n n2 dd Z sl aa (by simpa using hv) (by simp[hw])) ⟨ho,B,h1 hw⟩
 .refine concat_meets ⟨_,ho,rfl⟩ ⟨_,B,rfl⟩ noFill_tuple_add seq_tuple_add PySem.F.slot_tuple_add PySem.F.entry_tuple_add (PySem.F.args_tuple_add_2 _ _)
   (tuple_addW2 t b vs.toArray ws.toArray n n2 dd Z sl aa (by simpa using hv) (by simpa using hw) (by rw[j6,j6];exact hsz)) ⟨ho,B,?_⟩
  rw[e];exact h2 hw
def sIx (n d:Nat):Option Int->Nat
 | none=>d
 | some v=>if v < 0 then(v+(n:Int)).toNat else min v.toNat n
theorem sIx_none (n d:Nat):sIx n d none=d:=rfl
theorem sIx_nat (n d k:Nat):sIx n d (some (k:Int))=min k n:=by
 show(if (k:Int) < 0 then((k:Int)+(n:Int)).toNat else min (k:Int).toNat n)=min k n
 rw[if_neg (),J2]
theorem sIx_le (n d:Nat) (F:d<=n) (o:Option Int):sIx n d o<=n:=by
 cases o with
 | none=>exact F
 | some v =>
  show(if v < 0 then(v+(n:Int)).toNat else min v.toNat n)<=n
  by_cases B:v < 0
  .rw[if_pos B];omega
  .rw[if_neg B];exact Nat.min_le_right _ _
theorem yD (v:Int) (n d:Nat):(if v < 0 then max (v+(n:Int)) 0 else min v (n:Int))=((sIx n d (some v):Nat):Int):=by
 show(if v < 0 then max (v+(n:Int)) 0 else min v (n:Int))=(((if v < 0 then(v+(n:Int)).toNat else min v.toNat n):Nat):Int)
 by_cases B:v < 0
 .simp only[if_pos B];omega
 .simp only[if_neg B];omega
theorem yd (lo hi:Option Int) (n:Nat):Builtin.Slice.sliceAdjust lo hi 1 (n:Int)=(((sIx n 0 lo:Nat):Int),((sIx n n hi:Nat):Int)):=by
 have h1 : ¬ ((1:Int) < 0):=()
 unfold Builtin.Slice.sliceAdjust;simp only[h1,if_false];refine Prod.ext ?_ ?_
 .cases lo with
  | none=>rfl
  | some v=>exact yD v n 0
 .cases hi with
  | none=>rfl
  | some v=>exact yD v n n
theorem yg (i j:Nat):Jv (i:Int) (j:Int) 1=j - i:=by
 unfold Jv;have h1:(1:Int) > 0:=()
 simp only[h1,if_true,Int.ediv_one]
 split <;> omega
theorem qo {v:Value} {o:Option Int} {Q:Option Int->Shared->Prop} (p:IsPart v o) (h:Q o s):wpAny (model prog w) A (Builtin.Slice.slicePartIndex v) Q E s:=by
 cases p with
 | none=>exact slicePart_none h
 | int i t=>exact slicePart_int h
theorem ix {sl:Addr} {lo:Option Int} {Q:Int × Int × Nat->Shared->Prop} (Z:s.heap.IsSliceOf sl vl vu .none) (pl:IsPart vl lo) (Y:IsPart vu hi)
  (h:Q (((sIx n 0 lo:Nat):Int),1,sIx n n hi - sIx n 0 lo) s):wpAny (model prog w) A (Builtin.Slice.sliceApplied (.ref sl) (pure (n:Int))) Q E s:=by
 obtain⟨os,B,L,F⟩:=id Z;unfold Builtin.Slice.sliceApplied Builtin.Slice.sliceFields;refine a_ (a_ (md B F (x:=vl) rfl (a_ (md B F (x:=vu) rfl (a_ (md B F (x:=.none) rfl (e7 ?_)))))))
 refine a_ (slicePart_none ?_)
 show wpAny _ _ (if ((1:Int) == 0)=true then _ else _) _ _ s
 rw[if_neg ∅]
 refine a_ (qo pl (a_ (qo Y (a_ (e7 ?_)))))
 show wpAny _ _ (match Builtin.Slice.sliceAdjust lo hi 1 (n:Int) with | (lo,hi)=>pure (lo,(1:Int),Jv lo hi 1)) _ _ s
 rw[yd lo hi n]
 show wpAny _ _ (pure (((sIx n 0 lo:Nat):Int),(1:Int),Jv ((sIx n 0 lo:Nat):Int) ((sIx n n hi:Nat):Int) 1)) _ _ s
 rw[yg];exact e7 h
theorem BJ (xs:Array Value) (i k:Nat):((range k).filterMap λ(m:Nat)=>xs[((i:Int)+(m:Int) * 1).toNat]?).toArray=((xs.toList.drop i).take k).toArray:=by
 have e:(λ(m:Nat)=>xs[((i:Int)+(m:Int) * 1).toNat]?)=λm=>xs[i+m]? := by
  funext m
  have:((i:Int)+(m:Int) * 1).toNat=i+m:=()
  rw[this]
 rw[e];have:=pick_run xs i k
 rw[List.filterMap_map] at this;have e2:((λx=>xs[x]?) ∘ λx=>i+x)=λm=>xs[i+m]? := rfl
 rw[e2] at this;rw[this]
theorem getItem_tuple_cut {t sl:Addr} {lo:Option Int} (F:IsTup s.heap t items) (hs:s.heap.IsSliceOf sl vl vu .none) (pl:IsPart vl lo) (pu:IsPart vu hi)
  (hw : ¬ (sIx items.size 0 lo=0/\sIx items.size items.size hi=items.size))
  (h:Q (.ref s.heap.objs.size) { s with heap:=s.heap.push { cls:=.type "tuple",data:=.seq ((items.toList.drop (sIx items.size 0 lo)).take (sIx items.size items.size hi - sIx items.size 0 lo)).toArray } })
  (hsz:items.size<=ge):wpAny (model prog w) A (getItem (.ref t) (.ref sl)) Q E s:=by
 have B:sizeOk (.seq ((items.toList.drop (sIx items.size 0 lo)).take (sIx items.size items.size hi - sIx items.size 0 lo)).toArray):=by
  show((items.toList.drop (sIx items.size 0 lo)).take (sIx items.size items.size hi - sIx items.size 0 lo)).toArray.size<=ge
  rw[j6,IZ,length_drop,y8];omega
 have hj:sIx items.size items.size hi<=items.size:=sIx_le _ _ (hH _) hi
 obtain⟨os,Y,Z,ab⟩:=id hs;have aa:s.TypeIs (.ref sl) "slice" :=⟨os,Y,Z⟩
 unfold getItem
 try with_reducible refine o_ ?_
 first | refine a_ (e7 ?_) | skip
 refine a_ (wpAny_sequenceKey F.typeIs ∅ ?_)
 refine a_ (m6 (name:=b_ "__getitem__") F.typeIs u8
  (m8 u8 F.typeIs entry_tuple_getitem ?_ (args_tuple_getitem _ _)))
 show wpAny _ _ (Builtin.Tuple.tupleItemsOf (.ref t) >>= _) _ _ s
 refine a_ (tupleItemsOf_ F ?_)
 refine a_ (J_ aa ?_)
 rw[if_pos ∅]
 refine a_ (ix hs pl pu ?_)
 have L : ¬ ((((sIx items.size 0 lo:Nat):Int) == 0 && (1:Int) == 1 && (sIx items.size items.size hi - sIx items.size 0 lo) == items.size)=true):=by
  intro q;rw[k_,k_] at q;have q1:((sIx items.size 0 lo:Nat):Int)=0:=eq_of_beq q.1.1
  have q2:sIx items.size items.size hi - sIx items.size 0 lo=items.size:=eq_of_beq q.2
  exact hw ⟨(),()⟩
 show wpAny _ _ (if (((sIx items.size 0 lo:Nat):Int) == 0 && (1:Int) == 1 && (sIx items.size items.size hi - sIx items.size 0 lo) == items.size)=true then _ else _) _ _ s
 rw[if_neg L,BJ]
 first
  | exact a_ (m:=JE _) (w6 (e7 ⟨_,rfl,e7 h⟩) B)
  | exact a_ (m:=JE _) (w6 (a_ (e7 (e7 ⟨_,rfl,e7 h⟩))) B)
  | exact a_ (a_ (m:=JE _) (w6 (e7 (e7 ⟨_,rfl,e7 h⟩)) B))
  | exact a_ (a_ (m:=JE _) (w6 (e7 ⟨_,rfl,e7 h⟩) B))
end HT
namespace L2
open PySem PySem.Spec PyProof.Rows
abbrev TO:=St->Hp->(Option Int->Hp->Prop)->Prop
def PO (X:Cx) (e:Option Expr) (t:TO):Prop :=
 ∀ (pins:List (Addr × Obj)) (s:Shared) (σ:St) (H:Hp) (Q:Option Int->Hp->Prop),Inv X pins σ H s->t σ H Q ->
  wpAny (model X.prog X.w) X.A (evalPart e X.env) (λu s'=>∃o H',Inv X pins σ H' s'/\IsPart u o/\Q o H') X.xe s
def lG:TO:=λ_ H Q=>Q none H
def wK (t:TE):TO:=λσ H Q=>t σ H λx H1=>∃i,x = .int i/\Q (some i) H1
theorem gn : ∀{us:List Value},bj (ns.map V.int) us->IntsAre us ns:=by
 induction ns with
 | nil=>intro us r;rw[map_nil] at r;cases r;exact .nil
 | cons n ns L =>
  intro us r;rw[i9] at r;cases r with
  | cons B F =>
   obtain⟨t,e⟩:=B;subst e;exact .cons n t (L F)
section
variable {lo hi:Option Expr} {tl th:TO}
theorem fe:PO X none lG:=by
 intro pins s σ H Q I h;rw[evalPart_none];exact e7 ⟨none,H,I,.none,h⟩
theorem dF (h:PE X e te):PO X (some e) (wK te):=by
 intro pins s σ H Q I Y;rw[evalPart_some];refine thn (h pins s σ H _ I Y) λu s1 B=>?_
 obtain⟨x,H1,Z,L,F⟩:=B;obtain⟨i,rfl,q⟩:=F;obtain⟨t,rfl⟩:=L;exact⟨some i,H1,Z,.int i t,q⟩
def SlR (X:Cx) (r:V->Option Int->Option Int->Hp->VK->Prop):Prop :=
 ∀ (pins:List (Addr × Obj)) (s:Shared) (σ:St) (H:Hp) (x:V) (v vl vu:Value) (lo hi:Option Int) (sl:Addr) (Q:VK),Inv X pins σ H s->bq x v->s.heap.IsSliceOf sl vl vu .none->IsPart vl lo->IsPart vu hi->r x lo hi H Q ->
  ∃T id,G3 (.type T) "__getitem__" = pure (some (.builtin id))/\s.TypeIs v T/\wpAny (model X.prog X.w) X.A (getItem v (.ref sl)) (EP X pins σ Q) X.xe s
def tSl (r:V->Option Int->Option Int->Hp->VK->Prop) (te:TE) (tl th:TO):TE:=λσ H Q=>te σ H λx H1=>tl σ H1 λl H2=>th σ H2 λu B=>r x l u B Q
theorem cW {r:V->Option Int->Option Int->Hp->VK->Prop} (hr:SlR X r) (he:PE X e te) (hl:PO X lo tl) (hu:PO X hi th):PE X (.Subscript e (.Slice lo hi none p2) pos) (tSl r te tl th):=by
 intro pins s σ H Q I h;refine Subscript_ (thn (he pins s σ H _ I h) λv s1 L=>?_)
 obtain⟨x,H1,I1,r1,q1⟩:=L;refine wpAny_Slice (thn (hl pins s1 σ H1 _ I1 q1) λvl Z ⟨l,H2,I2,pl,q2⟩=>thn (hu pins Z σ H2 _ I2 q2) λvu B F=>?_)
 obtain⟨u,Y,I3,pu,q3⟩:=F;rw[evalPart_none];refine e7 ?_
 have I4:Inv X pins σ Y { B with heap:=B.heap.push { cls:=.type "slice",data:=.fields #[vl,vu,.none] } }:=I3.kept (t':=B.toks) λb ob q=>d_ _ q
 obtain⟨T,id,hT,ht,hg⟩:=hr pins { B with heap:=B.heap.push { cls:=.type "slice",data:=.fields #[vl,vu,.none] } } σ Y x v vl vu l u B.heap.objs.size Q I4 r1 (Heap.IsSliceOf.new ..) pl pu q3
 show wpAny (model X.prog X.w) X.A (subscriptTail e (.Slice lo hi none p2) v (.ref B.heap.objs.size)) (EP X pins σ Q) X.xe { B with heap:=B.heap.push { cls:=.type "slice",data:=.fields #[vl,vu,.none] } }
 exact tail_any (ops:=[.ref B.heap.objs.size,v]) ht hT hg (by with_unfolding_all rfl)
def gM (xs:List V) (lo hi:Option Int):List V:=(xs.drop (HT.sIx xs.length 0 lo)).take (HT.sIx xs.length xs.length hi - HT.sIx xs.length 0 lo)
theorem oP (xs:List V) (lo hi:Option Int):(gM xs lo hi).length<=xs.length:=by
 unfold gM;rw[IZ,length_drop];omega
def Iv (K:fx):V->Option Int->Option Int->Hp->VK->Prop:=λx lo hi H Q=>∃a xs,x = .ref a/\SqT K H a xs /\
 ¬ (HT.sIx xs.length 0 lo=0/\HT.sIx xs.length xs.length hi=xs.length)/\∀p,H p=none->Q (.ref p) (upd H p (.tup (gM xs lo hi)))
theorem E1:SlR X (Iv X.K):=by
 intro pins s σ H x v vl vu lo hi sl Q I rx hs pl Y h;obtain⟨a,xs,rfl,Z,hw,q⟩:=h;cases rx;obtain⟨its,r,L,F⟩:=I.tuple Z;have B:its.toArray.size=xs.length:=by rw[j6];exact r.length.symm
 refine⟨"tuple",_,u8.lookup,L.typeIs,?_⟩
 refine HT.getItem_tuple_cut L hs pl Y (by rw[B];exact hw) ?_ (by rw[B];exact F)
 rw[B];refine⟨.ref s.heap.objs.size,_,I.laid (t':=s.toks) (o:=.tup (gM xs lo hi)) (λb ob q=>d_ _ q) (hH _) ?_,rfl,q _ (I.hok.fresh (hH _))⟩
 exact⟨gt (oP xs lo hi) F,_,(r.drop (HT.sIx xs.length 0 lo)).take (HT.sIx xs.length xs.length hi - HT.sIx xs.length 0 lo),IsTup.new _ _⟩
def HG (K:fx):R2:=λx y H Q=>∃a b xs ys,x = .ref a/\y = .ref b/\SqT K H a xs/\SqT K H b ys/\xs≠[]/\xs.length+ys.length<=ge /\
 (ys=[]->Q (.ref a) H)/\(ys≠[]->∀p,H p=none->Q (.ref p) (upd H p (.tup (xs++ys))))
theorem bj.nil_iff (r:bj xs us):us=[]↔xs=[]:=by
 cases r with
 | nil=>simp
 | cons _ _=>simp
theorem DI:OpR X (G2 .Add) (HG X.K):=by
 intro pins s σ H x y v u Q I rx ry h;obtain⟨a,b,xs,ys,rfl,rfl,ha,hb,hx,Y,q1,Z⟩:=h;cases rx;cases ry;obtain⟨its,F,p1,_⟩:=I.tuple ha;obtain⟨L,B,p2,_⟩:=I.tuple hb;refine HT.cat_tup p1 p2 (λz=>hx (F.nil_iff.mp z)) (λz=>⟨.ref a,H,I,rfl,q1 (B.nil_iff.mp z)⟩) (λz=>?_) (by rw[<- F.length,<- B.length];exact Y)
 refine⟨.ref s.heap.objs.size,_,I.laid (t':=s.toks) (o:=.tup (xs++ys)) (λb ob q=>d_ _ q) (hH _) ?_,rfl,Z (λw=>z (B.nil_iff.mpr w)) _ (I.hok.fresh (hH _))⟩
 exact⟨by rw[o9];exact Y,_,F.append B,IsTup.new _ _⟩
end
def ixN (n:Nat) (i:Int):Option Nat:=if 0<=i then(if i < n then some i.toNat else none) else if -(n:Int)<=i then some (i+n).toNat else none
def atI {α:Type} (xs:List α) (i:Int):Option α:=(ixN xs.length i).bind λj=>xs[j]?
theorem Er {i:Int} (h:ixN n i=some j):seqIndex? i n=some j/\j < n/\-(n:Int)<=i/\i < n:=by
 unfold ixN at h
 by_cases B:0<=i
 .rw[if_pos B] at h
  by_cases h1:i < n
  .rw[if_pos h1] at h
   have e:i.toNat=j:=e8 h
   exact⟨by rw[seqIndex_of B h1,e],(),(),h1⟩
  .rw[if_neg h1] at h;cases h
 .rw[if_neg B] at h
  by_cases h1 : -(n:Int)<=i
  .rw[if_pos h1] at h
   have e:(i+n).toNat=j:=e8 h
   exact⟨by rw[seqIndex_neg () h1,e],(),h1,()⟩
  .rw[if_neg h1] at h;cases h
theorem uh {xs:List α} {i:Int} {v:α} (h:atI xs i=some v) : ∃j,seqIndex? i xs.length=some j/\xs[j]? = some v/\j < xs.length/\-(xs.length:Int)<=i/\i < xs.length:=by
 unfold atI at h;cases e:ixN xs.length i with
 | none=>rw[e] at h;cases h
 | some j =>
  rw[e] at h;obtain⟨h1,h2,F,B⟩:=Er e;exact⟨j,h1,h,h2,F,B⟩
theorem cg {xs:List α} {v:α} (h:xs[j]? = some v):atI xs (j:Int)=some v:=by
 have B:j < xs.length:=(i4.mp h).1
 have e:ixN xs.length (j:Int)=some j:=by
  unfold ixN;rw[if_pos (),if_pos ()];simp
 unfold atI;rw[e];exact h
theorem qp (xs:List α) (v:α):atI (xs++[v]) (-1)=some v:=by
 have hl:(xs++[v]).length=xs.length+1:=by simp
 have e:ixN (xs++[v]).length (-1)=some xs.length:=by
  unfold ixN;rw[hl,if_neg ∅,if_pos ()]
  congr 1
  omega
 unfold atI;rw[e]
 show(xs++[v])[xs.length]? = some v
 simp
def C8 (b:Expr):Prop:=∀o i,subscripted b false o i=operate [o,i] (getItem o i)
def IxR (X:Cx) (r:R2):Prop :=
 ∀ (value B:Expr) (pins:List (Addr × Obj)) (s:Shared) (σ:St) (H:Hp) (x y:V) (v u:Value) (Q:VK),Inv X pins σ H s->bq x v->bq y u->r x y H Q ->
  subscripted B false v u=operate [v,u] (getItem v u)->wpAny (model X.prog X.w) X.A (subscriptTail value B v u) (EP X pins σ Q) X.xe s
def MtR (X:Cx) (id:String) (r:V->List V->Hp->VK->Prop):Prop :=
 ∀ (pins:List (Addr × Obj)) (s:Shared) (σ:St) (H:Hp) (x:V) (xs:List V) (v:Value) (us:List Value) (Q:VK),Inv X pins σ H s->bq x v->bj xs us->r x xs H Q ->
  wpAny (model X.prog X.w) X.A (call (.builtin id) (v :: us)) (EP X pins σ Q) X.xe s
section
variable {a b:Expr}
theorem aC {r:R2} (hr:IxR X r) (ha:PE X a ta) (F:PE X b tb) (L:C8 b:=by exact λ_ _=>rfl):PE X (.Subscript a b pos) (tOp r ta tb):=by
 intro pins s σ H Q I h;exact Subscript_ (Gs ha F I h λv u B x y H2 Z rx Y q=>hr a b pins B σ H2 x y v u Q Z rx Y q (L _ _))
def IW (K:fx):R2:=λx y H Q=>∃p xs i v,x = .ref p/\y = .int i/\SqL K H p xs/\atI xs i=some v/\Q v H
def IV (K:fx):R2:=λx y H Q=>∃p xs i v,x = .ref p/\y = .int i/\SqT K H p xs/\atI xs i=some v/\Q v H
def IR:R2:=λx y H Q=>∃z i c,x = .str z/\y = .int i/\z.length<=ge/\atI z.cps.toList i=some c/\Q (.str ⟨#[c]⟩) H
theorem Dx:IxR X (IW X.K):=by
 intro value F pins s σ H x y v u Q I rx ry h Z;obtain⟨p,xs,i,z,rfl,rfl,hq,he,q⟩:=h;cases rx;obtain⟨t,rfl⟩:=ry;obtain⟨its,r,pl,hz⟩:=I.list hq;obtain⟨j,h1,h2,h3,h4,h5⟩:=uh he;obtain⟨w,Y,L⟩:=r.get h2;have hl:=r.length;have hn:=oq;have B:EP X pins σ Q w s:=⟨z,H,I,L,q⟩
 by_cases h0:0<=i
 .have hj:i.toNat=j:=by
   rw[seqIndex_of h0 h5] at h1;exact e8 h1
  exact item_listR pl.isList h0 () (by rw[hj];simpa using Y) B Z
 .have hj:(i+(its.toArray.size:Int)).toNat=j:=by
   rw[seqIndex_neg () h4] at h1
   rw[j6,<- hl];exact e8 h1
  exact subscriptTail_builtinR (x:=w) pl.isList.typeIs slot_list_getitem.lookup
   (wpAny_getItem_list_neg (Q:=λr s'=>r=w/\EP X pins σ Q r s') pl.isList () (by rw[j6] <;> omega) () (by rw[hj];simpa using Y) ⟨rfl,B⟩) Z
theorem EH:IxR X (IV X.K):=by
 intro value F pins s σ H x y v u Q I rx ry h Z;obtain⟨p,xs,i,z,rfl,rfl,hq,he,q⟩:=h;cases rx;obtain⟨t,rfl⟩:=ry;obtain⟨its,r,pl,hz⟩:=I.tuple hq;obtain⟨j,h1,h2,h3,h4,h5⟩:=uh he;obtain⟨w,Y,L⟩:=r.get h2;have hl:=r.length;have hn:=oq;have B:EP X pins σ Q w s:=⟨z,H,I,L,q⟩
 exact subscriptTail_builtinR (x:=w) pl.typeIs slot_tuple_getitem.lookup
  (getItem_tuple (j:=j) (Q:=λr s'=>r=w/\EP X pins σ Q r s') pl () () (by rw[j6,<- hl];exact h1) (by simpa using Y) ⟨rfl,B⟩) Z
theorem GF:IxR X IR:=by
 intro value B pins s σ H x y v u Q I rx Y h F;obtain⟨z,i,c,rfl,rfl,hz,Z,q⟩:=h;obtain⟨t,rfl⟩:=rx;obtain⟨t',rfl⟩:=Y;obtain⟨j,h1,h2,h3,L,h5⟩:=uh Z;have hl:z.cps.toList.length=z.length:=by simp[Str.length]
 rw[hl] at h1 L h5;have hn:=oq;exact tail_any (typeIs_str s z t) slot_str_getitem.lookup (getItem_str (c:=c) (by
  have e1:decide (i < -(2 ^ 63:Int))=false:=decide_eq_false ()
  have e2:decide (i >= 2 ^ 63)=false:=decide_eq_false ()
  rw[e1,e2,Bool.or_false]) (by rw[h1];simpa using h2) ⟨.str ⟨#[c]⟩,H,I.tok _,⟨_,rfl⟩,q⟩) F
theorem uD (lo hi:Option Int) (n:Nat):(Ks lo hi none n).1=((HT.sIx n 0 lo:Nat):Int)/\(Ks lo hi none n).2.1=((HT.sIx n n hi:Nat):Int)/\(Ks lo hi none n).2.2=1:=by
 refine⟨?_,?_,rfl⟩
 .cases lo with
  | none=>simp[Ks,HT.sIx]
  | some i =>
   simp only[Ks,HT.sIx,getD_none,show(1:Int) > 0 by decide,if_true]
   by_cases h:i < 0
   .simp only[h,if_true] <;> omega
   .simp only[h,if_false] <;> omega
 .cases hi with
  | none=>simp[Ks,HT.sIx]
  | some i =>
   simp only[Ks,HT.sIx,getD_none,show(1:Int) > 0 by decide,if_true]
   by_cases h:i < 0
   .simp only[h,if_true] <;> omega
   .simp only[h,if_false] <;> omega
theorem ri (its:List Value) (lo hi:Option Int):slicePick its.toArray lo hi none=((its.drop (HT.sIx its.length 0 lo)).take (HT.sIx its.length its.length hi - HT.sIx its.length 0 lo)).toArray:=by
 obtain⟨h1,h2,B⟩:=uD lo hi its.toArray.size;unfold slicePick;rw[h1,h2,B];simp only[sliceRange_one,pick_run,j6] <;> rfl
def IL (K:fx):V->Option Int->Option Int->Hp->VK->Prop:=λx lo hi H Q=>∃a xs,x = .ref a/\SqL K H a xs/\∀p,H p=none->Q (.ref p) (upd H p (.lst (gM xs lo hi)))
theorem yM:SlR X (IL X.K):=by
 intro pins s σ H x v vl vu lo hi sl Q I rx hs pl L h;obtain⟨a,xs,rfl,Z,q⟩:=h;cases rx;obtain⟨its,r,F,Y⟩:=I.list Z;have B:=r.length;refine⟨"list",_,slot_list_getitem.lookup,F.isList.typeIs,?_⟩
 refine wpAny_getItem_list_slice F.isList hs pl L .none (by simp) ?_ (by rw[j6] <;> omega)
 rw[ri,<- B];refine⟨.ref s.heap.objs.size,_,I.laid (t':=s.toks) (o:=.lst (gM xs lo hi)) (λb ob q=>d_ _ q) (hH _) ?_,rfl,q _ (I.hok.fresh (hH _))⟩
 exact⟨gt (oP xs lo hi) Y,_,0,(r.drop (HT.sIx xs.length 0 lo)).take (HT.sIx xs.length xs.length hi - HT.sIx xs.length 0 lo),gr _ rfl⟩
def gS:V->Bool
 | .non=>true
 | .bl _=>true
 | .int _=>true
 | .str _=>true
 | _=>false
def eqV:V->V->Bool
 | .non,.non=>true
 | .bl a,.bl b=>a == b
 | .bl a,.int b=>(if a then 1 else 0) == b
 | .int a,.bl b=>a ==(if b then 1 else 0)
 | .int a,.int b=>a == b
 | .str a,.str b=>a == b
 | _,_=>false
theorem EG {x:V} {v:Value} (L:bq y u) (B:bq x v) (Y:gS y=true) (F:gS x=true):SeqAt.EqAt A s u v (eqV y x):=by
 cases y with
 | non =>
  cases L;cases x with
  | non=>cases B;exact SeqAt.EqAt.same _
  | bl b=>cases B;exact SeqAt.EqAt.none_bool b
  | int b=>obtain⟨t,rfl⟩:=B;exact SeqAt.EqAt.none_int b t
  | str b=>obtain⟨t,rfl⟩:=B;exact SeqAt.EqAt.none_str b t
  | _=>exact absurd (show false=true from F) jc
 | bl a =>
  cases L;cases x with
  | non=>cases B;exact SeqAt.EqAt.bool_none a
  | bl b=>cases B;exact SeqAt.EqAt.bool_bool a b
  | int b=>obtain⟨t,rfl⟩:=B;exact SeqAt.EqAt.bool_int a b t
  | str b=>obtain⟨t,rfl⟩:=B;exact SeqAt.EqAt.bool_str a b t
  | _=>exact absurd (show false=true from F) jc
 | int a =>
  obtain⟨t',rfl⟩:=L;cases x with
  | non=>cases B;exact SeqAt.EqAt.int_none a t'
  | bl b=>cases B;exact SeqAt.EqAt.int_bool a t' b
  | int b=>obtain⟨t,rfl⟩:=B;exact SeqAt.EqAt.int_int a t' b t
  | str b=>obtain⟨t,rfl⟩:=B;exact SeqAt.EqAt.int_str a t' b t
  | _=>exact absurd (show false=true from F) jc
 | str a =>
  obtain⟨t',rfl⟩:=L;cases x with
  | non=>cases B;exact SeqAt.EqAt.str_none a t'
  | bl b=>cases B;exact SeqAt.EqAt.str_bool a t' b
  | int b=>obtain⟨t,rfl⟩:=B;exact SeqAt.EqAt.str_int a t' b t
  | str b=>obtain⟨t,rfl⟩:=B;exact SeqAt.EqAt.str_str a t' b t
  | _=>exact absurd (show false=true from F) jc
 | _=>exact absurd (show false=true from Y) jc
def eqU (x:V) (u:Value):Bool:=match u with
 | .none=>eqV .non x
 | .bool b=>eqV (.bl b) x
 | .int i _=>eqV (.int i) x
 | .str z _=>eqV (.str z) x
 | _=>false
theorem Cv {x:V} (r:bq y u) (f:gS y=true):eqU x u=eqV y x:=by
 cases y with
 | non=>cases r;rfl
 | bl b=>cases r;rfl
 | int i=>obtain⟨t,rfl⟩:=r;rfl
 | str z=>obtain⟨t,rfl⟩:=r;rfl
 | _=>exact absurd (show false=true from f) jc
theorem mF {x:V} : ∀{xs:List V} {us:List Value},bj xs us->xs.all gS=true->us.any (eqU x)=xs.any λy=>eqV y x
 | _,_,.nil,_=>rfl
 | y :: xs,u :: us,.cons r t,f=>by
  rw[List.all_cons,k_] at f;rw[Kh,Kh,Cv r f.1,mF t f.2]
theorem kb {A:Around} {s:Shared} {x:V} {v:Value} (B:bq x v) (F:gS x=true) : ∀{xs:List V} {us:List Value},bj xs us->xs.all gS=true->∀u∈us,SeqAt.EqAt A s u v (eqU x u)
 | _,_,.nil,_=>λu hu=>by cases hu
 | y :: xs,u :: us,.cons r t,f=>λL hu=>by
  rw[List.all_cons,k_] at f;rcases i6.mp hu with rfl | hu
  .rw[Cv r f.1];exact EG r B f.1 F
  .exact kb B F t f.2 L hu
def inV (x:V) (xs:List V):Bool:=xs.any λy=>eqV y x
def rIn (K:fx) (B:Bool):R2:=λx y H Q=>∃p xs,y = .ref p/\(SqL K H p xs\/SqT K H p xs)/\gS x=true/\xs.all gS=true/\Q (.bl (if B then !inV x xs else inV x xs)) H
theorem rX:OpR X (n6 .In) (rIn X.K false):=by
 intro pins s σ H x y v u Q I Y Z h;obtain⟨p,xs,rfl,B,L,fs,q⟩:=h;cases Z;rcases B with B | B
 .obtain⟨its,r,pl,hz⟩:=I.list B
  refine SeqAt.in_listAt (eqU x) pl.isList (λw F=>kb Y L r fs w (by simpa using F)) ⟨.bl _,H,I,rfl,?_⟩
  rw[show its.toArray.any (eqU x)=its.any (eqU x) by simp,mF r fs]
  exact q
 .obtain⟨its,r,pl,hz⟩:=I.tuple B
  refine SeqAt.in_tupleAt (eqU x) pl (λw F=>kb Y L r fs w (by simpa using F)) ⟨.bl _,H,I,rfl,?_⟩
  rw[show its.toArray.any (eqU x)=its.any (eqU x) by simp,mF r fs]
  exact q
theorem sX:OpR X (n6 .NotIn) (rIn X.K true):=by
 intro pins s σ H x y v u Q I Y Z h;obtain⟨p,xs,rfl,B,L,fs,q⟩:=h;cases Z;rcases B with B | B
 .obtain⟨its,r,pl,hz⟩:=I.list B
  refine SeqAt.notIn_listAt (eqU x) pl.isList (λw F=>kb Y L r fs w (by simpa using F)) ⟨.bl _,H,I,rfl,?_⟩
  rw[show its.toArray.any (eqU x)=its.any (eqU x) by simp,mF r fs]
  exact q
 .obtain⟨its,r,pl,hz⟩:=I.tuple B
  refine SeqAt.notIn_tupleAt (eqU x) pl (λw F=>kb Y L r fs w (by simpa using F)) ⟨.bl _,H,I,rfl,?_⟩
  rw[show its.toArray.any (eqU x)=its.any (eqU x) by simp,mF r fs]
  exact q
theorem lJ:bX X (.builtin "len") (λxs H Q=>∃p ys,xs=[.ref p]/\(SqL X.K H p ys\/SqT X.K H p ys)/\Q (.int ys.length) H):=by
 intro pins s σ H xs us Q I r h;obtain⟨p,ys,rfl,F,q⟩:=h;obtain⟨u,rfl,L⟩:=dv r;cases L;have hn:=oq;rcases F with F | F
 .obtain⟨its,r',pl,hz⟩:=I.list F
  have B:=r'.length;exact Calls.call_len_list pl.isList (by simp only[j6] <;> omega) ⟨.int ys.length,H,I.tok _,⟨s.toks+1,by rw[j6,B]⟩,q⟩
 .obtain⟨its,r',pl,hz⟩:=I.tuple F
  have B:=r'.length;exact len_tuple pl (by simp only[j6] <;> omega) ⟨.int ys.length,H,I.tok _,⟨s.toks+1,by rw[j6,B]⟩,q⟩
theorem uu:bX X (.builtin "len") (λxs H Q=>∃z,xs=[.str z]/\z.length<=ge/\Q (.int z.length) H):=by
 intro pins s σ H xs us Q I r h;obtain⟨z,rfl,B,q⟩:=h;obtain⟨u,rfl,t,rfl⟩:=dv r;have hn:=oq;exact len_str () ⟨.int z.length,H,I.tok _,⟨_,rfl⟩,q⟩
theorem lO:bX X (.type "list") (λxs H Q=>∃p ys,xs=[.ref p]/\(SqL X.K H p ys\/SqT X.K H p ys)/\∀l,H l=none->Q (.ref l) (upd H l (.lst ys))):=by
 intro pins s σ H xs us Q I r h;obtain⟨p,ys,rfl,Y,q⟩:=h;obtain⟨u,rfl,rx⟩:=dv r;cases rx;have aa : ∀(its:List Value),bj ys its->ys.length<=ge->∀(h':Heap) (B:Nat),(∀b o',s.heap.get? b=some o'->h'.get? b=some o') ->
   h'.get? s.heap.objs.size=some { cls:=.type "list",dict:=none,data:=.seq its.toArray B,slots := #[] }->EP X pins σ Q (.ref s.heap.objs.size) { s with heap:=h' }:=λits r' L h' B Z e =>
  ⟨.ref s.heap.objs.size,_,I.laid (t':=s.toks) Z (hH _) (show bA X.prog X.w _ h' _ (.lst ys) from⟨L,its,B,r',e⟩),rfl,q _ (I.hok.fresh (hH _))⟩
 rcases Y with Y | Y
 .obtain⟨its,r',pl,L⟩:=I.list Y
  have F:=r'.length;obtain⟨o,ho,hc,n,hd⟩:=pl.isList;exact call_list_seq p (.inl rfl) ho hc hd (λh' B Z e=>aa its r' L h' B Z e) (by simp only[j6] <;> omega)
 .obtain⟨its,r',pl,L⟩:=I.tuple Y
  have F:=r'.length;obtain⟨o,ho,hc,n,hd⟩:=pl;exact call_list_seq p (.inr rfl) ho hc hd (λh' B Z e=>aa its r' L h' B Z e) (by simp only[j6] <;> omega)
theorem rg:bX X (.type "tuple") (λxs H Q=>∃p ys,xs=[.ref p]/\((SqL X.K H p ys/\∀l,H l=none->Q (.ref l) (upd H l (.tup ys)))\/(SqT X.K H p ys/\Q (.ref p) H))):=by
 intro pins s σ H xs us Q I r h;obtain⟨p,ys,rfl,h⟩:=h;obtain⟨u,rfl,rx⟩:=dv r;cases rx;rcases h with⟨B,q⟩ | ⟨B,q⟩
 .obtain⟨its,r',pl,hz⟩:=I.list B
  have F:=r'.length;refine call_tuple_list pl.isList (λh' Y=>?_) (by simp only[j6] <;> omega)
  have L:Inv X pins σ H { s with heap:=h' }:=I.kept (t':=s.toks) Y
  have Z:Inv X pins σ (upd H h'.objs.size (.tup ys)) { s with heap:=h'.push { cls:=.type "tuple",data:=.seq its.toArray } } :=
   L.laid (t':=s.toks) (λb o e=>d_ _ e) (hH _) (show bA X.prog X.w _ _ _ (.tup ys) from⟨hz,its,r',IsTup.new _ _⟩)
  exact⟨.ref h'.objs.size,_,Z,rfl,q _ (L.hok.fresh (hH _))⟩
 .obtain⟨its,r',pl,hz⟩:=I.tuple B
  exact call_tuple_same pl ⟨.ref p,H,I,rfl,q⟩
def tyV (K:fx) (T:String) (x:V) (H:Hp):Prop:=match x with
 | .str _=>T = "str"
 | .int _=>T = "int"
 | .ref p=>(T = "list"/\∃xs,SqL K H p xs)\/(T = "tuple"/\∃o,K.lookup p=some o/\o.cls = .type "tuple" /\ o.dict=none) \/
   (T = "dict" /\((∃kvs,H p<*kvs)\/∃kvs,H p=some (.dT kvs)))\/(T = "set"/\∃S n,H p=some (.set S n))
 | _=>False
theorem xS {T:String} {x:V} {v:Value} (I:Inv X pins σ H s) (r:bq x v) (ty:tyV X.K T x H) :
  s.TypeIs v T/\∀a,v = .ref a->∃ob,s.heap.get? a=some ob/\ob.dict=none:=by
 cases x with
 | str z =>
  obtain⟨t,rfl⟩:=r;cases (show T = "str" from ty)
  exact⟨typeIs_str s z t,λ_ e=>nomatch e⟩
 | int i =>
  obtain⟨t,rfl⟩:=r;cases (show T = "int" from ty)
  exact⟨typeIs_int s i t,λ_ e=>nomatch e⟩
 | ref p =>
  cases r;rcases ty with⟨rfl,xs,L⟩ | ⟨rfl,o,B,hc,F⟩ | ⟨rfl,B⟩ | ⟨rfl,S,n,B⟩
  .obtain⟨its,_,pl,_⟩:=I.list L
   refine⟨pl.isList.typeIs,λa e=>?_⟩
   cases e;obtain⟨o,n,e,c,F,_⟩:=pl;exact⟨o,e,F⟩
  .refine⟨⟨o,I.kIn p o B,hc⟩,λa e=>?_⟩
   cases e;exact⟨o,I.kIn _ o B,F⟩
  .have z : ∃o,s.heap.get? p=some o/\o.ExactDict:=by
    rcases B with⟨kvs,B⟩ | ⟨kvs,B⟩
    .obtain⟨_,_,_,_,o,_,_,e,ex,_⟩:=I.hok p _ B
     exact⟨o,e,ex⟩
    .obtain⟨_,_,_,_,o,_,_,e,ex,_⟩:=I.hok p _ B
     exact⟨o,e,ex⟩
   obtain⟨o,e,ex⟩:=z;refine⟨⟨o,e,ex.1⟩,λa e2=>?_⟩
   cases e2;exact⟨o,e,ex.2.1⟩
  .obtain⟨o,_,_,_,e,ex,_⟩:=I.hok p _ B
   refine⟨⟨o,e,ex.1⟩,λa e2=>?_⟩
   cases e2;exact⟨o,e,ex.2.1⟩
 | _=>exact D_ ty
variable {o:Expr} {t:TA} {T id:String} {r:V->List V->Hp->VK->Prop}
end
def MtM (X:Cx) (id:String) (r:V->List V->Hp->VK->Prop):Prop :=
 ∀ (pins:List (Addr × Obj)) (s:Shared) (σ:St) (H:Hp) (x:V) (xs:List V) (v:Value) (us:List Value) (Q:VK),Inv X pins σ H s->bq x v->bj xs us->r x xs H Q ->
  wpAny (model X.prog X.w) X.A (call (.builtin id) (v :: us)) (EP X pins σ Q) X.xe s
theorem bj.one : ∀{x:V} {us:List Value},bj [x] us->∃u,us=[u]/\bq x u
 | _,_,.cons r .nil=>⟨_,rfl,r⟩
theorem bj.zero : ∀{us:List Value},bj [] us->us=[]
 | _,.nil=>rfl
theorem bj.dropLast {xs:List V} {us:List Value} (h:bj xs us):bj xs.dropLast us.dropLast:=by
 induction h with
 | nil=>exact .nil
 | cons r t B =>
  cases t with
  | nil=>exact .nil
  | cons q t'=>exact .cons r B
theorem bj.eraseIdx : ∀{xs:List V} {us:List Value} (i:Nat),bj xs us->bj (xs.eraseIdx i) (us.eraseIdx i)
 | _,_,_,.nil=>.nil
 | _,_,0,.cons _ t=>t
 | _,_,i+1,.cons r t=>.cons r (bj.eraseIdx i t)
theorem bj.reverse {xs:List V} {us:List Value} (h:bj xs us):bj xs.reverse us.reverse:=by
 induction h with
 | nil=>exact .nil
 | cons r t B=>rw[List.reverse_cons,List.reverse_cons];exact bj.append B (.cons r .nil)
theorem wZ (l:List α):l.eraseIdx (l.length - 1)=l.dropLast:=by
 induction l with
 | nil=>rfl
 | cons a r B =>
  cases r with
  | nil=>rfl
  | cons b r =>
   have e:(a :: b :: r).length - 1=((b :: r).length - 1)+1:=by
    have h1:(a :: b :: r).length=r.length+2:=rfl
    have h2:(b :: r).length=r.length+1:=rfl
    omega
   rw[e,List.eraseIdx_cons_succ,B]
   all_goals rfl
theorem rS {α:Type} : ∀(l:List α) (i:Nat),(l.eraseIdx i).length<=l.length
 | [],_=>hH _
 | _ :: _,0=>le_succ _
 | _ :: r,i+1=>Nat.succ_le_succ (rS r i)
section
variable {ys:List V}
theorem Inv.lset {its':List Value} {f:Array Value->Array Value} (I:Inv X pins σ H s) (F:H l*>xs)
  (e:s.heap.get? l=some { cls:=.type "list",data:=.seq its.toArray n }) (B:f its.toArray=its'.toArray) (Z:bj ys its') (Y:ys.length<=ge) :
  Inv X pins σ (upd H l (.lst ys)) { s with heap:=s.heap.update l (p8 f),toks:=t' }:=by
 have q:=PySem.IsL.update e f;rw[B] at q;refine I.write (x:=l) (e:=l) (by rw[F];exact trivial) (.inl rfl) (λb' u L hu=>(B_ s.heap (p8 f) (tj L)).trans hu) ⟨_,q⟩ ?_
 exact⟨Y,its',_,Z,q⟩
theorem Inv.lnew (I:Inv X pins σ H s) (F:bj ys its) (B:ys.length<=ge) :
  Inv X pins σ (upd H s.heap.objs.size (.lst ys)) { s with heap:=s.heap.push { cls:=.type "list",data:=.seq its.toArray },toks:=t' } :=
 I.laid (λ_ _ q=>d_ _ q) (hH _) ⟨B,its,0,F,gr _ rfl⟩
theorem Inv.fresh (I:Inv X pins σ H s):H s.heap.objs.size=none:=I.hok.fresh (hH _)
theorem Inv.lstM (I:Inv X pins σ H s) (B:H l*>xs):xs.length<=ge/\∃(its:List Value) (n:Nat),bj xs its/\xs.length=its.length/\s.heap.get? l=some { cls:=.type "list",data:=.seq its.toArray n }:=by
 obtain⟨z,its,n,r,e⟩:=I.hok l _ B;exact⟨z,its,n,r,r.length,e⟩
theorem CA (h:n<=ge):Builtin.List.listTooLong n=false:=by
 unfold Builtin.List.listTooLong;exact decide_eq_false ()
end
def Dr:V->List V->Hp->VK->Prop:=λx vs H Q=>∃l xs y,x = .ref l/\vs=[y]/\H l*>xs/\xs.length < ge/\Q .non (upd H l (.lst (xs++[y])))
theorem sK:MtM X "list.append" Dr:=by
 intro pins s σ H x vs v us Q I Z Y h;obtain⟨l,xs,y,rfl,rfl,B,hz,q⟩:=h;cases Z;obtain⟨u,rfl,L⟩:=Y.one;obtain⟨z,its,n,r,hl,e⟩:=I.lstM B;refine call_meets F.slot_list_append ⟨_,e,rfl⟩ F.entry_list_append (F.args_list_append_2 _ _) (PySem.list_append l its.toArray n u (by rw[j6];omega)) ⟨e,?_⟩
 refine⟨.non,_,I.lset (its':=its++[u]) B e (by simp) (r.append (.cons L .nil)) ?_,rfl,q⟩
 rw[o9,List.length_singleton];omega
def Dk:V->List V->Hp->VK->Prop:=λx vs H Q=>∃l b xs zs,x = .ref l/\vs=[.ref b]/\H l*>xs/\H b*>zs/\xs.length+zs.length<=ge/\Q .non (upd H l (.lst (xs++zs)))
theorem zt:MtM X "list.extend" Dk:=by
 intro pins s σ H x vs v us Q I rx rv h;obtain⟨l,b,xs,zs,rfl,rfl,Y,hB,hz,q⟩:=h;cases rx;obtain⟨u,rfl,ru⟩:=rv.one;cases ru;obtain⟨z,its,n,r,hl,e⟩:=I.lstM Y;obtain⟨z2,B,Z,r2,aa,e2⟩:=I.lstM hB;have hsz:its.toArray.size+B.toArray.size<=ge:=by rw[j6,j6];omega
 have L : ¬ (!its.toArray.isEmpty && Builtin.List.listTooLong (its.toArray.size+B.toArray.size))=true:=by
  rw[CA hsz,Bool.and_false];exact jc
 refine call_meets F.slot_list_extend ⟨_,e,rfl⟩ F.entry_list_extend (F.args_list_extend_2 _ _)
  (AutoSeq1.list_extend_list_list_0 l its.toArray n b B.toArray Z L (by rw[j6];omega) ()) ⟨e,e2,?_⟩
 refine⟨.non,_,I.lset (its':=its++B) Y e (by simp) (r.append r2) ?_,rfl,q⟩
 rw[o9];omega
def IQ:V->List V->Hp->VK->Prop:=λx vs H Q=>∃l xs y,x = .ref l/\vs=[]/\H l*>xs/\xs[xs.length - 1]? = some y/\Q y (upd H l (.lst xs.dropLast))
theorem Gm:MtM X "list.pop" IQ:=by
 intro pins s σ H x vs v us Q I rx rv h;obtain⟨l,xs,y,rfl,rfl,Y,hy,q⟩:=h;cases rx;have L:=rv.zero;subst L;obtain⟨z,its,n,r,hl,e⟩:=I.lstM Y;obtain⟨u,hu,Z⟩:=r.get hy;have B:its.toArray[its.toArray.size - 1]? = some u:=by
  show its.toArray[its.length - 1]? = some u
  rw[<- Array.getElem?_toList,<- hl];exact hu
 refine call_meets F.slot_list_pop ⟨_,e,rfl⟩ F.entry_list_pop (F.args_list_pop_1 _) (MeetsSeq.list_pop_last l its.toArray n u B (by rw[j6];omega)) ⟨e,?_⟩
 refine⟨y,_,I.lset (its':=its.dropLast) Y e ?_ r.dropLast ?_,Z,q⟩
 .show its.toArray.eraseIdxIfInBounds (its.toArray.size - 1)=its.dropLast.toArray
  rw[j6,List.eraseIdxIfInBounds_toArray,wZ]
 .rw[List.length_dropLast]
  omega
def Gw:V->List V->Hp->VK->Prop:=λx vs H Q=>∃l xs i k y,x = .ref l/\vs=[.int i]/\H l*>xs/\-(2 ^ 63)<=i/\i < 2 ^ 63/\seqIndex? i xs.length=some k/\xs[k]? = some y/\Q y (upd H l (.lst (xs.eraseIdx k)))
theorem AF:MtM X "list.pop" Gw:=by
 intro pins s σ H x vs v us Q I rx rv h;obtain⟨l,xs,i,k,y,rfl,rfl,L,h1,h2,Z,hy,q⟩:=h;cases rx;obtain⟨u,rfl,ru⟩:=rv.one;obtain⟨t,rfl⟩:=ru;obtain⟨z,its,n,r,hl,e⟩:=I.lstM L;obtain⟨w,Y,B⟩:=r.get hy;refine call_meets F.slot_list_pop ⟨_,e,rfl⟩ F.entry_list_pop (F.args_list_pop_2 _ _)
  (MeetsSeq.list_pop_at l its.toArray n i t k w (fitsIndex_both h1 h2) (by rw[j6,<- hl];exact Z) (by rw[<- Array.getElem?_toList];exact Y) (by rw[j6];omega)) ⟨e,?_⟩
 refine⟨y,_,I.lset (its':=its.eraseIdx k) L e ?_ (r.eraseIdx k) ?_,B,q⟩
 .show its.toArray.eraseIdxIfInBounds k=(its.eraseIdx k).toArray
  rw[List.eraseIdxIfInBounds_toArray]
 .have:=rS xs k
  omega
def Gp:V->List V->Hp->VK->Prop:=λx vs H Q=>∃l xs,x = .ref l/\vs=[]/\H l*>xs/\Q .non (upd H l (.lst []))
theorem Bx:MtM X "list.clear" Gp:=by
 intro pins s σ H x vs v us Q I Z Y h;obtain⟨l,xs,rfl,rfl,L,q⟩:=h;cases Z;have B:=Y.zero;subst B;obtain⟨z,its,n,r,hl,e⟩:=I.lstM L;refine call_meets F.slot_list_clear ⟨_,e,rfl⟩ F.entry_list_clear (F.args_list_clear_1 _) (AutoSeq1.list_clear_list_0 l its.toArray n (by rw[j6];omega)) ⟨e,?_⟩
 exact⟨.non,_,I.lset (its':=[]) (ys:=[]) L e rfl .nil (x5 _),rfl,q⟩
def Iq:R2:=λx y H Q=>∃l b xs zs,x = .ref l/\y = .ref b/\H l*>xs/\H b*>zs/\xs.length+zs.length<=ge/\∀p,H p=none->Q (.ref p) (upd H p (.lst (xs++zs)))
theorem Gy:OpR X (G2 .Add) Iq:=by
 intro pins s σ H x y v u Q I rx Z h;obtain⟨l,b,xs,zs,rfl,rfl,F,Y,hz,q⟩:=h;cases rx;cases Z;obtain⟨z,its,n,r,hl,e⟩:=I.lstM F;obtain⟨z2,B,n2,r2,aa,e2⟩:=I.lstM Y;refine PySem.P.add_list e e2 ?_ (by rw[j6,j6];omega)
 have L:its.toArray++B.toArray=(its++B).toArray:=by simp
 rw[L];exact⟨.ref _,_,I.lnew (t':=s.toks) (r.append r2) (by rw[o9];omega),rfl,q _ I.fresh⟩
section
variable [DecidableEq κ]
def bQ (kvs:List (κ × V)) (k:κ):Option V:=(kvs.find? λkv=>decide (kv.1=k)).map (·.2)
def bm (kvs:List (κ × V)) (k:κ) (v:V):List (κ × V) :=
 if (kvs.any λkv=>decide (kv.1=k))=true then kvs.map (λkv=>if kv.1=k then(kv.1,v) else kv) else kvs++[(k,v)]
theorem eT {k:κ}:bQ ([]:List (κ × V)) k=none:=rfl
theorem bB {p:κ × V} {r:List (κ × V)} {k:κ} (e:p.1=k):bQ (p :: r) k=some p.2:=by simp[bQ,JO,e]
theorem aW {p:κ × V} {r:List (κ × V)} {k:κ} (e : ¬ p.1=k):bQ (p :: r) k=bQ r k:=by simp[bQ,JO,e]
theorem gF (k:κ) : ∀kvs:List (κ × V),(kvs.any λkv=>decide (kv.1=k))=(bQ kvs k).isSome
 | []=>rfl
 | p :: r=>by
  rw[Kh]
  by_cases e:p.1=k
  .simp only[bB e,decide_eq_true e,Bool.true_or,isSome_some]
  .rw[aW e,decide_eq_false e,Bool.false_or];exact gF k r
theorem wN (k j:κ) (y:V) : ∀kvs:List (κ × V),bQ (kvs.map λkv=>if kv.1=k then(kv.1,y) else kv) j=(bQ kvs j).map λx=>if j=k then y else x
 | []=>rfl
 | p :: r=>by
  have B:=wN k j y r;rw[i9]
  by_cases h:p.1=k
  .rw[if_pos h]
   by_cases e:p.1=j
   .rw[bB (p:=(p.1,y)) e,bB e,Jj,if_pos (e.symm.trans h)]
   .rw[aW (p:=(p.1,y)) e,aW e,B]
  .rw[if_neg h]
   by_cases e:p.1=j
   .rw[bB (p:=p) e,bB e,Jj,if_neg (λz=>h (e.trans z))]
   .rw[aW (p:=p) e,aW e,B]
theorem rW (k j:κ) (y:V) : ∀kvs:List (κ × V),bQ kvs k=none->bQ (kvs++[(k,y)]) j=if j=k then some y else bQ kvs j
 | [],_=>by
  by_cases e:k=j
  .rw[if_pos e.symm];exact bB (p:=(k,y)) e
  .rw[if_neg (λz=>e z.symm)];exact aW (p:=(k,y)) e
 | p :: r,hn=>by
  rw[cons_append];have B : ¬ p.1=k:=λz=>by rw[bB z] at hn;cases hn
  rw[aW B] at hn;have F:=rW k j y r hn
  by_cases e:p.1=j
  .rw[bB e,bB e,if_neg (λz=>B (e.trans z))]
  .rw[aW e,aW e,F]
theorem jV (kvs:List (κ × V)) (k j:κ) (y:V):bQ (bm kvs k y) j=if j=k then some y else bQ kvs j:=by
 unfold bm
 by_cases a:(kvs.any λkv=>decide (kv.1=k))=true
 .rw[if_pos a,wN]
  rw[gF] at a
  by_cases e:j=k
  .obtain⟨x,hx⟩:=Jq.mp a
   rw[if_pos e,e,hx,Jj,if_pos rfl]
  .rw[if_neg e]
   cases bQ kvs j with
   | none=>rfl
   | some x=>rw[Jj,if_neg e]
 .rw[if_neg a]
  refine rW k j y kvs ?_
  rw[gF] at a;cases q:bQ kvs k with
  | none=>rfl
  | some x=>rw[q] at a;exact(a rfl).elim
theorem cQ (kvs:List (κ × V)) (k:κ) (v:V):(bm kvs k v).length<=kvs.length+1:=by
 unfold bm
 split
 .rw[c_];omega
 .rw[o9,u6,length_nil];omega
theorem eV {kvs:List (κ × V)} {k:κ} (v:V) (h:bQ kvs k=none):bm kvs k v=kvs++[(k,v)]:=by
 unfold bm;rw[gF,h];exact if_neg ∅
theorem jk.isSome_eq {o:Option V} {u:Option Value} (r:jk o u):o.isSome=u.isSome:=by
 cases o with
 | none=>cases u with
  | none=>rfl
  | some _=>exact(show False from r).elim
 | some _=>cases u with
  | none=>exact(show False from r).elim
  | some _=>rfl
theorem jk.getD {o:Option V} {u:Option Value} {d:V} {d':Value} (r:jk o u) (B:bq d d'):bq (o.getD d) (u.getD d'):=by
 cases o with
 | none=>cases u with
  | none=>exact B
  | some _=>exact(show False from r).elim
 | some _=>cases u with
  | none=>exact(show False from r).elim
  | some _=>exact r
theorem KV.val {kvs:List (κ × V)} {vs:List (κ × Value)} (r:KV kvs vs) (k:κ):jk (bQ kvs k) (valueAt vs k):=by
 unfold KV at r
 induction r with
 | nil=>exact o6
 | @cons p q ps qs h t ih =>
  obtain⟨h1,h2⟩:=h
  by_cases e:p.1=k
  .have e':q.1=k:=h1.symm.trans e
   have b:valueAt (q :: qs) k=some q.2:=by simp[valueAt,JO,e']
   rw[bB e,b];exact h2
  .have e' : ¬ q.1=k:=λz=>e (h1.trans z)
   have b:valueAt (q :: qs) k=valueAt qs k:=by simp[valueAt,JO,e']
   rw[aW e,b];exact ih
theorem KV.any {kvs:List (κ × V)} {vs:List (κ × Value)} (r:KV kvs vs) (k:κ):(kvs.any λkv=>decide (kv.1=k))=vs.any λkv=>decide (kv.1=k):=by
 unfold KV at r
 induction r with
 | nil=>rfl
 | cons h t B=>rw[Kh,Kh,B,h.1]
theorem KV.repl {kvs:List (κ × V)} {vs:List (κ × Value)} (r:KV kvs vs) (k:κ) {y:V} {u:Value} (B:bq y u) :
  KV (kvs.map λkv=>if kv.1=k then(kv.1,y) else kv) (vs.map λkv=>if kv.1=k then(kv.1,u) else kv):=by
 unfold KV at r ⊢
 induction r with
 | nil=>exact .nil
 | @cons p q ps qs h t ih =>
  rw[i9,i9];refine .cons ?_ ih
  obtain⟨h1,h2⟩:=h
  by_cases e:p.1=k
  .rw[if_pos e,if_pos (h1.symm.trans e)];exact⟨h1,B⟩
  .rw[if_neg e,if_neg (λz=>e (h1.trans z))];exact⟨h1,h2⟩
theorem KV.put {kvs:List (κ × V)} {vs:List (κ × Value)} (r:KV kvs vs) (k:κ) {y:V} {u:Value} (B:bq y u):KV (bm kvs k y) (stored vs k u):=by
 unfold bm stored;rw[r.any k]
 by_cases e:(vs.any λkv=>decide (kv.1=k))=true
 .rw[if_pos e,if_pos e];exact r.repl k B
 .rw[if_neg e,if_neg e];exact Paired.snoc r ⟨rfl,B⟩
theorem KV.keys {kvs:List (κ × V)} {vs:List (κ × Value)} (r:KV kvs vs):kvs.map (·.1)=vs.map (·.1):=by
 unfold KV at r
 induction r with
 | nil=>rfl
 | cons h t B=>rw[i9,i9,B,h.1]
theorem KV.length {kvs:List (κ × V)} {vs:List (κ × Value)} (r:KV kvs vs):kvs.length=vs.length:=Paired.length r
end
theorem oK {k:Key} (r:bq (kV k) u):(bo P w).is k u=true:=by
 cases k with
 | inl i=>obtain⟨t,e⟩:=(show ∃t,u=Value.int i t from r);subst e;exact vt P w i t
 | inr x=>obtain⟨t,e⟩:=(show ∃t,u=Value.str x t from r);subst e;exact uW P w x t
theorem sQ {P:Program} {w:World} : ∀{ks:List Key} {us:List Value},bj (ks.map kV) us->ItemsAre (bo P w) ks us
 | [],_,r=>by rw[map_nil] at r;cases r;exact .nil
 | k :: ks,_,r=>by
  rw[i9] at r;cases r with
  | cons h t=>exact .cons (oK h) (sQ t)
abbrev KT (H:Hp):List (List Key × V)->List (List Key × Addr × Value)->Prop:=Paired λp q=>p.1=q.1/\H q.2.1>>(p.1.map kV)/\bq p.2 q.2.2
theorem KT.val {kvs:List (List Key × V)} {xs:List (List Key × Addr × Value)} (r:KT H kvs xs) (k:List Key):jk (bQ kvs k) ((atKey xs k).map (·.2)):=by
 induction r with
 | nil=>exact o6
 | @cons p q ps qs h t ih =>
  obtain⟨h1,_,h2⟩:=h
  by_cases e:p.1=k
  .have e':q.1=k:=h1.symm.trans e
   have b:atKey (q :: qs) k=some q.2:=by simp[atKey,JO,e']
   rw[bB e,b];exact h2
  .have e' : ¬ q.1=k:=λz=>e (h1.trans z)
   have b:atKey (q :: qs) k=atKey qs k:=by simp[atKey,JO,e']
   rw[aW e,b];exact ih
theorem KT.repl {kvs:List (List Key × V)} {xs:List (List Key × Addr × Value)} (r:KT H kvs xs) (k:List Key) {y:V} {u:Value} (F:bq y u) :
  KT H (kvs.map λkv=>if kv.1=k then(kv.1,y) else kv) (xs.map (putAt k u)):=by
 induction r with
 | nil=>exact .nil
 | @cons p q ps qs h t ih =>
  rw[i9,i9];refine .cons ?_ ih
  obtain⟨h1,h2,B⟩:=h;unfold putAt
  by_cases e:p.1=k
  .rw[if_pos e,if_pos (h1.symm.trans e)];exact⟨h1,h2,F⟩
  .rw[if_neg e,if_neg (λz=>e (h1.trans z))];exact⟨h1,h2,B⟩
theorem KT.put {kvs:List (List Key × V)} {xs:List (List Key × Addr × Value)} (r:KT H kvs xs) (k:List Key) {b:Addr} {y:V} {u:Value} (F:H b>>(k.map kV)) (B:bq y u) :
  KT H (bm kvs k y) (storedH xs k b u):=by
 have e:(kvs.any λkv=>decide (kv.1=k))=(atKey xs k).isSome:=by
  rw[gF,(r.val k).isSome_eq,isSome_map]
 unfold bm storedH;rw[e]
 by_cases q:(atKey xs k).isSome=true
 .rw[if_pos q,if_pos q];exact r.repl k B
 .rw[if_neg q,if_neg q];exact Paired.snoc r ⟨rfl,F,B⟩
theorem KT.keeps {kvs:List (List Key × V)} {xs:List (List Key × Addr × Value)} (r:KT H kvs xs) (B : ∀b ys,H b>>ys->H' b>>ys):KT H' kvs xs :=
 Paired.mapP r λ_ _ z=>⟨z.1,B _ _ z.2.1,z.2.2⟩
theorem Ez {u:HO} (ok:HOk P w H h) (e:Rd H a u):bA P w H h a u:=e.ok ok
theorem oW (ok:HOk P w H h) (e:Rd H a (.dK kvs)):kvs.length<=ge/\(a == G1)=false/\∃vs,KV kvs vs/\h.DictOf (bo P w) a vs :=
 show bA P w H h a (.dK kvs) from Ez ok e
theorem qQ (ok:HOk P w H h) (e:H a<*kvs):kvs.length<=ge/\(a == G1)=false/\∃vs,KV kvs vs/\h.DictOf (bo P w) a vs:=oW ok (.inl e)
theorem nb {ks:List Key} (ok:HOk P w H h) (e:H a>>(ks.map kV)):(Jz (bo P w)).is h ks a:=by
 obtain⟨_,its,r,o,h1,h2,n,B⟩:=(show bA P w H h a (.tup (ks.map kV)) from ok a _ e)
 exact⟨o,its.toArray,n,h1,h2,B,by simpa using sQ r⟩
theorem oQ {kvs:List (List Key × V)} (ok:HOk P w H h) (e:Rd H a (.dT kvs)):kvs.length<=ge/\(a == G1)=false /\
  ∃xs,KT H kvs xs/\h.DictOfH (Jz (bo P w)) a xs:=by
 obtain⟨z,y,xs,r,o,es,L,h1,h2,F,Y,Z⟩:=(show bA P w H h a (.dT kvs) from Ez ok e)
 refine⟨z,y,xs,r,o,es,L,h1,h2,F,Y,λx B=>?_,Z⟩
 have all : ∀{l:List (List Key × V)} {m:List (List Key × Addr × Value)},KT H l m->∀x∈m,(Jz (bo P w)).is h x.1 x.2.1:=by
  intro l m q
  induction q with
  | nil=>intro x B;exact nomatch B
  | @cons p q ps qs hq t ih =>
   intro x B;rcases i6.mp B with e | B
   .subst e
    exact nb ok (by rw[<- hq.1];exact hq.2.1)
   .exact ih x B
 exact all r x B
theorem HD {kvs:List (List Key × V)} (ok:HOk P w H h) (e:H a=some (.dT kvs)):kvs.length<=ge/\(a == G1)=false /\
  ∃xs,KT H kvs xs/\h.DictOfH (Jz (bo P w)) a xs:=oQ ok (.inl e)
def ph (H:Hp) (a:Addr) (y:V) (r:Option V):Prop :=
 (∃kvs k,Rd H a (.dK kvs)/\y=kV k/\r=bQ kvs k)\/∃kvs k b,Rd H a (.dT kvs)/\y = .ref b/\H b>>(k.map kV)/\r=bQ kvs k
def Av (H:Hp) (a:Addr) (y v:V) (H':Hp):Prop :=
 (∃kvs k,H a<*kvs/\y=kV k/\kvs.length < ge/\H'=upd H a (.dK (bm kvs k v))) \/
 ∃kvs k b,H a=some (.dT kvs)/\y = .ref b/\H b>>(k.map kV)/\kvs.length < ge/\H'=upd H a (.dT (bm kvs k v))
theorem ph.t {kvs:List (List Key × V)} {k:List Key} (e:H a=some (.dT kvs)) (B:H b>>(k.map kV)):ph H a (.ref b) (bQ kvs k):=.inr ⟨kvs,k,b,.inl e,rfl,B,rfl⟩
theorem Av.t {kvs:List (List Key × V)} {k:List Key} {v:V} (e:H a=some (.dT kvs)) (B:H b>>(k.map kV)) (hl:kvs.length < ge) :
  Av H a (.ref b) v (upd H a (.dT (bm kvs k v))):=.inr ⟨kvs,k,b,e,rfl,B,hl,rfl⟩
section
variable {v:V} {r:Value} {o:Option V}
theorem Inv.big (I:Inv X pins σ H s):G1 < s.heap.objs.size:=by
 have h:m3 < s.heap.objs.size:=(I.mod.glob.keeps I.bk).lt
 exact lt_trans ∅ h
theorem si (hu:A.units+1 < cLine) (I:Inv X pins σ H s) (g:ph H a y (some v)) (ry:bq y u) (h : ∀L s',Inv X pins σ H s'->bq v L->Q L s') :
  wpAny (model X.prog X.w) A (getItem (.ref a) u) Q E s:=by
 rcases g with⟨kvs,k,e,Y,l⟩ | ⟨kvs,k,b,e,Y,eb,l⟩
 .subst Y
  obtain⟨z,hd,vs,B,dd⟩:=oW I.hok e;obtain⟨L,Z,F⟩:=jk.some_of (v:=v) (o:=valueAt vs k) (by rw[l];exact B.val k)
  exact wpAny_getItem_of (oK ry) dd.mapOf Z (h L _ (I.tok _) F)
 .subst Y
  cases (show u=g9 b from ry)
  obtain⟨z,hd,xs,B,dd⟩:=oQ I.hok e;obtain⟨L,Z,F⟩:=jk.some_of (v:=v) (o:=(atKey xs k).map (·.2)) (by rw[l];exact B.val k)
  obtain⟨p,hp,aa⟩:=Option.map_eq_some_iff.mp Z;refine wpAny_getItem_heap (Je hu) (nb I.hok eb) dd hp ?_
  rw[aa];exact h L _ (I.tok _) F
theorem Ik (hu:A.units+1 < cLine) (I:Inv X pins σ H s) (g:ph H a y o) (Z:bq y u) (h : ∀s',Inv X pins σ H s'->Q (.bool o.isSome) s') :
  wpAny (model X.prog X.w) A (n6 .In u (.ref a)) Q E s:=by
 rcases g with⟨kvs,k,e,F,l⟩ | ⟨kvs,k,b,e,F,eb,l⟩
 .subst F
  obtain⟨z,L,vs,B,Y⟩:=oW I.hok e;refine wpAny_in_of (oK Z) L Y.mapOf ?_
  rw[<- (B.val k).isSome_eq,<- l];exact h _ (I.tok _)
 .subst F
  cases (show u=g9 b from Z)
  obtain⟨z,L,xs,B,Y⟩:=oQ I.hok e;refine wpAny_in_heap (Je hu) (nb I.hok eb) L Y ?_
  have q:=(B.val k).isSome_eq;rw[isSome_map] at q;rw[<- q,<- l];exact h _ (I.tok _)
theorem DQ (hu:A.units+1 < cLine) (I:Inv X pins σ H s) (g:ph H a y o) (Z:bq y u) (h : ∀s',Inv X pins σ H s'->Q (.bool (!o.isSome)) s') :
  wpAny (model X.prog X.w) A (n6 .NotIn u (.ref a)) Q E s:=by
 rcases g with⟨kvs,k,e,F,l⟩ | ⟨kvs,k,b,e,F,eb,l⟩
 .subst F
  obtain⟨z,L,vs,B,Y⟩:=oW I.hok e;refine wpAny_notIn_of (oK Z) L Y.mapOf ?_
  rw[<- (B.val k).isSome_eq,<- l];exact h _ (I.tok _)
 .subst F
  cases (show u=g9 b from Z)
  obtain⟨z,L,xs,B,Y⟩:=oQ I.hok e;refine wpAny_notIn_heap (Je hu) (nb I.hok eb) L Y ?_
  have q:=(B.val k).isSome_eq;rw[isSome_map] at q;rw[<- q,<- l];exact h _ (I.tok _)
theorem pO {ob:HO} (I:Inv X pins σ H s) (B:Mut (H a)) (L:J9 a s.heap h') (Y : ∃q,h'.get? a=some q) (new:bA X.prog X.w (upd H a ob) h' a ob) :
  Inv X pins σ (upd H a ob) { s with heap:=h',toks:=t' } :=
 I.write (x:=a) (e:=a) B (.inl rfl) (λb q F z=>(L.2 b F).trans z) Y new
theorem BX {vs:List (Key × Value)} (z:kvs.length<=ge) (F:(a == G1)=false) (B:KV kvs vs) (L:h'.DictOf (bo P w) a vs) :
  bA P w H' h' a (.dK kvs):=⟨z,F,vs,B,L⟩
theorem sW {Q:Unit->Shared->Prop} (hu:A.units+1 < cLine) (I:Inv X pins σ H s) (g:Av H a y v H') (ry:bq y u) (rv:bq v r) (h : ∀s',Inv X pins σ H' s'->Q Unit.unit s') :
  wpAny (model X.prog X.w) A (setItem (.ref a) u r) Q E s:=by
 rcases g with⟨kvs,k,e,Y,l,eH⟩ | ⟨kvs,k,b,e,Y,eb,l,eH⟩
 .subst Y eH
  obtain⟨z,hd,vs,B,dd⟩:=qQ I.hok e;have Z:vs.length<=ge:=by rw[<- B.length];exact z
  have hl:(bm kvs k v).length<=ge:=by have:=cQ kvs k v;omega
  refine wpAny_setItem_pairs (hsz:=Z) (oK ry) dd λh' F hs=>h _ ?_
  have he : ∃q,h'.get? a=some q:=let ⟨q,_,_,L,_⟩:=F;⟨q,L⟩
  exact pO I (by rw[e];exact o6) hs he (BX hl hd (B.put k rv) F)
 .subst Y eH
  cases (show u=g9 b from ry)
  obtain⟨z,hd,xs,B,dd⟩:=HD I.hok e;have Z:xs.length<=ge:=by rw[<- Paired.length B];exact z
  have hl:(bm kvs k v).length<=ge:=by have:=cQ kvs k v;omega
  refine wpAny_setItem_heap (hsz:=Z) (Je hu) (nb I.hok eb) dd λh' F hs=>h _ ?_
  obtain⟨q,es,ep,L,h2,h3,h4,_,h5⟩:=F;refine pO I (by rw[e];exact o6) hs ⟨q,L⟩ ⟨hl,hd,_,(B.put k eb rv).keeps λc ys ec=>?_,q,es,ep,L,h2,h3,h4,h5⟩
  rw[ah (aU ec e (λz=>nomatch z))]
  exact ec
end
section
variable {k:Key}
theorem GU (I:Inv X pins σ H s) (e:Rd H a (.dK kvs)) (h : ∀t s',Inv X pins σ H s'->Q (.int kvs.length t) s'):wpAny (model X.prog X.w) A (call (.builtin "len") [.ref a]) Q E s:=by
 obtain⟨z,F,vs,B,L⟩:=oW I.hok e;refine call_len_dict F L (by rw[<- B.length];rw[Ja] at z;omega) ?_
 rw[<- B.length];exact h _ _ (I.tok _)
end
def FU (i:Expr):Prop:=∀F B,subscripted i false F B=operate [F,B] (getItem F B)
theorem yu {B:Expr} {T id:String}
  (hl:G3 (.type T) "__getitem__" = pure (some (.builtin id))) (hs:FU B)
  (h:wpAny (model prog w) A (eval value env) (λo s₁=>wpAny (model prog w) A (eval B env) (λi F=>F.TypeIs o T/\wpAny (model prog w) A (getItem o i) Q E F) E s₁) E s) :
  wpAny (model prog w) A (eval (.Subscript value B pos) env) Q E s:=by
 refine Subscript_ (y2 h (λo s₁ aa=>y2 aa (λi F L=>?_) λ_ _ x=>x) λ_ _ x=>x)
 obtain⟨hT,L⟩:=L;unfold subscriptTail;refine a_ ?_
 rw[getitemInPython_of_ne hT.not_modules];refine a_ (y3 hT hl ?_)
 have Z:wpAny (model prog w) A (subscripted B false o i) (λr Y=>wpAny (model prog w) A (letTemporaryGo value o r >>= λ_=>pure r) Q E Y) E F:=by
  rw[hs o i];exact wpAny_operating (y2 L (λr Y ab=>a_ (wpAny_letTemporaryGo (e7 ab))) λ_ _ x=>x)
 first
  | exact e7 (a_ Z)
  | exact a_ (e7 (a_ Z))
  | exact a_ Z
theorem oF {o:Option V} (I:Inv X pins σ H s) (g:ph H a y o):s.TypeIs (.ref a) "dict" := by
 rcases g with⟨kvs,k,e,_,_⟩ | ⟨kvs,k,b,e,_,_,_⟩
 .obtain⟨_,_,vs,_,dd⟩:=oW I.hok e
  exact dd.typeIs
 .obtain⟨_,_,xs,_,dd⟩:=oQ I.hok e
  exact dd.typeIs
def Ey (td ty tv:TE):TS:=λD σ H=>tv σ H λv H1=>td σ H1 λx H2=>ty σ H2 λy F=>∃a B,x = .ref a/\Av F a y v B/\D.nx σ B
section
variable {o i:Expr} {tpos:Pos}
theorem Ds (hu:X.A.units+1 < cLine) (ho:PE X o td) (hi:PE X i ty) (hv:PE X value tv) (Z:KA value (some (.Subscript o i pos')) pos.line X.env=pure false) :
  PS X (.Assign [.Subscript o i pos'] value pos) (Ey td ty tv):=by
 intro pins s σ H D I h;refine wpAny_Assign_Subscript (thn (hv pins s σ H _ I h) λr s1 ⟨v,H1,I1,rv,q1⟩=>thn (ho pins s1 σ H1 _ I1 q1) λu F ⟨x,H2,I2,rx,q2⟩=>thn (hi pins F σ H2 _ I2 q2) λiv s3 B=>?_) Z
 obtain⟨y,H3,I3,ry,a,H4,ex,g,Y⟩:=B;subst ex;obtain rfl:u=g9 a:=rx
 exact sW hu I3 g ry rv λs4 L=>⟨σ,H4,L,Y⟩
end
theorem vA (h:Heap) (B:G1 < h.objs.size):bA P w H (h.push { cls:=.type "dict",data:=.dict #[] }) h.objs.size (.dK []) :=
 ⟨x5 _,beq_eq_false_iff_ne.mpr (tj (j_ B)),[],.nil,Heap.DictOf.new h⟩
theorem Bw (h:Heap) (B:G1 < h.objs.size):bA P w H (h.push { cls:=.type "dict",data:=.dict #[] }) h.objs.size (.dT []) :=
 ⟨x5 _,beq_eq_false_iff_ne.mpr (tj (j_ B)),[],.nil,_,#[],0,gr _ rfl,⟨rfl,rfl,rfl⟩,rfl,rfl,List.nodup_nil⟩
def tK:TE:=λ_ H Q=>∀p,H p=none->Q (.ref p) (upd H p (.dK []))
def Ci:TE:=λ_ H Q=>∀p,H p=none->Q (.ref p) (upd H p (.dT []))
theorem fF:PE X (.Dict [] [] pos) tK:=λpins s σ H Q I h =>
 wpAny_Dict_empty ⟨.ref s.heap.objs.size,_,I.laid (a:=s.heap.objs.size) (o:=.dK []) (t':=s.toks) (λ_ _ q=>d_ _ q) (hH _) (vA s.heap I.big),rfl,h _ (I.hok.fresh (hH _))⟩
theorem A0:PE X (.Dict [] [] pos) Ci:=λpins s σ H Q I h =>
 wpAny_Dict_empty ⟨.ref s.heap.objs.size,_,I.laid (a:=s.heap.objs.size) (o:=.dT []) (t':=s.toks) (λ_ _ q=>d_ _ q) (hH _) (Bw s.heap I.big),rfl,h _ (I.hok.fresh (hH _))⟩
def qf:List (TE × TE)->St->Hp->(List (V × V)->Hp->Prop)->Prop
 | [],_,H,Q=>Q [] H
 | (tk,tv) :: r,σ,H,Q=>tk σ H λx H1=>tv σ H1 λy H2=>qf r σ H2 λps B=>Q ((x,y) :: ps) B
abbrev VV:List (V × V)->List (Value × Value)->Prop:=Paired λp q=>bq p.1 q.1/\bq p.2 q.2
def PPs (X:Cx) (pos:Pos) (keys:List (Option Expr)) (values:List Expr) (trs:List (TE × TE)):Prop :=
 ∀ (pins:List (Addr × Obj)) (s:Shared) (σ:St) (H:Hp) (Q:List (V × V)->Hp->Prop),Inv X pins σ H s->qf trs σ H Q ->
  wpAny (model X.prog X.w) X.A (evalPairs (pairTrees keys values X.env pos)) (λvs s'=>∃ps H',Inv X pins σ H' s'/\VV ps vs/\Q ps H') X.xe s
theorem tG:PPs X pos [] [] []:=λpins s σ H Q I h=>pairTrees_nil_walk ⟨[],H,I,.nil,h⟩
theorem io {k v:Expr} {ks:List (Option Expr)} {vs:List Expr} {tk:TE} (hk:PE X k tk) (Z:PE X v tv) (hr:PPs X pos ks vs trs) :
  PPs X pos (some k :: ks) (v :: vs) ((tk,tv) :: trs):=λpins s σ H Q I h =>
 pairTrees_cons_walk (thn (hk pins s σ H _ I h) λu s1 ⟨x,H1,I1,rx,q1⟩=>thn (Z pins s1 σ H1 _ I1 q1) λw2 L ⟨y,H2,I2,ry,q2⟩ =>
  thn (hr pins L σ H2 _ I2 q2) λws s3 F=>by obtain⟨ps,H3,I3,B,Y⟩:=F;exact(⟨(x,y) :: ps,H3,I3,.cons ⟨rx,ry⟩ B,Y⟩))
def eJ (kvs B:List (Key × V)):List (Key × V):=B.foldl (λF kv=>bm F kv.1 kv.2) kvs
theorem KV.merge : ∀{B:List (Key × V)} {F:List (Key × Value)} {kvs:List (Key × V)} {vs:List (Key × Value)},KV B F->KV kvs vs->KV (eJ kvs B) (merged vs F):=by
 intro B F kvs vs r;unfold KV at r
 induction r generalizing kvs vs with
 | nil=>intro q;exact q
 | @cons p q ps qs h t ih =>
  intro L;have e:KV (bm kvs p.1 p.2) (stored vs q.1 q.2):=by
   have:=L.put p.1 h.2
   rw[<- h.1];exact this
  exact ih e
theorem hZ : ∀(B kvs:List (Key × V)),(eJ kvs B).length<=kvs.length+B.length
 | [],kvs=>by show kvs.length<=kvs.length+0;omega
 | p :: r,kvs=>by
  have h1:=hZ r (bm kvs p.1 p.2);have h2:=cQ kvs p.1 p.2
  show(eJ (bm kvs p.1 p.2) r).length<=_
  rw[u6];omega
theorem qR {P:Program} {w:World} : ∀{kvs:List (Key × V)} {ws:List (Value × Value)},VV (kvs.map λkv=>(kV kv.1,kv.2)) ws->∃B,Carries (bo P w) ws B/\KV kvs B
 | [],_,r=>by rw[map_nil] at r;cases r;exact⟨[],o6,.nil⟩
 | p :: kvs,_,r=>by
  rw[i9] at r;cases r with
  | @cons a b as bs h t =>
   obtain⟨B,c,q⟩:=qR (P:=P) (w:=w) t;obtain⟨L,F⟩:=b;exact⟨(p.1,F) :: B,⟨oK h.1,rfl,c⟩,.cons ⟨rfl,h.2⟩ q⟩
def AC (trs:List (TE × TE)):TE:=λσ H Q=>∀p,H p=none->qf trs σ (upd H p (.dK [])) λps H2=>H2 p<*[]/\∃kvs:List (Key × V),ps=kvs.map (λkv=>(kV kv.1,kv.2))/\kvs.length<=15/\Q (.ref p) (upd H2 p (.dK (eJ [] kvs)))
theorem tN {keys:List (Option Expr)} (h:PPs X pos keys values trs) (L:keys.all (·.isSome)=true) (hl:keys.length=values.length) (h0:keys≠[])
  (Z:keys.length<=15):PE X (.Dict keys values pos) (AC trs):=by
 intro pins s σ H Q I q;have hn:=I.hok.fresh (hH s.heap.objs.size);have I1:=I.laid (a:=s.heap.objs.size) (o:=.dK []) (h':=s.heap.push { cls:=.type "dict",data:=.dict #[] }) (t':=s.toks) (λ_ _ q=>d_ _ q) (hH _) (vA s.heap I.big)
 refine wpAny_Dict_walk (knd:=bo X.prog X.w) L hl h0 Z (thn (h pins _ σ _ _ I1 (q _ hn)) λws s2 B=>?_)
 obtain⟨ps,H2,I2,Y,e,kvs,ep,lk,q2⟩:=B;subst ep;obtain⟨rs,c,rk⟩:=qR (P:=X.prog) (w:=X.w) Y;obtain⟨z,hd,aa,r0,dd⟩:=qQ I2.hok e;cases r0;refine⟨rs,c,dd,λh' F hs=>⟨.ref s.heap.objs.size,_,?_,rfl,q2⟩⟩
 have hz:(eJ [] kvs).length<=ge:=by
  have h1:=hZ kvs [];rw[length_nil] at h1;rw[Ja];omega
 have he : ∃q,h'.get? s.heap.objs.size=some q:=let ⟨q,_,_,hq,_⟩:=F;⟨q,hq⟩
 exact pO I2 (by rw[e];exact o6) hs he (BX hz hd (rk.merge .nil) F)
structure M1 (X:Cx) (o:Expr) (m:Str) (apos:Pos) (e:Expr) (cpos:Pos):Prop where
 base:JN o m X.env (eval o X.env)=eval o X.env
 few:((A_ cpos (j9 [e] X.env)).all (λx=>!x.1) && (backToKw cpos (keywordEach [] X.env)).all (λx=>x.1.isSome)
  && decide (([e]:List Expr).length+([]:List Keyword).length+(if ([]:List Keyword).isEmpty then 0 else 1) < 30))=true
 line:(apos.endLine == cpos.line)=true
 trees:A_ cpos (j9 [e] X.env)=[(false,eval e X.env)]
def IsD (H:Hp) (a:Addr):Prop:=(∃kvs,Rd H a (.dK kvs))\/∃kvs,Rd H a (.dT kvs)
theorem FT (I:Inv X pins σ H s) (d:IsD H a) :
  s.TypeIs (.ref a) "dict" /\(∀b,g9 a = .ref b->∃ob,s.heap.get? b=some ob/\ob.dict=none)/\(a == G1)=false:=by
 rcases d with⟨kvs,e⟩ | ⟨kvs,e⟩
 .obtain⟨_,hd,vs,_,dd⟩:=oW I.hok e
  refine⟨dd.typeIs,λb q=>?_,hd⟩
  cases q;obtain⟨ob,_,_,h1,h2,_⟩:=dd;exact⟨ob,h1,h2.2.1⟩
 .obtain⟨_,hd,xs,_,dd⟩:=oQ I.hok e
  refine⟨dd.typeIs,λb q=>?_,hd⟩
  cases q;obtain⟨ob,_,_,h1,h2,_⟩:=dd;exact⟨ob,h1,h2.2.1⟩
section
variable {d:V} {r:Value} {o:Option V}
theorem Gr (hu:A.units+1 < cLine) (I:Inv X pins σ H s) (g:ph H a y o) (ry:bq y u) (h : ∀w' s',Inv X pins σ H s'->bq (o.getD .non) w'->Q w' s') :
  wpAny (model X.prog X.w) A (call (.builtin "dict.get") [.ref a,u]) Q E s:=by
 rcases g with⟨kvs,k,e,Y,l⟩ | ⟨kvs,k,b,e,Y,eb,l⟩
 .subst Y
  obtain⟨z,Z,vs,B,L⟩:=oW I.hok e;refine call_meetsIn Ka L.typeIs PySem.F.entry_dict_get (PySem.F.args_dict_get_2 _ _) (meets_dict_get (bo X.prog X.w) a (oK ry) Z) ⟨_,L.mapOf,h _ _ (I.tok _) ?_⟩
  rw[l];exact(B.val k).getD rfl
 .subst Y
  cases (show u=g9 b from ry)
  obtain⟨z,Z,xs,B,L⟩:=oQ I.hok e;refine call_meetsIn Ka L.typeIs PySem.F.entry_dict_get (PySem.F.args_dict_get_2 _ _) (meetsH_dict_get (Jz (bo X.prog X.w)) a b Z) ⟨Je hu,k,xs,nb I.hok eb,L,h _ _ (I.tok _) ?_⟩
  rw[l];exact(B.val k).getD rfl
end
end L2
namespace Att
open PySem PySem.W PySem.Calls PyProof.Rows
theorem pE {P:Params} : ∀(ns:List Int) (vs:List Value),WellAll P h vs (ns.map WData.int)->IntsAre vs ns:=by
 intro ns
 induction ns with
 | nil =>
  intro vs w;rw[map_nil] at w;cases w;exact .nil
 | cons n ns B =>
  intro vs w;rw[i9] at w;cases w with
  | cons a b =>
   cases a;exact .cons _ _ (B _ b)
theorem As {l:OpenLaw} (hn:l.most=some n) {P:Params} {h:Heap} {args:List WData} {F:List Value}
  (B:l.row.toRowW.claim.pre args=true) (aa:WellAll P h F args) :
  ∃a vs ns,F=[g9 a]/\args=[WData.list (ns.map WData.int)]/\h.get? a=some { cls:=.type "list",data:=.seq vs.toArray }/\IntsAre vs ns/\ns.length<=n:=by
 have ab:WShape.hasAll [] args [.list .int]=true:=(pre_splitW B).1
 have hc:l.pre.holds [] { args:=args }=true:=(pre_splitW B).2
 obtain⟨d,r,rfl,h1,h2⟩:=hasAllW_cons ab;obtain rfl:=hasAllW_nil h2
 obtain⟨xs,rfl,h3⟩:=hasW_list h1;obtain⟨ns,rfl⟩:=items_int h3;have L:ns.length<=n:=by
  unfold OpenLaw.pre at hc;have Z:(WTm.not (.lt (.lit (.int (n:Int))) (.len (.arg 0)))).holds [] { args:=[.list (ns.map .int)] }=true:=by
   have Z:=(holds_andW hc).1;rw[hn] at Z;exact Z
  have h5:=condW_of Z (w_not (w_lt w_lit (w_len_list (w_arg rfl))));rw[c_] at h5;refine Nat.le_of_not_lt λq=>?_
  have q':(n:Int) < ((ns.length:Nat):Int):=()
  first
   | (rw[decide_eq_true q'] at h5;exact absurd h5 ∅)
   | (simp at h5;omega)
 cases aa with
 | cons w1 w2 =>
  cases w2;cases w1 with
  | list ho Y=>exact⟨_,_,ns,rfl,rfl,ho,pE ns _ Y,L⟩
theorem Ae (l:OpenLaw) (args:List WData):l.row.toRowW.claim.post args (.bool true) args=true :=
 postW_of (r:=l.row.toRowW) (X:=(true == true))
  (show WShape.has [] (.bool true) .bool=true by first | rfl | decide | simp[WShape.has,WShape.arms,WShape.armsAll])
  (show(WTm.eq .res (.lit (.bool true))).value [] { args:=args,res:=some (.bool true),after:=args }=some (.bool (true == true)) from w_eq_bool (w_res rfl) w_lit) rfl
theorem attach_call {l:OpenLaw} {q:Program} {d:DefRec}
  (hn:l.most=some n) (ad:d.params.defaults=[])
  (call : ∀(w:World) (B s₁:Shared) (mg mb:Str->Option Value) (fa:Addr) (o:Obj) (pm cd doc:Value) (a:Addr) (vs:List Value) (ns:List Int),
   Ground q loose [] XP w B mg mb s₁.heap->YP w s₁.heap ->
   s₁.heap.get? fa=some o->o.data = .func (docDef d.name d.params d.body d.scope pm cd doc)->s₁.heap.CodeRec cd d.name->mg d.name=some (.ref fa) ->
   s₁.heap.get? a=some { cls:=.type "list",data:=.seq vs.toArray }->IntsAre vs ns->ns.length<=n->s₁.gens = #[] ->
   JA (model l.prog w) callerA (.call (.ref fa) ⟨[.ref a],[]⟩) (λr s'=>r = .ok (.ret (.bool true))/\OldK s₁.heap s'.heap/\s'.os=s₁.os/\AllBare s'.gens) s₁) :
  WalkO q loose XP YP l.row.toRowW d [] (λf vs=>PySem.call f vs):=by
 intro w B s₁ mg mb G Y fa o pm cd doc dV kV ho hd af hD ac hg args ah as aa ag aj ab ai;obtain rfl:dV = .none:=Dflts.none hD ad
 obtain rfl:kV = .none:=Dflts.noKw hD
 obtain⟨a,vs,ns,rfl,rfl,L,F,Z⟩:=As hn aa ab;refine enter_call (codeAny_mono (call w B s₁ mg mb fa o pm cd doc a vs ns G Y ho (fd_plain hd) af ac L F Z hg) λr s' hq=>?_)
 obtain⟨rfl,h2,h3,h4⟩:=hq;exact⟨.inl ⟨.bool true,.bool true,[],rfl,λ_=>rfl,.bool true,Ae l _,λ_=>⟨List.Pairwise.nil,λ_ hm=>(nomatch hm)⟩⟩,h2,h3,h4⟩
end Att
namespace L2
open PySem PySem.Spec PyProof.Rows
theorem sJ : ∀{vs:List Value} {ns:List Int},IntsAre vs ns->bj (ns.map V.int) vs
 | _,_,.nil=>.nil
 | _,_,.cons n t h=>.cons ⟨t,rfl⟩ (sJ h)
def EZ (H:Hp):Prop:=∀b,H b=none\/∃o xs,H b=some (.frz o (.lst xs))
theorem Ce {vs:List Value}
  (KX:K.In s₁.heap) (ac:s₁.heap.Ns m3 mg) (L:s₁.heap.Ns builtinsNs mb) (aj : ∀x:Str,x ≠ "__name__" -> mb x=y6 x) (ah:s₁.heap.NoLimit) (hg:s₁.gens = #[])
  (ha:s₁.heap.get? a=some { cls:=.type "list",data:=.seq vs.toArray }) (hi:IntsAre vs ns) (hl:ns.length<=ge) (hr:di k callerA)
  (F : ∀base:Heap,K.In base->base.Ns m3 mg->ll P w K mg base CX k fa fd [x] sp) (aa : ∀(s:Shared) (u:Value),BindsTo s fd ⟨[u],[]⟩ [(x,u)])
  (ak : ∀H:Hp,EZ H->SqL K H a (ns.map V.int)->sp [.ref a] H (λv _=>v = .bl true) λ_ _ _=>False)
  (an : ∀H e s',CX [] H s₁ (λ_ _ _=>False) e s'->False) :
  JA (model P w) callerA (.call (.ref fa) ⟨[.ref a],[]⟩) (λr s'=>r = .ok (.ret (.bool true))/\OldK s₁.heap s'.heap/\s'.os=s₁.os/\AllBare s'.gens) s₁:=by
 have rv:=sJ hi;have ad:=hi.length;have Z : ∀H:Hp,EZ H->SqL K H a (ns.map V.int)->HOk P w H s₁.heap->(∀b,H b≠none->b=a)->(H a≠none->K.lookup a=none) ->
   JA (model P w) callerA (.call (.ref fa) ⟨[.ref a],[]⟩) (λr s'=>r = .ok (.ret (.bool true))/\OldK s₁.heap s'.heap/\s'.os=s₁.os/\AllBare s'.gens) s₁:=by
  intro H hO hS af hA hK;have B : ∀{b:Addr} {o:Obj},s₁.heap.get? b=some o->H b=none->(tS s₁.heap H).get? b=some o:=λe n=>BP e n
  have am : ∀{b:Addr} {o:Obj} {es:Array DictEntry} {ep:Nat},s₁.heap.get? b=some o->o.data = .dict es ep->H b=none:=λ{b o es ep} e d=>by
   cases q:H b with
   | none=>rfl
   | some u =>
    have e':b=a:=hA b (by rw[q];simp)
    subst e';rw[ha] at e;cases e;have d':Data.seq vs.toArray _=Data.dict es ep:=d
    cases d'
  have Y : ∀{b:Addr} {m:Str->Option Value},s₁.heap.Ns b m->(tS s₁.heap H).Ns b m:=λ{b m} zq8=>by obtain⟨o,es,ep,e,d,r⟩:=zq8;exact(⟨o,es,ep,B e (am e d),d,r⟩)
  have ai:K.In (tS s₁.heap H):=λb o e=>B (KX b o e) (by
   cases q:H b with
   | none=>rfl
   | some u =>
    have e':b=a:=hA b (by rw[q];simp)
    subst e';rw[hK (by rw[q];simp)] at e;cases e)
  have hM:Mod K mg (tS s₁.heap H):=⟨ai,Y ac,⟨mb,Y L,aj⟩,let ⟨mc,h1,h2⟩:=ah;⟨mc,Y h1,h2⟩⟩
  have e0:xD P w K mg (tS s₁.heap H) callerA [] s₁ H:=⟨rfl,hM,λb o e=>DC e,Ji (Ar _ _),trivial,λb L=>absurd (show b∈([]:List Addr) from L) (by simp),af,.of_eq hg⟩
  refine codeAny_mono ((F _ ai (Y ac)).run callerA [] s₁ H ⟨[.ref a],[]⟩ [.ref a] [.ref a] _ _ hr e0 (aa s₁ (.ref a)) (.cons rfl .nil) (ak H hO hS)) λr s' h=>?_
  cases r with
  | error e=>exact(an H e s' h).elim
  | ok fl =>
   cases fl with
   | next=>exact D_ h
   | brk=>exact D_ h
   | cont=>exact D_ h
   | ret u =>
    obtain⟨v,H',os,ab,un,ag,r',q⟩:=h;have q':v = .bl true:=q
    subst q';obtain rfl:u=JR true:=r'
    refine⟨rfl,OldK.of_keep λb o e=>?_,os,ab⟩
    cases q:H b with
    | none=>exact un.keep b o e q (by intro z;exact absurd (show b∈([]:List Addr) from z) (by simp)) (by simp)
    | some u =>
     rcases hO b with z | ⟨ob,xs,z⟩
     .rw[q] at z;cases z
     .have z2:=un.frzs b ob _ z
      obtain⟨e1,_⟩:=af b _ z;obtain⟨e2,_⟩:=ag b _ z2;rw[e] at e1;cases e1;exact e2
 cases hk:K.lookup a with
 | some o =>
  have e:=KX a o hk;rw[ha] at e;cases e;refine Z (λ_=>none) (λ_=>.inl rfl) (.inr ⟨_,vs.toArray,_,hk,rfl,rfl,rfl,by rw[j6,ad];exact hl,by simpa using rv⟩) (λb u z=>by have z':(none:Option HO)=some u:=z;cases z') (λb z=>absurd rfl z) λz=>absurd rfl z
 | none =>
  refine Z (λb=>if b=a then some (.frz { cls:=.type "list",data:=.seq vs.toArray } (.lst (ns.map V.int))) else none) (λb=>?_) (.inl (.inr ⟨{ cls:=.type "list",data:=.seq vs.toArray },if_pos rfl⟩)) (λb u z=>?_) (λb z=>?_) λ_=>hk
  .by_cases L:b=a
   .exact .inr ⟨_,_,if_pos L⟩
   .exact .inl (if_neg L)
  .by_cases L:b=a
   .have z':=(if_pos L).symm.trans z
    cases z';subst L;exact⟨ha,by rw[c_];exact hl,vs,_,rv,ha⟩
   .have z':=(if_neg L).symm.trans z
    cases z'
  .by_cases L:b=a
   .exact L
   .exact absurd (if_neg L) z
theorem En {l:PySem.W.OpenLaw} {q:Program} {d:DefRec} {K:Params->fx} {CX:World->CXT} {sp:World->Sp}
  (hn:l.most=some n) (ab:n<=ge) (af:d.params.defaults=[]) (hr:di k callerA)
  (hY : ∀(w:World) (h:Heap),YP w h->(K w.params).In h)
  (F : ∀(w:World) (mg:Str->Option Value) (fa:Addr) (h:Heap),(K w.params).In h->h.Ns m3 mg->mg d.name=some (.ref fa) ->
   ∃ fd:FuncData,(∀(s:Shared) (u:Value),BindsTo s fd ⟨[u],[]⟩ [(x,u)]) /\
    ∀base:Heap,(K w.params).In base->base.Ns m3 mg->ll l.prog w (K w.params) mg base (CX w) k fa fd [x] (sp w))
  (aa : ∀(w:World) (H:Hp) (a:Addr) (ns:List Int),ns.length<=n->EZ H->SqL (K w.params) H a (ns.map V.int)->sp w [.ref a] H (λv _=>v = .bl true) λ_ _ _=>False)
  (ad : ∀(w:World) (H:Hp) (s:Shared) (e:Value) (s':Shared),CX w [] H s (λ_ _ _=>False) e s'->False) :
  PySem.W.WalkO q loose XP YP l.row.toRowW d [] (λf vs=>PySem.call f vs):=by
 refine Att.attach_call hn af λw ag s₁ mg mb fa o pm cd doc a vs ns G Y ho hd ah ac Z L B hg=>?_
 have KX:=hY w _ Y;obtain⟨fd,hb,hF⟩:=F w mg fa _ KX G.T.g ac;exact Ce KX G.T.g G.T.b G.T.builtins G.T.nolimit hg Z L (gt B ab) hr hF hb (λH hO hS=>aa w H a ns B hO hS) λH e s'=>ad w H s₁ e s'
def bf (s:Stmt) (j:Nat):Stmt:=match s with
 | .ClassDef _ _ _ body _ _ _ _ _ _ _=>body.getD j (.Pass ⟨0,0,0,0⟩)
 | _=>.Pass ⟨0,0,0,0⟩
def cU (s:Stmt):Arguments:=match s with
 | .FunctionDef _ a _ _ _ _ _ _ _ _=>a
 | _=>{ posonlyargs:=[],args:=[],vararg:=none,kwonlyargs:=[],kw_defaults:=[],kwarg:=none,defaults:=[] }
def cB (s:Stmt):List Stmt:=match s with
 | .FunctionDef _ _ b _ _ _ _ _ _ _=>b
 | _=>[]
def ak (s:Stmt):Scope:=match s with
 | .FunctionDef _ _ _ _ _ _ sc _ _ _=>sc
 | _=>{ kind:=.function,names:=[],isGenerator:=false,isCoroutine:=false }
abbrev CX0:CXT:=λ_ _ _ _ _ _=>False
abbrev E0:XK:=λ_ _ _=>False
theorem qg:ux CX0 X E0:=λ_ _ _ _ _ _ _ h=>h.elim
structure Fun (K:fx) (x qual:Str) (st:Stmt) (f:Addr) (fd:FuncData):Prop where
 ex : ∃(oc:Value) (od:Option Addr) (kV doc pm:Value) (an:Option Addr) (cdv ct:Value) (osl:Array (Option Value)),
  fd=fnOf x qual (cU st) (cB st) (ak st) .none kV doc pm an cdv ct/\K.lookup f=some ⟨oc,od,.func fd,osl⟩/\codeIn K cdv qual=true
 kp:J6 K (.ref f)=true
section
variable {P:Program} {w:World} {K:fx} {mg:Str->Option Value} {base:Heap}
theorem Fun.ok (F:Fun K x qual st f fd) (S:aA N ps (ak st)) (Y : ∀vs H Q E,sp vs H Q E->vs.length=ps.length)
  (B : ∀(cdv:Value) (A:Around) (outer:List Env) (s:Shared) (H:Hp) (vs:List V) (Q:VK) (E:XK),di k (A.deeper (envOfC qual (ak st) s.heap.objs.size f cdv))->sp vs H Q E ->
   ∃t,PSs (uC CX0 P w K mg base N qual (ak st) f cdv A outer s H E).nox (cB st) t/\t { nx:=λ_ H'=>Q .non H',rt:=Q } (jt N vs) H):ll P w K mg base CX0 (k+1) f fd ps sp:=by
 obtain⟨oc,od,kV,doc,pm,an,cdv,ct,osl,rfl,lk,Z⟩:=F.ex;refine HS lk Z S Y λA outer s H vs Q E hr L=>?_
 obtain⟨t,h,q⟩:=B cdv A outer s H vs Q E hr L;exact⟨t,h.nox,q⟩
theorem Fun.binds (F:Fun K x qual st f fd)
  (h : ∀(kV doc pm:Value) (B:Option Addr) (cdv ct:Value) (us:List Value),us.length=ps.length->bindArgs (fnOf x qual (cU st) (cB st) (ak st) .none kV doc pm B cdv ct) ⟨us,[]⟩=pure (ps.zip us)):kK K fd ps []:=by
 obtain⟨oc,od,kV,doc,pm,B,cdv,ct,osl,rfl,Y,L⟩:=F.ex;exact .all (h kV doc pm B cdv ct)
theorem qc {B:Option Addr} {kV:Value} (l:K.lookup f=some ⟨oc,od,.func (fnOf x qual (cU st) (cB st) (ak st) .none kV doc pm B cdv ct),osl⟩)
  (c:codeIn K cdv qual=true) (k:J6 K (.ref f)=true):Fun K x qual st f (fnOf x qual (cU st) (cB st) (ak st) .none kV doc pm B cdv ct):=⟨⟨oc,od,kV,doc,pm,B,cdv,ct,osl,rfl,l,c⟩,k⟩
end
theorem ED (B:di k A):A.units+1 < cLine:=r_ (Nat.add_le_add_left (by decide:1<=64) _) B.units
theorem aE (h:n<=1000):n < ge:=r_ h ∅
theorem cO {c A B:Prop} [Decidable c] (h1:c->A) (h2 : ¬ c->B):if c then A else B:=by
 by_cases h:c
 .rw[if_pos h]
  exact h1 h
 .rw[if_neg h]
  exact h2 h
def au (H H':Hp):Prop:=∀b o,H b=some o->H' b=some o
theorem au.refl (H:Hp):au H H:=λ_ _ h=>h
theorem au.trans (a:au H H1) (b:au H1 H2):au H H2:=λc o h=>b c o (a c o h)
theorem au.free (e:au H H') {l:Addr} (h:H' l=Option.none):H l=Option.none:=by
 cases q:H l with
 | none=>rfl
 | some o =>
  rw[e l o q] at h;cases h
theorem au.seq (e:au H H') (h:SqL K H a xs):SqL K H' a xs:=by
 rcases h with(h | ⟨o,h⟩) | h
 .exact .inl (.inl (e _ _ h))
 .exact .inl (.inr ⟨o,e _ _ h⟩)
 .exact .inr h
theorem Ao:bX X (.builtin "len") (λxs H Q=>∃a kvs,xs=[V.ref a]/\H a<*kvs/\Q (.int kvs.length) H):=by
 intro pins s σ H xs us Q I r h;obtain⟨a,kvs,rfl,ha,q⟩:=h;obtain⟨u,rfl,F⟩:=dv r;cases F;exact GU I (.inl ha) λt s' B=>⟨.int kvs.length,H,B,⟨t,rfl⟩,q⟩
theorem tx {B:Expr} {it ac:Value} (I:Nat->Shared->Prop)
  (ah : ∀ n s,I n s->wpAny (model prog w) A (Jr it) (λr s₁=>match r with
   | none=>R (.ok .next) s₁
   | some v=>wpAny (model prog w) A (letOwnedTupleGo B it v) (λ_ s₁=>wpAny (model prog w) A (assign B env v) (λ_ Y =>
     wpAny (model prog w) A (forIn ifs true λc r=>if r=true then do let ok <- isTrue c env (eval c env);pure (JT ok) else pure (JT r)) (λok L =>
      if ok=true then wpAny (model prog w) A (eval elt env) (λx Z =>
       wpAny (model prog w) A (call (.builtin "list.append") [ac,x]) (λ_ aa=>∃m,m < n/\I m aa) (notedBy (model prog w) A env λe s'=>R (.error e) s') Z) (notedBy (model prog w) A env λe s'=>R (.error e) s') L
      else ∃m,m < n/\I m L) (notedBy (model prog w) A env λe s'=>R (.error e) s') Y) (notedBy (model prog w) A env λe s'=>R (.error e) s') s₁) (notedBy (model prog w) A env λe s'=>R (.error e) s') s₁) (notedBy (model prog w) A env λe s'=>R (.error e) s') s)
  (n:Nat) (h:I n s) :
  JA (model prog w) A (.compLoop (.ListComp elt [⟨B,iter,ifs,0⟩] scope pos) 0 it ac env) R s:=by
 refine codeAny_loop rfl I (λn s hI=>?_) n h
 show wpAny _ A ((compTurn (.ListComp elt [⟨B,iter,ifs,0⟩] scope pos) 0 it ac env).onRaise (λx=>do noteFrame x env;theTreesLotGoes x)) _ _ s
 refine wpAny_noted ?_
 rw[compTurn_list];refine a_ (wpAny_standAt (a_ (y2 (ah n s hI) (λr s₁ F=>?_) λ_ _ h'=>h')))
 cases r with
 | none=>exact e7 F
 | some v =>
  refine a_ (y2 F (λ_ s₁ F=>?_) λ_ _ h'=>h')
  refine a_ (y2 F (λ_ Y ag=>a_ (y2 ag (λok L ab=>?_) λ_ _ h'=>h')) λ_ _ h'=>h')
  cases ok with
  | false=>exact e7 ⟨rfl,ab⟩
  | true =>
   exact a_ (a_ (y2 ab (λx Z af=>a_ (y2 af (λ_ aa ad=>e7 (e7 ⟨rfl,ad⟩)) λ_ _ h'=>h')) λ_ _ h'=>h'))
def PTs (X:Cx) (ifs:List Expr) (t:TT):Prop :=
 ∀ (pins:List (Addr × Obj)) (s:Shared) (σ:St) (H:Hp) (Q:Bool->Hp->Prop),Inv X pins σ H s->t σ H Q ->
  wpAny (model X.prog X.w) X.A (forIn ifs true λc r=>if r=true then do let ok <- isTrue c X.env (eval c X.env);pure (JT ok) else pure (JT r)) (TP X pins σ Q) X.xe s
def wL:TT:=λ_ H Q=>Q true H
theorem bR:PTs X [] wL:=λ_ _ _ H _ I h=>wpAny_tests_nil ⟨H,I,h⟩
theorem dn {c:Expr} {t:TT} (B:PT X c t):PTs X [c] t:=λpins s σ H Q I h=>wpAny_tests_one (B pins s σ H Q I h)
theorem kU {env:Env} : ∀(names:List (Str × y7)) (B:List (Str × Addr)),(∀x∈names,x.2 = .free->∃c,env.cells.lookup x.1=some c) ->
  ∃ cl,(forIn (m:=Sem) names B λx r=>match x with
   | (name,kind)=>if (kind == s_)=true then do let c <- cellOf env name;pure (JT ((name,c) :: r)) else pure (JT r))=pure cl /\
   (∀x c,cl.lookup x=some c->B.lookup x=some c\/env.cells.lookup x=some c)/\(∀x,(B.lookup x).isSome=true->(cl.lookup x).isSome=true)/\(∀x,(x,s_)∈names->(cl.lookup x).isSome=true)
 | [],B,_=>⟨B,rfl,λx c h=>.inl h,λx h=>h,λx h=>nomatch h⟩
 | (n, k) :: r,B,h=>by
  by_cases L:k = .free
  .subst L
   obtain⟨c,Z⟩:=h (n,.free) k7 rfl;obtain⟨cl,e,h1,h2,Y⟩:=kU r ((n,c) :: B) (λx F=>h x (j7 _ F))
   refine⟨cl,?_,λx d hd=>?_,λx F=>h2 x ?_,λx F=>?_⟩
   .simp only[JP,beq_self_eq_true,if_true,cellOf,Z]
    exact e
   .rcases h1 x d hd with q | q
    .simp only[u7] at q
     split at q
     .rename_i hb
      have:x=n:=by simpa using hb
      subst this;cases q;exact .inr Z
     .exact .inl q
    .exact .inr q
   .simp only[u7]
    split
    .rfl
    .exact F
   .rcases i6.mp F with q | q
    .cases q
     exact h2 n (by simp)
    .exact Y x q
  .obtain⟨cl,e,h1,h2,Y⟩:=kU r B (λx F=>h x (j7 _ F))
   refine⟨cl,?_,h1,h2,λx F=>?_⟩
   .have:(k == s_)=false:=by simpa using L
    simp only[JP,this,g_,if_false];exact e
   .rcases i6.mp F with q | q
    .cases q
     exact absurd rfl L
    .exact Y x q
def cI (nt:Nat) (js:List Nat) (σ:St):St:=List.replicate nt none++js.map λj=>(σ[j]?).join
def Wk (σ0 B:St):Prop:=σ0.length=B.length/\∀(i:Nat) v,σ0[i]? = some (some v)->B[i]? = some (some v)
def Cr (g:TG) (nt:Nat):Prop:=∀(x:V) (σ0:St) (H:Hp) (Q:St->Hp->Prop),(∀i,i < nt->σ0[i]? = some none)->g x σ0 H Q->g x σ0 H λB H2=>Wk σ0 B/\Q B H2
theorem Wk.set {σ0:St} {i:Nat} {v:V} (h:σ0[i]? = some none):Wk σ0 (σ0.set i (some v)):=by
 refine⟨by simp,λj w e=>?_⟩
 by_cases B:j=i
 .subst B;rw[h] at e;cases e
 .rw[Kl (tj B)];exact e
theorem Wk.trans {a b c:St} (h:Wk a b) (h':Wk b c):Wk a c:=⟨h.1.trans h'.1,λi v e=>h'.2 i v (h.2 i v e)⟩
theorem aQ (hi:i < nt:=by decide):Cr (gb i) nt:=λx σ0 H Q h q=>⟨Wk.set (h i hi),q⟩
theorem qV : ∀i,i < nt->(cI nt js σ)[i]? = some none:=λi hi=>by
 unfold cI;rw[t4 (by simpa using hi)]
 simp[hi]
def yR (nt:Nat) (js:List Nat) (wi:TI) (g:TG) (tc:TT) (te:TE):TE:=λσ H Q=>wi σ H λJ H1=>∀D,H1 D=none->∃W:Nat->Nat->List V->Hp->Prop,(∃m,W 0 m [] (upd H1 D (.lst []))) /\
 ∀ i m ys H2,W i m ys H2->(J.stop i H2/\Q (.ref D) H2)\/(J.go i H2/\∃N:List V->Hp->Prop,(∀B H',N B H'->∃L,L < m/\W (i+1) L B H') /\
  ∀x H',J.yld i H2 x H'->g x (cI nt js σ) H' λF H3=>tc F H3 λb Y=>if b=true then te F Y λy Z=>Z D*>ys/\ys.length < ge/\N (ys++[y]) (upd Z D (.lst (ys++[y]))) else N ys Y)
theorem fZ {env:Env} : ∀{names:List (Str × y7)} {x:Str},names.lookup x=some .free ->
  ((names.map λ(n,k)=>if (k == s_ && env.scope.kind == .function && env.kindOf n == some .cell) then(n,w9) else(n,k)).lookup x=some .cell\/(names.map λ(n,k)=>if (k == s_ && env.scope.kind == .function && env.kindOf n == some .cell) then(n,w9) else(n,k)).lookup x=some .free)
 | [],_,h=>by simp at h
 | (n,k) :: r,x,h=>by
  have F:=@fZ env r x;simp only[i9];cases B:x == n with
  | true =>
   simp only[u7,B] at h;cases h
   by_cases q:(s_ == s_ && env.scope.kind == .function && env.kindOf n == some .cell)=true
   .rw[if_pos q];simp only[u7,B];simp
   .rw[if_neg q];simp only[u7,B];simp
  | false =>
   simp only[u7,B] at h
   by_cases q:(k == s_ && env.scope.kind == .function && env.kindOf n == some .cell)=true
   .rw[if_pos q];simp only[u7,B];exact F h
   .rw[if_neg q];simp only[u7,B];exact F h
theorem Inv.wk {Y:Cx} {B:St} (I:Inv Y pins B H s) (h:Wk σ0 B):Inv Y pins σ0 H s:=I.weak h.1 h.2
end L2
namespace PySem
open Sem (wp)
theorem Al:G3 (.type "list_reverseiterator") "__len__" = pure none:=by rw[x0,p6];kernel_rfl
theorem AZ:G3 (.type "list_reverseiterator") "__length_hint__" = pure (some (.builtin "list_reverseiterator.__length_hint__")):=by rw[x0,p6];kernel_rfl
theorem xp (hh:A.handled=none) (S:Addr) (res:Value) (af:Nat) (hS:s.heap.get? S=some { cls:=.type "list",data:=.seq #[] af })
  {I l:Addr} {items:Array Value} (hi:s.heap.IsRevIter I l ((items.size:Int) - 1)) (hl:s.heap.IsList l items) (ai:l≠I) (ad:S≠I) (ag:S≠l)
  (hR : ∀h' tk B Z,(∀b o,b≠S->b≠I->s.heap.get? b=some o->h'.get? b=some o)->h'.get? S=some { cls:=.type "list",dict:=none,data:=.seq B Z,slots := #[] } ->
   ItemsOf (λi v=>items[items.size - 1 - i]? = some v) B items.size->R (.ok (.ret res)) { s with heap:=h',toks:=tk }) (hn:items.size<=ge) :
  wpAny (model prog w) A.in1 (u5 (.ref S) (.ref I) res)
   (λak s'=>match ak with | .done f=>R (.ok f) s' | .again Z=>Z.quiet=true/\JA (model prog w) A Z R s') (λe s'=>R (.error e) s') s:=by
 have W:=(Walks.listRev (prog:=prog) (w:=w) (A:=A.in1) hh I l ai items);have ah:S∉[I,l]:=λhm=>by
  rcases i6.mp hm with e | e
  .exact ad e
  .exact ag (e_.mp e)
 have ac:0<=items.size/\s.heap.IsRevIter I l ((items.size:Int) - 1 - ((0:Nat):Int))/\s.heap.IsList l items:=⟨x5 _,by simpa using hi,hl⟩
 unfold u5;refine a_ (J_ hi.typeIs ?_)
 have h1:JF (.ref S) (.ref I)=false:=by simp[JF,ad]
 have h2:(I_ "list_reverseiterator" == I_ "list")=false:=∅
 have h3:(I_ "list_reverseiterator" == I_ "tuple")=false:=∅
 simp only[h1,h2,h3,Bool.or_false,g_,if_false];refine a_ (W.self 0 _ _ _ ac ?_)
 refine a_ (o_ ?_)
 unfold Builtin.List.listLengthHint;refine a_ (y3 hi.typeIs Al ?_)
 show wpAny _ A.in1 (specialOf (g9 I) (b_ "__length_hint__") >>= _) _ _ _
 refine a_ (y3 hi.typeIs AZ ?_)
 (generalize Y:("list_reverseiterator.__length_hint__" : String)=aa;(fail_if_success (clear Y aa));wp_delta;rw[show splitId aa=some ("list_reverseiterator","__length_hint__") from by subst Y;decide+kernel];subst Y)
 refine a_ (JG (b:=true) hi.typeIs (by rw[isSubtype_type];kernel_rfl) ?_)
 refine e7 ?_
 rw[if_neg ∅]
 refine e7 ⟨Jl JJ _,codeAny_extend_loopS W.toS hn _ ah _ items.size 0 _ _ _ rfl (x5 _) ac hS (ItemsOf.nil _) λs' B Z hm am ab=>?_⟩
 rw[Moved.eq_with hm];refine hR s'.heap s'.toks B Z (λb ob hb aj e=>hm.heap b ob (λL=>?_) e) am ab
 rcases i6.mp L with e' | L
 .exact hb e'
 .exact aj (e_.mp L)
theorem rc (hh:A.handled=none) (S:Addr) (hS:s.heap.get? S=some { cls:=.type "list",data:=.seq #[] })
  {I l:Addr} {items:Array Value} (hi:s.heap.IsRevIter I l ((items.size:Int) - 1)) (hl:s.heap.IsList l items) (ac:l≠I) (ab:S≠I) (Z:S≠l)
  (hR : ∀h' tk B Y,(∀b o,b≠S->b≠I->s.heap.get? b=some o->h'.get? b=some o)->h'.get? S=some { cls:=.type "list",dict:=none,data:=.seq B Y,slots := #[] } ->
   ItemsOf (λi v=>items[items.size - 1 - i]? = some v) B items.size->R (.ok (.ret .none)) { s with heap:=h',toks:=tk }) (hn:items.size<=ge) :
  wpAny (model prog w) A.in1 (Builtin.«list.__init__» ⟨[.ref S,.ref I],[]⟩)
   (λag s'=>match ag with | .done f=>R (.ok f) s' | .again Y=>Y.quiet=true/\JA (model prog w) A Y R s') (λe s'=>R (.error e) s') s:=by
 show wpAny _ _ (do let af <- JW (.ref S);Builtin.List.listUpdate (.ref S) (λ_ => #[]);letGo af.toList.reverse;u5 (.ref S) (.ref I) .none) _ _ s
 refine a_ ?_
 unfold JW;refine a_ (u_ hS rfl (e7 ?_))
 show wpAny _ _ (updateSeq S (λ_ => #[]) >>= λ_=>letGo (#[]:Array Value).toList.reverse >>= λ_=>u5 (.ref S) (.ref I) .none) _ _ s
 refine a_ (Kv hS rfl ?_)
 have L:=E_ (p8 (λ_=>(#[]:Array Value))) hS rfl
 have F : ∀b o,b≠S->s.heap.get? b=some o->(s.heap.update S (p8 (λ_=>(#[]:Array Value)))).get? b=some o :=
  λb o hb e=>(B_ _ _ (tj hb)).trans e
 refine a_ (wpAny_letGo ?_)
 refine xp (s:={ s with heap:=s.heap.update S (p8 (λ_=>(#[]:Array Value))) }) hh S .none _ L (hi.at λo e=>F _ o (tj ab) e) (hl.at λo e=>F _ o (tj Z) e) ac ab Z (λh' tk B Y hk ah aa=>?_) hn
 exact hR h' tk B Y (λb o hb ad e=>hk b o hb ad (F b o hb e)) ah aa
theorem rz (hh:A.handled=none) {I l:Addr} {items:Array Value} (hi:s.heap.IsRevIter I l ((items.size:Int) - 1)) (hl:s.heap.IsList l items) (aa:l≠I)
  (hQ : ∀h' tk B c',(∀b o,b≠I->s.heap.get? b=some o->h'.get? b=some o) ->
   h'.get? s.heap.objs.size=some { cls:=.type "list",dict:=none,data:=.seq B c',slots := #[] }->ItemsOf (λi v=>items[items.size - 1 - i]? = some v) B items.size->Q (.ref s.heap.objs.size) { s with heap:=h',toks:=tk }) (hn:items.size<=ge) :
  wpAny (model prog w) A (call (.type "list") [.ref I]) Q E s:=by
 refine callType_codes (Q₁:=λobj s₁=>obj = .ref s.heap.objs.size/\s₁={ s with heap:=s.heap.push { cls:=.type "list",data:=.seq #[] } }) F.called_list (F.typeCall_list_1 _) F.entry_list_init
  (code_list_new _ ⟨rfl,rfl⟩) λobj s₁ L=>?_
 obtain⟨rfl,rfl⟩:=L;have hS:(s.heap.push { cls:=.type "list",data:=.seq #[] }).get? s.heap.objs.size=some { cls:=.type "list",data:=.seq #[] }:=gr _ rfl
 have Z : ∀b o,s.heap.get? b=some o->(s.heap.push { cls:=.type "list",data:=.seq #[] }).get? b=some o:=λb o e=>d_ _ e
 obtain⟨oi,ac,_⟩:=id hi;obtain⟨ol,ab,_⟩:=id hl;refine⟨⟨_,hS,rfl⟩,F.args_list_init_2 _ _,rc (s:={ s with heap:=s.heap.push { cls:=.type "list",data:=.seq #[] } }) (A:=A.in1) hh _ hS (hi.at λo e=>Z _ o e) (hl.at λo e=>Z _ o e) aa (pc (e9 ac)) (pc (e9 ab)) (λh' tk B c' hk ad Y=>?_) hn⟩
 exact⟨rfl,hQ h' tk B c' (λb o hb e=>hk b o (j_ (e9 e)) hb (Z b o e)) ad Y⟩
end PySem
namespace L2
open PySem PySem.Spec PyProof.Rows
mutual
inductive Rep (K:fx) (H:Hp):V->Kp->Prop
 | non:Rep K H .non .none
 | bl (b:Bool):Rep K H (.bl b) (.bool b)
 | int (i:Int):Rep K H (.int i) (.int i)
 | str (x:Str):Rep K H (.str x) (.str x)
 | tup {a:Addr} {vs:List V} {ds:List Kp}:SqT K H a vs->fR K H vs ds->Rep K H (.ref a) (.tuple ds)
 | lst {a:Addr} {vs:List V} {ds:List Kp}:SqL K H a vs->fR K H vs ds->Rep K H (.ref a) (.list ds)
inductive fR (K:fx) (H:Hp):List V->List Kp->Prop
 | nil:fR K H [] []
 | cons {v:V} {vs:List V} {d:Kp} {ds:List Kp}:Rep K H v d->fR K H vs ds->fR K H (v :: vs) (d :: ds)
end
theorem au.seqT (e:au H H') (h:SqT K H a xs):SqT K H' a xs:=by
 rcases h with(h | ⟨o,h⟩) | h
 .exact .inl (.inl (e _ _ h))
 .exact .inl (.inr ⟨o,e _ _ h⟩)
 .exact .inr h
theorem fR.ints {K:fx} {H:Hp} : ∀(ns:List Int),fR K H (ns.map V.int) (ns.map y_)
 | []=>.nil
 | _ :: ns=>.cons (.int _) (fR.ints ns)
theorem fR.strs {K:fx} {H:Hp} : ∀(ns:List Str),fR K H (ns.map V.str) (ns.map PyData.str)
 | []=>.nil
 | _ :: ns=>.cons (.str _) (fR.strs ns)
mutual
theorem Inv.reads (I:Inv X pins σ H s) : ∀{v:V} {d:Kp} {u:Value},Rep X.K H v d->bq v u->∃as,Reads s.heap u d as
 | _,_,_,.non,r=>by cases r;exact⟨_,.none⟩
 | _,_,_,.bl b,r=>by cases r;exact⟨_,.bool b⟩
 | _,_,_,.int b,r=>by obtain⟨t,rfl⟩:=r;exact⟨_,.int b t⟩
 | _,_,_,.str b,r=>by obtain⟨t,rfl⟩:=r;exact⟨_,.str b t⟩
 | _,_,_,.tup h q,r=>by
  cases r;obtain⟨its,L,⟨o,F,Z,n,Y⟩,_⟩:=I.tuple h;obtain⟨as,B⟩:=Inv.readsAll I q L;exact⟨_,.tuple F Z Y (by simpa using B)⟩
 | _,_,_,.lst h q,r=>by
  cases r;obtain⟨its,L,⟨o,n,F,Z,_,Y⟩,_⟩:=I.list h;obtain⟨as,B⟩:=Inv.readsAll I q L;exact⟨_,.list F Z Y (by simpa using B)⟩
theorem Inv.readsAll (I:Inv X pins σ H s) : ∀{v:List V} {d:List Kp} {u:List Value},fR X.K H v d->bj v u->∃as,ReadsAll s.heap u d as
 | _,_,_,.nil,r=>by cases r;exact⟨_,.nil⟩
 | _,_,_,.cons h q,r=>by
  cases r with
  | cons B F =>
   obtain⟨as,Y⟩:=Inv.reads I h B;obtain⟨bs,L⟩:=Inv.readsAll I q F;exact⟨_,.cons Y L⟩
end
section
variable {a b c:Expr} {tc:TE}
def GE (K:fx):R2:=λx y H Q=>∃dx B,Rep K H x dx/\Rep K H y B/\dx.canLay0=true/\B.canLay0=true/\dx.depth<=100/\Q (.bl (y4 dx B)) H
def GQ (K:fx):R2:=λx y H Q=>∃dx B,Rep K H x dx/\Rep K H y B/\dx.canLay0=true/\B.canLay0=true/\dx.depth<=100/\Q (.bl (!PyData.eqv dx B)) H
theorem qk (hu:X.A.units+100 < cLine):OpR X (n6 .Eq) (GE X.K):=by
 intro pins s σ H x y v u Q I Z Y h;obtain⟨dx,dy,h1,h2,B,L,h5,q⟩:=h;obtain⟨as,F⟩:=I.reads h1 Z;obtain⟨bs,r2⟩:=I.reads h2 Y;exact PySem.SeqAt.compareEq_reads F r2 B L () ⟨.bl _,H,I,rfl,q⟩
theorem FP (hu:X.A.units+100 < cLine):OpR X (n6 .NotEq) (GQ X.K):=by
 intro pins s σ H x y v u Q I Z Y h;obtain⟨dx,dy,h1,h2,B,L,h5,q⟩:=h;obtain⟨as,F⟩:=I.reads h1 Z;obtain⟨bs,r2⟩:=I.reads h2 Y;exact PySem.SeqAt.compareNe_reads F r2 B L () ⟨.bl _,H,I,rfl,q⟩
def Im (K:fx):List V->Hp->VK->Prop:=λxs H Q=>∃x t T k,xs=[x,.ty T]/\nY K H x t/\kitOne K t (.type T)=some k/\Q (.bl k) H
theorem Bd:bX X (.builtin "isinstance") (Im X.K):=by
 intro pins s σ H xs us Q I r h;obtain⟨x,t,T,k,rfl,ty,e,q⟩:=h;obtain⟨u,L,rfl,B,F⟩:=pf r;cases F;exact zO I B ty e λtk=>⟨.bl k,H,I.tok tk,rfl,q⟩
theorem vv {T:String} (B:Gl X x) (Y:X.mg x=none) (F:y6 x=some (.type T)) (hn:x ≠ "__name__" := by decide) (L:(x ==("__debug__" : Str))=false:=by decide):PE X (.Name x pos) (tC (.ty T)) :=
 Dt B Y F rfl hn L
theorem jE {its:Array Value} {bs:List Bool} (h:bj (bs.map V.bl) its.toList):TruthOf prog w A (λi v=>its[i]? = some v) (λi=>bs.getD i true):=by
 intro i v s Q E Z F;have h1:its.toList[i]? = some v:=by simpa using Z
 have B:i < its.toList.length:=(i4.mp h1).1
 have hl:=h.length;have L:i < bs.length:=by rw[<- hl] at B;simpa using B
 obtain⟨u,hu,Y⟩:=h.get (i:=i) (x:=V.bl bs[i]) (by simp[L])
 rw[h1] at hu;cases hu;cases Y;refine x6 ?_
 have e:bs.getD i true=bs[i]:=by simp[List.getD,L]
 show Q bs[i] s
 have F:Q (bs.getD i true) s:=F
 rw[e] at F;exact F
theorem zN (bs:List Bool):(range bs.length).all (λi=>bs.getD i true)=bs.all id:=by
 rw[ow];simp only[z_,Kf]
 constructor
 .intro h b hb
  obtain⟨i,hi,e⟩:=uj hb;have:=h i hi
  simp[List.getD,hi,e] at this
  simpa using this
 .intro h i hi
  have:=h bs[i] (v_ hi)
  simpa [List.getD,hi] using this
theorem zw (bs:List Bool):(range bs.length).any (λi=>bs.getD i true)=bs.any id:=by
 rw[ow];simp only[w_,Kf]
 constructor
 .rintro⟨i,hi,e⟩
  refine⟨bs[i],v_ hi,?_⟩
  simpa [List.getD,hi] using e
 .rintro⟨b,hb,e⟩
  obtain⟨i,hi,B⟩:=uj hb;refine⟨i,hi,?_⟩
  simp only[List.getD,k6 hi,getD_some,B];exact e
def ER (K:fx):List V->Hp->VK->Prop:=λxs H Q=>∃(p:Addr) (bs:List Bool),xs=[.ref p]/\SqL K H p (bs.map V.bl)/\Q (.bl (bs.all id)) H
def Gd (K:fx):List V->Hp->VK->Prop:=λxs H Q=>∃(p:Addr) (bs:List Bool),xs=[.ref p]/\SqL K H p (bs.map V.bl)/\Q (.bl (bs.any id)) H
theorem wR (L:X.calm=true):bX X (.builtin "all") (ER X.K):=by
 intro pins s σ H xs us Q I r h;obtain⟨p,bs,rfl,Y,q⟩:=h;obtain⟨u,rfl,rx⟩:=dv r;cases rx;obtain⟨its,F,pl,hz⟩:=I.list Y;refine call_all_walk (Js pl.isList ?_)
 have B:p≠s.heap.objs.size:=by
  obtain⟨o,n,ho,_⟩:=pl;exact j_ (e9 ho)
 refine⟨_,_,_,_,_,_,λi=>bs.getD i true,rfl,Walks.list (A:=X.A.in1) (I.ok.hd L) _ p B its.toArray,⟨⟨_,gr _ rfl,rfl,rfl⟩,pl.isList.at λo e=>d_ _ e⟩,jE (by simpa using F),λh' tk Z=>?_⟩
 have hl:its.toArray.size=bs.length:=by have:=F.length;simp at this ⊢;omega
 rw[hl,zN];exact⟨.bl (bs.all id),H,I.kept λb o e=>Z b o (by simp;exact j_ (e9 e)) (d_ _ e),rfl,q⟩
theorem yk (L:X.calm=true):bX X (.builtin "any") (Gd X.K):=by
 intro pins s σ H xs us Q I r h;obtain⟨p,bs,rfl,Y,q⟩:=h;obtain⟨u,rfl,rx⟩:=dv r;cases rx;obtain⟨its,F,pl,hz⟩:=I.list Y;refine call_any_walk (Js pl.isList ?_)
 have B:p≠s.heap.objs.size:=by
  obtain⟨o,n,ho,_⟩:=pl;exact j_ (e9 ho)
 refine⟨_,_,_,_,_,_,λi=>bs.getD i true,rfl,Walks.list (A:=X.A.in1) (I.ok.hd L) _ p B its.toArray,⟨⟨_,gr _ rfl,rfl,rfl⟩,pl.isList.at λo e=>d_ _ e⟩,jE (by simpa using F),λh' tk Z=>?_⟩
 have hl:its.toArray.size=bs.length:=by have:=F.length;simp at this ⊢;omega
 rw[hl,zw];exact⟨.bl (bs.any id),H,I.kept λb o e=>Z b o (by simp;exact j_ (e9 e)) (d_ _ e),rfl,q⟩
theorem oA (ns:List Int) : ∀n,n<=ns.length->preSum (λi=>ns.getD i 0) n=(ns.take n).sum
 | 0,_=>by simp[preSum]
 | n+1,h=>by
  have B:=oA ns n ()
  have e:ns[n]? = some (ns[n]'()):=by simp
  show preSum (λi=>ns.getD i 0) n+ns.getD n 0=_
  rw[B,i7,e,List.sum_append,List.getD,e];simp
theorem wI (ns:List Int):preSum (λi=>ns.getD i 0) ns.length=ns.sum:=by
 rw[oA ns _ (hH _),ki]
def C2 (K:fx):List V->Hp->VK->Prop:=λxs H Q=>∃(p:Addr) (ns:List Int),xs=[.ref p]/\SqL K H p (ns.map V.int)/\Q (.int ns.sum) H
theorem qv (hc:X.calm=true):bX X (.builtin "sum") (C2 X.K):=by
 intro pins s σ H xs us Q I r h;obtain⟨p,ns,rfl,hq,q⟩:=h;obtain⟨u,rfl,rx⟩:=dv r;cases rx;obtain⟨its,Y,pl,hz⟩:=I.list hq;refine call_sum_walkG (Js pl.isList ?_)
 have Z:p≠s.heap.objs.size:=by
  obtain⟨o,n,L,_⟩:=pl;exact j_ (e9 L)
 refine⟨_,_,_,_,_,_,λi=>ns.getD i 0,rfl,Walks.list (A:=X.A.in1) (I.ok.hd hc) _ p Z its.toArray,⟨⟨_,gr _ rfl,rfl,rfl⟩,pl.isList.at λo e=>d_ _ e⟩,λb F=>?_,λi v hv=>?_,λh' tk t' hk=>?_⟩
 .obtain⟨o,n,L,_⟩:=pl
  rcases i6.mp F with e | e
  .rw[e];exact h_ (Jd _) (by simp)
  .rw[e_.mp e];exact h_ (e9 L) (by simp)
 .have h1:its[i]? = some v:=by simpa using hv
  have B:i < its.length:=(i4.mp h1).1
  have hl:=Y.length;have F:i < ns.length:=by rw[<- hl] at B;simpa using B
  obtain⟨u,hu,t,ru⟩:=Y.get (i:=i) (x:=V.int ns[i]) (by simp[F])
  rw[h1] at hu;cases hu;exact⟨t,by rw[ru];simp[List.getD,F]⟩
 .have hl:its.toArray.size=ns.length:=by have:=Y.length;simp at this ⊢;omega
  rw[hl,wI];exact⟨.int ns.sum,H,I.kept λb o e=>hk b o (by simp;exact j_ (e9 e)) (d_ _ e),⟨t',rfl⟩,q⟩
def pW (t:TE):TE:=λσ H Q=>t σ H λx H1=>∃p,x = .ref p/\∃ys,H1 p*>ys/\∀l,H1 l=none->Q (.ref l) (upd H1 l (.lst ys.reverse))
end
section
variable {a b c:Expr} {tc:TE} {p pos2:Pos}
theorem qW (hc:X.calm=true) (hg:Gl X "list") (hm:X.mg "list" = none) (ad:Gl X "reversed") (ac:X.mg "reversed" = none) (he:PE X e te) (Y:j9 [e] X.env=[(false,eval e X.env)]:=by rfl) :
  PE X (.Call (.Name "list" p) [.Call (.Name "reversed" p2) [e] [] pos2] [] pos) (pW te):=by
 intro pins s σ H Q I h;refine x3 (gs I hg hm (by decide+kernel:y6 "list" = some (.type "list")) ?_)
 refine n9 (JS ?_) rfl rfl
 refine x3 (gs I ad ac boot_reversed ?_)
 refine n9 (Q:=_) ?_ Y rfl
 rw[Y];refine JS (thn (he pins s σ H _ I h) λu L ⟨x,H1,I1,r1,pp,e1,ys,hq',q⟩=>J1 ?_)
 subst e1;cases r1;have hq:SqL X.K H1 pp ys:=.of hq'
 obtain⟨its,rv,pl,hz⟩:=I1.list hq;have af:=rv.length;refine call_reversed_list pl.isList ?_
 have ab:pp < L.heap.objs.size:=by
  obtain⟨o,n,ho,_⟩:=pl;exact e9 ho
 refine J1 (rz (I.ok.hd hc) (I:=L.heap.objs.size) (l:=pp) (items:=its.toArray) ⟨_,gr _ rfl,rfl,rfl⟩ (pl.isList.at λo e=>d_ _ e) (j_ ab) (λh' tk B c' hk hS F=>?_) (by simp only[j6];omega))
 have kp : ∀b o,L.heap.get? b=some o->h'.get? b=some o:=λb o e=>hk b o (j_ (e9 e)) (d_ _ e)
 have Z:B=its.reverse.toArray:=by
  apply Array.ext_getElem?
  intro i;have aa:=F.1;simp only[j6] at aa
  by_cases hi:i < its.length
  .have h1:B[i]? = some (B[i]'()):=by simp[aa,hi]
   have h2:=F.2 i _ h1;rw[h1,<- h2];simp only[j6,Jg];rw[Kb hi]
  .simp only[Jg]
   rw[JX (),List.getElem?_eq_none (by simp;omega)]
 subst Z;have hsz:L.heap.objs.size<=(L.heap.push (revObj pp ((its.toArray.size:Int) - 1))).objs.size:=by rw[m_];exact le_succ _
 exact⟨.ref (L.heap.push (revObj pp ((its.toArray.size:Int) - 1))).objs.size,upd H1 _ (.lst ys.reverse),I1.laid (t':=tk) kp hsz ⟨by simp;omega,its.reverse,c',rv.reverse,hS⟩,rfl,q _ (I1.hok.fresh hsz)⟩
def Dj:V->Option Int->Option Int->Hp->VK->Prop:=λx lo hi H Q=>∃z,x = .str z/\z.length<=ge/\Q (.str (H_ z lo hi)) H
theorem xw:SlR X Dj:=by
 intro pins s σ H x v vl vu lo hi sl Q I rx hs pl pu h;obtain⟨z,rfl,L,q⟩:=h;obtain⟨t,rfl⟩:=rx;refine⟨"str",_,F.slot_str_getitem.lookup,typeIs_str _ _ _,?_⟩
 have B : ∀(t':Tok) (k:Nat),EP X pins σ Q (.str (H_ z lo hi) t') { s with toks:=k }:=λt' k=>⟨.str _,H,I.tok k,⟨t',rfl⟩,q⟩
 obtain⟨o,h1,h2,Y⟩:=hs;cases pl with
 | none=>cases pu with
  | none=>exact JK (l:=none) (u:=none) (st:=none) ⟨o,h1,h2,Y⟩ rfl (post_val_or_str ⟨gt (Kc z _ _) L,λt' k=>B t' k⟩)
  | int j Z=>exact JK (l:=none) (u:=some (j,Z)) (st:=none) ⟨o,h1,h2,Y⟩ rfl (post_val_or_str ⟨gt (Kc z _ _) L,λt' k=>B t' k⟩)
 | int i ui=>cases pu with
  | none=>exact JK (l:=some (i,ui)) (u:=none) (st:=none) ⟨o,h1,h2,Y⟩ rfl (post_val_or_str ⟨gt (Kc z _ _) L,λt' k=>B t' k⟩)
  | int j Z=>exact JK (l:=some (i,ui)) (u:=some (j,Z)) (st:=none) ⟨o,h1,h2,Y⟩ rfl (post_val_or_str ⟨gt (Kc z _ _) L,λt' k=>B t' k⟩)
end
def FnL (K:fx) (mg:Str->Option Value) (x:Str) (st:Stmt) (ps:List Str):Prop :=
 ∃f fd,Fun K x x st f fd/\mg x=some (.ref f)/\kK K fd ps []
def Fn (P:Program) (w:World) (K:fx) (mg:Str->Option Value) (base:Heap) (x:Str) (k:Nat) (ps:List Str) (sp:Sp):Prop :=
 ∃f fd,ll P w K mg base CX0 k f fd ps sp/\mg x=some (.ref f)/\J6 K (.ref f)=true/\kK K fd ps []
section
variable {P:Program} {w:World} {K:fx} {mg:Str->Option Value} {base:Heap}
theorem FnL.ok {x:Str} {st:Stmt} {N ps:List Str} {k:Nat} {sp:Sp} (F:FnL K mg x st ps) (S:aA N ps (ak st)) (L : ∀vs H Q E,sp vs H Q E->vs.length=ps.length)
  (B : ∀(f:Addr) (cdv:Value) (A:Around) (outer:List Env) (s:Shared) (H:Hp) (vs:List V) (Q:VK) (E:XK),di k (A.deeper (envOfC x (ak st) s.heap.objs.size f cdv))->sp vs H Q E ->
   ∃t,PSs (uC CX0 P w K mg base N x (ak st) f cdv A outer s H E).nox (cB st) t/\t { nx:=λ_ H'=>Q .non H',rt:=Q } (jt N vs) H):Fn P w K mg base x (k+1) ps sp:=by
 obtain⟨f,fd,F,m,b⟩:=F;exact⟨f,fd,F.ok S L (B f),m,F.kp,b⟩
theorem Fn.mono {x:Str} {j k:Nat} {ps:List Str} {sp:Sp} (F:Fn P w K mg base x j ps sp) (h:j<=k):Fn P w K mg base x k ps sp:=by
 obtain⟨f,fd,F,m,B,b⟩:=F;exact⟨f,fd,F.mono h,m,B,b⟩
theorem E3 {B:Option Addr} {kV:Value} (X:K.In h) (G:h.Ns m3 mg)
  (a:nsIn K m3 x=some (-f))
  (l:K.lookup f=some ⟨oc,od,.func (fnOf x x (cU st) (cB st) (ak st) .none kV doc pm B cdv ct),osl⟩)
  (c:codeIn K cdv x=true) (k:J6 K (.ref f)=true)
  (F : ∀(kV doc pm:Value) (B:Option Addr) (cdv ct:Value) (us:List Value),us.length=ps.length->bindArgs (fnOf x x (cU st) (cB st) (ak st) .none kV doc pm B cdv ct) ⟨us,[]⟩=pure (ps.zip us)):FnL K mg x st ps :=
 ⟨f,_,qc l c k,mg_of X G a,(qc l c k).binds F⟩
end
section
variable {p:Pos} {t:TA}
theorem aw (F:Fn X.prog X.w X.K X.mg X.base x k ps sp) (ha:PA X (e :: es) t) (hr:di k X.A:=by exact di.mono (by assumption) (by first | decide | omega)) (Y:Gl X x:=by exact rfl) (L:(x ==("__debug__" : Str))=false:=by decide)
  (he:j9 (e :: es) X.env=(false,eval e X.env) :: j9 es X.env:=by rfl) (B:(A_ pos (j9 es X.env)).any (·.1)=false:=by rfl) :
  PE X (.Call (.Name x p) (e :: es) [] pos) (rT sp [] E0 t):=by
 obtain⟨f,fd,F,m,Z,b⟩:=F;exact Df F hr Y m Z b .nil qg ha L he B
end
structure Wlk (J:It) (xs:List V) (C:Hp->Prop):Prop where
 go : ∀i H,C H->i < xs.length->J.go i H
 yld : ∀i H x H',C H->i < xs.length->J.yld i H x H'->xs[i]? = some x/\H'=H
 stop : ∀i H,C H->xs.length<=i->J.stop i H
theorem ck:Wlk (Itl K a) xs (λH=>SqL K H a xs) :=
 ⟨λi H h hi=>⟨xs,xs[i],h,by simp[hi]⟩,λi H x H' h _ y=>⟨y.2 xs h,y.1⟩,λi H h hi=>⟨xs,h,hi⟩⟩
theorem aT:Wlk (Itt K a) xs (λH=>SqT K H a xs) :=
 ⟨λi H h hi=>⟨xs,xs[i],h,by simp[hi]⟩,λi H x H' h _ y=>⟨y.2 xs h,y.1⟩,λi H h hi=>⟨xs,h,hi⟩⟩
def ya (lo:Int) (n:Nat):List V:=(range n).map λ(i:Nat)=>V.int (lo+(i:Int))
theorem aV (lo:Int) (n:Nat):(ya lo n).length=n:=by simp[ya]
theorem jA (h:i < n):(ya lo n)[i]? = some (.int (lo+i)):=by simp[ya,h]
theorem cZ:Wlk (Itr lo n) (ya lo n) (λ_=>True) :=
 ⟨λi H _ hi=>by rw[aV] at hi;exact hi,λi H x H' _ hi y=>by
  obtain⟨e,y⟩:=y;rw[aV] at hi;rw[jA hi,y];exact⟨rfl,e⟩,λi H _ hi=>by rw[aV] at hi;exact hi⟩
theorem CZ {C:Hp->Prop} (w:Wlk J xs C) {g:TG} {tb:TS} {D:pI} {σ:St} {H:Hp} (F:Nat->St->Hp->Prop) (h0:F 0 σ H) (hl : ∀i σ H,F i σ H->C H)
  (hs : ∀i x σ H,i < xs.length->xs[i]? = some x->F i σ H->g x σ H λL H2=>tb { D with nx:=F (i+1),ct:=F (i+1),bk:=D.nx } L H2) (Z : ∀ σ H,F xs.length σ H->D.nx σ H) :
  ∃ W:Nat->Nat->St->Hp->Prop,(∃m,W 0 m σ H)/\∀i m σ H,W i m σ H ->
   (J.stop i H/\D.nx σ H)\/(J.go i H/\∃N:St->Hp->Prop,(∀ σ' H',N σ' H'->∃Y,Y < m/\W (i+1) Y σ' H')/\∀x H',J.yld i H x H'->g x σ H' λL H2=>tb { D with nx:=N,ct:=N,bk:=D.nx } L H2):=by
 refine⟨λi m σ H=>m=xs.length - i/\i<=xs.length/\F i σ H,⟨xs.length,by simp,x5 _,h0⟩,?_⟩
 rintro i m σ H ⟨rfl,hi,p⟩
 have q:=hl i σ H p
 by_cases B:i < xs.length
 .refine .inr ⟨w.go i H q B,F (i+1),λσ' H' p'=>⟨xs.length - (i+1),(),rfl,B,p'⟩,λx H' y=>?_⟩
  obtain⟨e1,e2⟩:=w.yld i H x H' q B y;subst e2;exact hs i x σ _ B e1 p
 .have e:i=xs.length:=()
  subst e;exact .inl ⟨w.stop _ H q (hH _),Z σ H p⟩
theorem Cq {C:Hp->Prop} (w:Wlk J xs C) {g:TG} {tc:TT} {te:TE} {σ0:St} {Q:VK} {H1:Hp} {D:Addr} (L:Nat->List V->Hp->Prop) (h0:L 0 [] (upd H1 D (.lst []))) (hl : ∀i ys H,L i ys H->C H)
  (hs : ∀i x ys H,i < xs.length->xs[i]? = some x->L i ys H->g x σ0 H λB H3=>tc B H3 λb Z=>if b=true then te B Z λy H5=>H5 D*>ys/\ys.length < ge/\L (i+1) (ys++[y]) (upd H5 D (.lst (ys++[y]))) else L (i+1) ys Z)
  (hd : ∀ys H,L xs.length ys H->Q (.ref D) H) :
  ∃ W : Nat->Nat->List V->Hp->Prop,(∃m,W 0 m [] (upd H1 D (.lst []))) /\
   ∀ i m ys H2,W i m ys H2->(J.stop i H2/\Q (.ref D) H2)\/(J.go i H2/\∃N:List V->Hp->Prop,(∀Y H',N Y H'->∃m',m' < m/\W (i+1) m' Y H') /\
    ∀x H',J.yld i H2 x H'->g x σ0 H' λB H3=>tc B H3 λb Z=>if b=true then te B Z λy H5=>H5 D*>ys/\ys.length < ge/\N (ys++[y]) (upd H5 D (.lst (ys++[y]))) else N ys Z):=by
 refine⟨λi m ys H=>m=xs.length - i/\i<=xs.length/\L i ys H,⟨xs.length,by simp,x5 _,h0⟩,?_⟩
 rintro i m ys H ⟨rfl,hi,p⟩
 have q:=hl i ys H p
 by_cases F:i < xs.length
 .refine .inr ⟨w.go i H q F,L (i+1),λσ' H' p'=>⟨xs.length - (i+1),(),rfl,F,p'⟩,λx H' y=>?_⟩
  obtain⟨e1,e2⟩:=w.yld i H x H' q F y;subst e2;exact hs i x ys _ F e1 p
 .have e:i=xs.length:=()
  subst e;exact .inl ⟨w.stop _ H q (hH _),hd ys H p⟩
end L2
namespace HT
open PySem PyProof.Rows
open PySem.SeqAt
open PySem.AutoSeq1 (wpAny_loadPart')
open PySem.MeetsSeq PySem.MeetsSeq2 PySem.MeetsSeq3
theorem getItem_tuple_whole {t sl:Addr} {lo:Option Int} (B:IsTup s.heap t items) (Z:s.heap.IsSliceOf sl vl vu .none) (pl:IsPart vl lo) (pu:IsPart vu hi)
  (h1:sIx items.size 0 lo=0) (h2:sIx items.size items.size hi=items.size)
  (h:Q (.ref t) s):wpAny (model prog w) A (getItem (.ref t) (.ref sl)) Q E s:=by
 obtain⟨os,F,Y,aa⟩:=id Z;have L:s.TypeIs (.ref sl) "slice" :=⟨os,F,Y⟩
 unfold getItem
 try with_reducible refine o_ ?_
 first | refine a_ (e7 ?_) | skip
 refine a_ (wpAny_sequenceKey B.typeIs ∅ ?_)
 refine a_ (m6 (name:=b_ "__getitem__") B.typeIs u8
  (m8 u8 B.typeIs entry_tuple_getitem ?_ (args_tuple_getitem _ _)))
 show wpAny _ _ (Builtin.Tuple.tupleItemsOf (.ref t) >>= _) _ _ s
 refine a_ (tupleItemsOf_ B ?_)
 refine a_ (J_ L ?_)
 rw[if_pos ∅]
 refine a_ (ix Z pl pu ?_)
 rw[h1,h2]
 show wpAny _ _ (if (((0:Nat):Int) == 0 && (1:Int) == 1 && (items.size - 0) == items.size)=true then _ else _) _ _ s
 rw[if_pos (by simp)]
 unfold Builtin.Tuple.tupleIsExact;refine a_ (a_ (J_ B.typeIs (e7 ?_)))
 rw[if_pos ∅]
 exact a_ (Jw (e7 ⟨_,rfl,e7 h⟩))
end HT
namespace L2
open PySem PySem.Spec PyProof.Rows
def jd (xs:List (Str × y7)) (x:Str):Bool:=xs.lookup x == some .cell || xs.lookup x == some .free
theorem jH {xs:List (Str × y7)} (h:jd xs x=true):xs.lookup x=some .cell\/xs.lookup x=some .free:=by
 unfold jd at h;rw[Bool.or_eq_true] at h;simpa using h
def HN (K:fx):V->Option Int->Option Int->Hp->VK->Prop:=λx lo hi H Q=>∃a xs,x = .ref a/\SqT K H a xs/\(gM xs lo hi=xs->Q (.ref a) H)/\(∀p,H p=none->Q (.ref p) (upd H p (.tup (gM xs lo hi))))
theorem DX:SlR X (HN X.K):=by
 intro pins s σ H x v vl vu lo hi sl Q I rx hs pl L h;obtain⟨a,xs,e,Z,q1,q2⟩:=h
 by_cases F:HT.sIx xs.length 0 lo=0/\HT.sIx xs.length xs.length hi=xs.length
 .subst e
  cases rx;obtain⟨its,r,Y,hz⟩:=I.tuple Z;have B:its.toArray.size=xs.length:=by rw[j6];exact r.length.symm
  refine⟨"tuple",_,u8.lookup,Y.typeIs,?_⟩
  refine HT.getItem_tuple_whole Y hs pl L (by rw[B];exact F.1) (by rw[B];exact F.2) ⟨.ref a,H,I,rfl,q1 ?_⟩
  unfold gM;rw[F.1,F.2];simp
 .exact E1 pins s σ H x v vl vu lo hi sl Q I rx hs pl L ⟨a,xs,e,Z,F,q2⟩
theorem Hj {s:Str} {P:Key->Prop}:(∃k,V.str s=kV k/\P k)↔P (fy s):=by
 constructor
 .rintro⟨k,e,p⟩
  cases k with
  | inl i=>cases e
  | inr x=>cases e;exact p
 .exact λp=>⟨_,rfl,p⟩
theorem Hk {i:Int} {P:Key->Prop}:(∃k,V.int i=kV k/\P k)↔P (i_ i):=by
 constructor
 .rintro⟨k,e,p⟩
  cases k with
  | inl i=>cases e;exact p
  | inr x=>cases e
 .exact λp=>⟨_,rfl,p⟩
section
variable {o i:Expr}
def tDG (td ty:TE):TE:=λσ H Q=>td σ H λx H1=>ty σ H1 λy H2=>∃a,x = .ref a/\∃k,y=kV k/\∃kvs v,H2 a<*kvs/\bQ kvs k=some v/\Q v H2
theorem bx (hu:X.A.units+1 < cLine) (ho:PE X o td) (hi:PE X i ty) (hs:FU i:=by exact λ_ _=>rfl):PE X (.Subscript o i pos) (tDG td ty):=by
 intro pins s σ H Q I h;refine yu PySem.F.slot_dict_getitem.lookup hs (thn (ho pins s σ H _ I h) λu s1 ⟨x,H1,I1,rx,q1⟩=>thn (hi pins s1 σ H1 _ I1 q1) λiv s2 B=>?_)
 obtain⟨y,H2,Y,ry,a,ex,k,Z,kvs,v,hd,hv,q2⟩:=B;subst ex;obtain rfl:u=g9 a:=rx
 have g:ph H2 a y (some v):=.inl ⟨kvs,k,.inl hd,Z,hv.symm⟩
 exact⟨oF Y g,si hu Y g ry λw' s3 I3 L=>⟨v,H2,I3,L,q2⟩⟩
def sDP (td ty tv:TE):TS:=λD σ H=>tv σ H λv H1=>td σ H1 λx H2=>ty σ H2 λy B=>∃a,x = .ref a/\∃k,y=kV k/\∃kvs,B a<*kvs/\kvs.length < ge/\D.nx σ (upd B a (.dK (bm kvs k v)))
theorem gV (hu:X.A.units+1 < cLine) (ho:PE X o td) (hi:PE X i ty) (hv:PE X value tv) (hs:KA value (some (.Subscript o i pos')) pos.line X.env=pure false) :
  PS X (.Assign [.Subscript o i pos'] value pos) (sDP td ty tv):=by
 intro pins s σ H D I h;refine wpAny_Assign_Subscript (thn (hv pins s σ H _ I h) λr s1 ⟨v,H1,I1,rv,q1⟩=>thn (ho pins s1 σ H1 _ I1 q1) λu Y ⟨x,H2,I2,rx,q2⟩=>thn (hi pins Y σ H2 _ I2 q2) λiv s3 B=>?_) hs
 obtain⟨y,F,I3,ry,a,ex,k,L,kvs,hd,hl,q3⟩:=B;subst ex;obtain rfl:u=g9 a:=rx
 have g:Av F a y v (upd F a (.dK (bm kvs k v))):=.inl ⟨kvs,k,hd,L,hl,rfl⟩
 exact sW hu I3 g ry rv λs4 Z=>⟨σ,_,Z,q3⟩
def tDI (ty td:TE):TE:=λσ H Q=>ty σ H λy H1=>td σ H1 λx H2=>∃a,x = .ref a/\∃k,y=kV k/\∃kvs,H2 a<*kvs/\Q (.bl (bQ kvs k).isSome) H2
end
theorem pV {c:TT} {tb:TS} (W:Nat->St->Hp->Prop) (B:St->Hp->Prop) (Y : ∃m,W m σ H)
  (Z : ∀R:St->Hp->Prop,(∀ σ H,B σ H->R σ H)->∀m σ H,W m σ H->c σ H λb H1=>if b=true then ∃N:St->Hp->Prop,(∀ σ' H',N σ' H'->∃L,L < m/\W L σ' H')/\tb { D with nx:=N,ct:=N,bk:=R } σ H1 else R σ H1)
  (F : ∀ σ H,B σ H->D.nx σ H):wY c tb D σ H:=⟨W,Y,λm σ H w=>Z D.nx F m σ H w⟩
theorem cxK {q:Str} {o:List Env} {E:XK} :
  (uC CX P w K mg base N q sc f cd A o s H E).K=K:=rfl
theorem Ek (i j:Int):wg (.int i) (.int j)=true:=rfl
theorem D9 (i j:Str):wg (.str i) (.str j)=true:=rfl
theorem Dh (i j:Bool):wg (.bl i) (.bl j)=true:=rfl
theorem Do:wg .non .non=true:=rfl
theorem Dy (i:Int):wg (.int i) .non=true:=rfl
theorem Di (s:Str) (i:Int):wg (.str s) (.int i)=true:=rfl
section
variable {a b o l:Expr} {t:TA}
theorem OpR.imp {f:Value->Value->Sem Value} {r r':R2} (h:OpR X f r) (i : ∀x y H Q,r' x y H Q->r x y H Q):OpR X f r':=λpins s σ H x y v u Q I B F q=>h pins s σ H x y v u Q I B F (i _ _ _ _ q)
theorem bX.imp {f:Value} {r r':List V->Hp->VK->Prop} (h:bX X f r) (i : ∀x H Q,r' x H Q->r x H Q):bX X f r':=λpins s σ H xs us Q I B q=>h pins s σ H xs us Q I B (i _ _ _ q)
theorem IxR.imp {r r':R2} (h:IxR X r) (i : ∀x y H Q,r' x y H Q->r x y H Q):IxR X r':=λvalue B pins s σ H x y v u Q I Y L q F=>h value B pins s σ H x y v u Q I Y L (i _ _ _ _ q) F
theorem SlR.imp {r:V->Option Int->Option Int->Hp->VK->Prop} (h:SlR X r) (i : ∀x lo hi H Q,r' x lo hi H Q->r x lo hi H Q):SlR X r':=λpins s σ H x v vl vu lo hi sl Q I L F pl B q=>h pins s σ H x v vl vu lo hi sl Q I L F pl B (i _ _ _ _ _ q)
def CJ:List V->Hp->VK->Prop:=λxs H Q=>∃p,xs=[.ref p]/\∃ys,H p*>ys/\Q (.int ys.length) H
def AI:List V->Hp->VK->Prop:=λxs H Q=>∃p,xs=[.ref p]/\∃ys,H p>>ys/\Q (.int ys.length) H
theorem bO:bX X (.builtin "len") CJ:=lJ.imp λ_ _ _ B=>by obtain⟨p,e,ys,h,q⟩:=B;exact(⟨p,ys,e,.inl (.of h),q⟩)
theorem iy:bX X (.builtin "len") AI:=lJ.imp λ_ _ _ B=>by obtain⟨p,e,ys,h,q⟩:=B;exact(⟨p,ys,e,.inr (.of h),q⟩)
def rIL:R2:=λx y H Q=>∃p,x = .ref p/\∃i,y = .int i/\∃xs,H p*>xs/\∃v,atI xs i=some v/\Q v H
def rIT:R2:=λx y H Q=>∃p,x = .ref p/\∃i,y = .int i/\∃xs,H p>>xs/\∃v,atI xs i=some v/\Q v H
theorem fI:IxR X rIL:=Dx.imp λ_ _ _ _ B=>by obtain⟨p,e,i,e2,xs,h,v,ha,q⟩:=B;exact(⟨p,xs,i,v,e,e2,.of h,ha,q⟩)
theorem aZ:IxR X rIT:=EH.imp λ_ _ _ _ B=>by obtain⟨p,e,i,e2,xs,h,v,ha,q⟩:=B;exact(⟨p,xs,i,v,e,e2,.of h,ha,q⟩)
def rIS:R2:=λx y H Q=>∃z,x = .str z/\∃i,y = .int i/\z.length<=ge/\∃c,atI z.cps.toList i=some c/\Q (.str ⟨#[c]⟩) H
theorem DZ:IxR X rIS:=GF.imp λ_ _ _ _ B=>by obtain⟨z,e,i,e2,h,c,ha,q⟩:=B;exact(⟨z,i,c,e,e2,h,ha,q⟩)
def rSL:V->Option Int->Option Int->Hp->VK->Prop:=λx lo hi H Q=>∃a,x = .ref a/\∃xs,H a*>xs/\∀p,H p=none->Q (.ref p) (upd H p (.lst (gM xs lo hi)))
theorem IO:SlR X rSL:=yM.imp λ_ _ _ _ _ B=>by obtain⟨a,e,xs,h,q⟩:=B;exact(⟨a,xs,e,.of h,q⟩)
def rSQ (K:fx):V->Option Int->Option Int->Hp->VK->Prop:=λx lo hi H Q=>∃a,x = .ref a/\∃xs,SqL K H a xs/\∀p,H p=none->Q (.ref p) (upd H p (.lst (gM xs lo hi)))
theorem Hc:SlR X (rSQ X.K):=yM.imp λ_ _ _ _ _ B=>by obtain⟨a,e,xs,h,q⟩:=B;exact(⟨a,xs,e,h,q⟩)
def rST:V->Option Int->Option Int->Hp->VK->Prop:=λx lo hi H Q=>∃a,x = .ref a/\∃xs,H a>>xs/\(gM xs lo hi=xs->Q (.ref a) H)/\(∀p,H p=none->Q (.ref p) (upd H p (.tup (gM xs lo hi))))
theorem Ii:SlR X rST:=DX.imp λ_ _ _ _ _ B=>by obtain⟨a,e,xs,h,q⟩:=B;exact(⟨a,xs,e,.of h,q⟩)
def iL (K:fx) (tl:TE):TI:=λσ H R=>tl σ H λx H1=>∃a,x = .ref a/\∃xs,H1 a*>xs/\R (Itl K a) H1
def iT (K:fx) (tl:TE):TI:=λσ H R=>tl σ H λx H1=>∃a,x = .ref a/\∃xs,H1 a>>xs/\R (Itt K a) H1
theorem Iu {tl:TE} (hl:PE X l tl):PI X tg l (iL X.K tl):=by
 intro pins s σ H R I h;refine thn (hl pins s σ H _ I h) λv L B=>?_
 obtain⟨x,H1,F,Y,a,e,xs,hq,q⟩:=B;subst e;cases Y;obtain⟨its,rv,p,hz⟩:=F.list (SqL.of hq);refine Js p.isList ?_
 refine⟨L.heap.objs.size,[L.heap.objs.size],_,_,H1,rfl,F.kept (t':=L.toks) λb o e=>d_ _ e,zD a _,⟨_,gr _ rfl,rfl,rfl⟩,λb Z=>?_,q⟩
 have e:b=L.heap.objs.size:=by simpa using Z
 subst e;exact F.fpOk (hH _) (F.hok.fresh (hH _))
theorem IM {tl:TE} (hl:PE X l tl):PI X tg l (iT X.K tl):=by
 intro pins s σ H R I h;refine thn (hl pins s σ H _ I h) λv F B=>?_
 obtain⟨x,H1,L,Y,a,e,xs,hq,q⟩:=B;subst e;cases Y;obtain⟨its,rv,p,hz⟩:=L.tuple (SqT.of hq);refine v9 (show F.heap.IsTuple a its.toArray from p) ?_
 refine⟨F.heap.objs.size,[F.heap.objs.size],_,_,H1,rfl,L.kept (t':=F.toks) λb o e=>d_ _ e,xT a _,⟨_,gr _ rfl,rfl,rfl⟩,λb Z=>?_,q⟩
 have e:b=F.heap.objs.size:=by simpa using Z
 subst e;exact L.fpOk (hH _) (L.hok.fresh (hH _))
abbrev RM:=Addr->List V->Hp->VK->Prop
def MtL (X:Cx) (id:String) (r:RM):Prop:=MtR X id λx vs H Q=>∃p,x = .ref p/\r p vs H Q
def tML (r:RM) (to:TE) (t:TA):TE:=λσ H Q=>to σ H λx H1=>∃p,x = .ref p/\(∃xs,H1 p*>xs)/\t σ H1 λvs H2=>r p vs H2 Q
variable {id:String} {r:RM}
theorem gN (aa:Slot "list" name id) (ac:typeOf (.builtin id)=pure (.type "method_descriptor")) (hm:MtL X id r) (ho:PE X o to) (ha:PA X (e :: es) t)
  (Y:JN o name X.env (eval o X.env)=eval o X.env:=by rfl)
  (ab:((A_ cpos (j9 (e :: es) X.env)).all (λx=>!x.1) && (backToKw cpos (keywordEach [] X.env)).all (λx=>x.1.isSome)
   && decide ((e :: es).length+([]:List Keyword).length+(if ([]:List Keyword).isEmpty then 0 else 1) < 30))=true:=by rfl)
  (Z:(apos.endLine == cpos.line)=true:=by rfl) (hs:j9 (e :: es) X.env=(false,eval e X.env) :: j9 es X.env:=by rfl) (L:(A_ cpos (j9 es X.env)).any (·.1)=false:=by rfl) :
  PE X (.Call (.Attribute o name apos) (e :: es) [] cpos) (tML r to t):=by
 intro pins s σ H Q I h;refine wpAny_Call_method_late Y ab Z rfl (thn (ho pins s σ H _ I h) λv s1 ⟨x,H1,I1,r1,p,ex,⟨xs,hp⟩,q1⟩=>?_)
 subst ex;have ty:tyV X.K "list" (.ref p) H1:=.inl ⟨rfl,xs,.of hp⟩
 obtain⟨h1,h2⟩:=xS I1 r1 ty;refine⟨"list",id,PySem.F.plainAttrs_list,aa,ac,h1,h2,?_⟩
 have hA:=ha cpos pins s1 σ H1 _ I1 q1;rw[hs] at hA ⊢;refine JY (by show(false || (A_ cpos (j9 es X.env)).any (·.1))=false;rw[L] <;> rfl) (Calls.evalArgs_plain ?_)
 refine thn hA λus s2 B=>?_
 obtain⟨vs,H2,I2,rr,q2⟩:=B;exact hm pins s2 σ H2 (.ref p) vs v us Q I2 r1 rr ⟨p,rfl,q2⟩
theorem A6 (Y:Slot "list" name id) (Z:typeOf (.builtin id)=pure (.type "method_descriptor")) (hm:MtL X id r) (ho:PE X o to)
  (B:JN o name X.env (eval o X.env)=eval o X.env:=by rfl) (L:(apos.endLine == cpos.line)=true:=by rfl):PE X (.Call (.Attribute o name apos) [] [] cpos) (tML r to yl):=by
 intro pins s σ H Q I h;refine wpAny_Call_method0_late B L (thn (ho pins s σ H _ I h) λv s1 ⟨x,H1,I1,r1,p,ex,⟨xs,hp⟩,q1⟩=>?_)
 subst ex;have ty:tyV X.K "list" (.ref p) H1:=.inl ⟨rfl,xs,.of hp⟩
 obtain⟨h1,h2⟩:=xS I1 r1 ty;exact⟨"list",id,PySem.F.plainAttrs_list,Y,Z,h1,h2,JY rfl (PySem.evalArgs_none (hm pins s1 σ H1 _ [] v [] Q I1 r1 .nil ⟨p,rfl,q1⟩))⟩
def qO:RM:=λp vs H Q=>∃y,vs=[y]/\∃xs,H p*>xs/\xs.length < ge/\Q .non (upd H p (.lst (xs++[y])))
theorem db:MtL X "list.append" qO:=λpins s σ H x vs v us Q I L F B=>by obtain⟨p,e,y,e2,xs,h,hl,q⟩:=B;exact(sK pins s σ H x vs v us Q I L F ⟨p,xs,y,e,e2,h,hl,q⟩)
def qB:RM:=λp vs H Q=>∃b,vs=[.ref b]/\∃xs,H p*>xs/\∃zs,H b*>zs/\xs.length+zs.length<=ge/\Q .non (upd H p (.lst (xs++zs)))
theorem nI:MtL X "list.extend" qB:=λpins s σ H x vs v us Q I L F B=>by obtain⟨p,e,b,e2,xs,h,zs,h2,hl,q⟩:=B;exact(zt pins s σ H x vs v us Q I L F ⟨p,b,xs,zs,e,e2,h,h2,hl,q⟩)
def AN:RM:=λp vs H Q=>vs=[]/\∃xs,H p*>xs/\∃y,xs[xs.length - 1]? = some y/\Q y (upd H p (.lst xs.dropLast))
theorem Gc:MtL X "list.pop" AN:=λpins s σ H x vs v us Q I L F B=>by obtain⟨p,e,e2,xs,h,y,hl,q⟩:=B;exact(Gm pins s σ H x vs v us Q I L F ⟨p,xs,y,e,e2,h,hl,q⟩)
def rCL:R2:=λx y H Q=>∃l,x = .ref l/\∃b,y = .ref b/\∃xs,H l*>xs/\∃zs,H b*>zs/\xs.length+zs.length<=ge/\∀p,H p=none->Q (.ref p) (upd H p (.lst (xs++zs)))
theorem ud:OpR X (G2 .Add) rCL:=Gy.imp λ_ _ _ _ B=>by obtain⟨l,e,b,e2,xs,h,zs,h2,hl,q⟩:=B;exact(⟨l,b,xs,zs,e,e2,h,h2,hl,q⟩)
def Ay (B:Bool):R2:=λx y H Q=>∃p,y = .ref p/\∃xs,H p*>xs/\gS x=true/\xs.all gS=true/\Q (.bl (if B then !inV x xs else inV x xs)) H
def C0 (B:Bool):R2:=λx y H Q=>∃p,y = .ref p/\∃xs,H p>>xs/\gS x=true/\xs.all gS=true/\Q (.bl (if B then !inV x xs else inV x xs)) H
theorem CV:OpR X (n6 .In) (Ay false):=rX.imp λ_ _ _ _ B=>by obtain⟨p,e,xs,h,f1,F,q⟩:=B;exact(⟨p,xs,e,.inl (.of h),f1,F,q⟩)
theorem iW:OpR X (n6 .In) (C0 false):=rX.imp λ_ _ _ _ B=>by obtain⟨p,e,xs,h,f1,F,q⟩:=B;exact(⟨p,xs,e,.inr (.of h),f1,F,q⟩)
theorem ky:OpR X (n6 .NotIn) (C0 true):=sX.imp λ_ _ _ _ B=>by obtain⟨p,e,xs,h,f1,F,q⟩:=B;exact(⟨p,xs,e,.inr (.of h),f1,F,q⟩)
def wU:List V->Hp->VK->Prop:=λxs H Q=>∃p,xs=[.ref p]/\∃ys,H p>>ys/\∀l,H l=none->Q (.ref l) (upd H l (.lst ys))
def Bn:List V->Hp->VK->Prop:=λxs H Q=>∃p,xs=[.ref p]/\∃ys,H p*>ys/\∀l,H l=none->Q (.ref l) (upd H l (.tup ys))
theorem iY:bX X (.type "list") wU:=lO.imp λ_ _ _ B=>by obtain⟨p,e,ys,h,q⟩:=B;exact(⟨p,ys,e,.inr (.of h),q⟩)
theorem cq:bX X (.type "tuple") Bn:=rg.imp λ_ _ _ B=>by obtain⟨p,e,ys,h,q⟩:=B;exact(⟨p,ys,e,.inl ⟨.of h,q⟩⟩)
def rCS:R2:=λx y H Q=>∃i,x = .str i/\∃j,y = .str j/\i.length+j.length<=ge/\Q (.str (i++j)) H
theorem uE:OpR X (G2 .Add) rCS:=wQ.imp λ_ _ _ _ B=>by obtain⟨i,e,j,e2,h,q⟩:=B;exact(⟨i,j,e,e2,h,q⟩)
def Cw:List V->Hp->VK->Prop:=λxs H Q=>∃z,xs=[.str z]/\z.length<=ge/\Q (.int z.length) H
theorem Ai:bX X (.builtin "len") Cw:=uu
end
def oC (J:It) (σ0:St) (g:TG) (tc:TT) (te:TE) (Q:VK) (H1:Hp) (D:Addr):Prop:=∃W:Nat->Nat->List V->Hp->Prop,(∃m,W 0 m [] (upd H1 D (.lst []))) /\
 ∀ i m ys H2,W i m ys H2->(J.stop i H2/\Q (.ref D) H2)\/(J.go i H2/\∃N:List V->Hp->Prop,(∀B H',N B H'->∃L,L < m/\W (i+1) L B H') /\
  ∀x H',J.yld i H2 x H'->g x σ0 H' λF H3=>tc F H3 λb Y=>if b=true then te F Y λy Z=>Z D*>ys/\ys.length < ge/\N (ys++[y]) (upd Z D (.lst (ys++[y]))) else N ys Y)
theorem Cp (nt:Nat) (js:List Nat) (wi:TI) (g:TG) (tc:TT) (te:TE):yR nt js wi g tc te=λσ H Q=>wi σ H λJ H1=>∀D,H1 D=none->oC J (cI nt js σ) g tc te Q H1 D:=rfl
def EQ (J:It) (g:TG) (tb:TS) (D:pI) (σ:St) (H1:Hp):Prop:=∃W:Nat->Nat->St->Hp->Prop,(∃m,W 0 m σ H1)/\∀i m σ H,W i m σ H ->
 (J.stop i H/\D.nx σ H)\/(J.go i H/\∃N:St->Hp->Prop,(∀ σ' H',N σ' H'->∃F,F < m/\W (i+1) F σ' H')/\∀x H',J.yld i H x H'->g x σ H' λB H2=>tb { D with nx:=N,ct:=N,bk:=D.nx } B H2)
theorem C1 (wi:TI) (g:TG) (tb:TS):HK wi g tb=λD σ H=>wi σ H λJ H1=>EQ J g tb D σ H1:=rfl
theorem bS {C:Hp->Prop} (w:Wlk J xs C) {g:TG} {tb:TS} {D:pI} {σ:St} {H:Hp} (B:Nat->St->Hp->Prop) (Y:B 0 σ H) (hl : ∀i σ H,B i σ H->C H)
  (Z : ∀i x σ H,i < xs.length->xs[i]? = some x->B i σ H->g x σ H λF H2=>tb { D with nx:=B (i+1),ct:=B (i+1),bk:=D.nx } F H2) (L : ∀ σ H,B xs.length σ H->D.nx σ H):EQ J g tb D σ H :=
 CZ w B Y hl Z L
theorem cM {C:Hp->Prop} (w:Wlk J xs C) {g:TG} {tc:TT} {te:TE} {σ0:St} {Q:VK} {H1:Hp} {D:Addr} (B:Nat->List V->Hp->Prop) (h0:B 0 [] (upd H1 D (.lst []))) (hl : ∀i ys H,B i ys H->C H)
  (hs : ∀i x ys H,i < xs.length->xs[i]? = some x->B i ys H->g x σ0 H λF H3=>tc F H3 λb L=>if b=true then te F L λy Y=>Y D*>ys/\ys.length < ge/\B (i+1) (ys++[y]) (upd Y D (.lst (ys++[y]))) else B (i+1) ys L)
  (Z : ∀ys H,B xs.length ys H->Q (.ref D) H):oC J σ0 g tc te Q H1 D:=Cq w B h0 hl hs Z
theorem FS (js:List Nat) (σ:St):cI 0 js σ=js.map λj=>(σ[j]?).join:=rfl
theorem GC (js:List Nat) (σ:St):cI 1 js σ=none :: js.map λj=>(σ[j]?).join:=rfl
theorem EO (js:List Nat) (σ:St):cI 2 js σ=none :: none :: js.map λj=>(σ[j]?).join:=rfl
theorem Gv (js:List Nat) (σ:St):cI 3 js σ=none :: none :: none :: js.map λj=>(σ[j]?).join:=rfl
theorem au.upd_new (s:au H H1) (hp:H1 p=none):au H (upd H1 p o):=λb u e=>by
 have e1:=s b u e;rw[ah (ao e1 hp)];exact e1
theorem au.upd0 (hp:H p=none):au H (upd H p o):=(au.refl H).upd_new hp
def IsB (H:Hp) (x:V) (T:String) (k:Bool):Prop:=match x with
 | .non=>k=false
 | .bl _=>k=(T == "bool" || T == "int")
 | .int _=>k=(T == "int")
 | .str _=>k=(T == "str")
 | .ref a=>(∃vs,H a>>vs/\k=(T == "tuple"))\/(∃vs,H a*>vs/\k=(T == "list"))
 | _=>False
def FW:List V->Hp->VK->Prop:=λxs H Q=>∃x T,xs=[x,.ty T]/\(T = "int" \/ T = "str" \/ T = "bool" \/ T = "tuple" \/ T = "list")/\∃k,IsB H x T k/\Q (.bl k) H
theorem Dl (K:fx) {T:String} (h:T = "int" \/ T = "str" \/ T = "bool" \/ T = "tuple" \/ T = "list") :
  kitOne K (.type "NoneType") (.type T)=some false/\kitOne K (.type "bool") (.type T)=some (T == "bool" || T == "int")/\kitOne K (.type "int") (.type T)=some (T == "int") /\
  kitOne K (.type "str") (.type T)=some (T == "str")/\kitOne K (.type "tuple") (.type T)=some (T == "tuple")/\kitOne K (.type "list") (.type T)=some (T == "list"):=by
 rcases h with rfl | rfl | rfl | rfl | rfl
 all_goals exact⟨rfl,rfl,rfl,rfl,rfl,rfl⟩
theorem jX:bX X (.builtin "isinstance") FW:=Bd.imp λxs H Q ⟨x,T,e,hT,k,hk,q⟩=>by
 obtain⟨Z,k2,B,Y,L,F⟩:=Dl X.K hT;cases x with
 | non=>cases hk;exact⟨_,_,T,_,e,.non,Z,q⟩
 | bl b=>cases hk;exact⟨_,_,T,_,e,.bl b,k2,q⟩
 | int b=>cases hk;exact⟨_,_,T,_,e,.int b,B,q⟩
 | str b=>cases hk;exact⟨_,_,T,_,e,.str b,Y,q⟩
 | ref a =>
  rcases hk with⟨vs,h,rfl⟩ | ⟨vs,h,rfl⟩
  .exact⟨_,_,T,_,e,.tup h,L,q⟩
  .exact⟨_,_,T,_,e,.lst h,F,q⟩
 | _=>exact hk.elim
def dC (c:Nat):Bool:=decide (97<=c) && decide (c<=122)
theorem qS (a b:Str):(a++b).length=a.length+b.length:=by
 show(a++b).cps.size=a.cps.size+b.cps.size
 exact Array.size_append
theorem pR (B:di k A):A.units+100 < cLine:=by have:=B.un;omega
end L2
namespace HT
open PySem PyProof.Rows
theorem cat_tup0 {t:Addr} {vs ws:List Value} (ht:IsTup s.heap t vs.toArray) (hb:IsTup s.heap b ws.toArray) (hv:vs=[])
  (h1:Q (.ref b) s):wpAny (model prog w) A (G2 .Add (.ref t) (.ref b)) Q E s:=by
 obtain⟨⟨cls,dd,data,sl⟩,ho,hc,n,hd⟩:=id ht;obtain⟨⟨ac,aa,Z,ab⟩,L,Y,n2,B⟩:=id hb;simp only at hc hd Y B;subst hc hd Y B;exact concat_meets ⟨_,ho,rfl⟩ ⟨_,L,rfl⟩ noFill_tuple_add seq_tuple_add PySem.F.slot_tuple_add PySem.F.entry_tuple_add (PySem.F.args_tuple_add_2 _ _)
   (tuple_addW0 t b vs.toArray ws.toArray n n2 dd aa sl ab (by simp[hv])) ⟨ho,L,h1⟩
end HT
namespace L2
open PySem PySem.Spec PyProof.Rows
section
variable {a b o l:Expr} {t:TA}
def rCT:R2:=λx y H Q=>∃l,x = .ref l/\∃b,y = .ref b/\∃xs,H l>>xs/\∃ys,H b>>ys/\xs.length+ys.length<=ge /\
 (xs=[]->Q (.ref b) H)/\(xs≠[]->ys=[]->Q (.ref l) H)/\(xs≠[]->ys≠[]->∀p,H p=none->Q (.ref p) (upd H p (.tup (xs++ys))))
theorem Az:OpR X (G2 .Add) rCT:=by
 intro pins s σ H x y v u Q I Z Y h;obtain⟨a,rfl,b,rfl,xs,ha,ys,L,hz,q0,q1,q2⟩:=h
 by_cases B:xs=[]
 .cases Z
  cases Y;obtain⟨its,r1,p1,_⟩:=I.tuple (SqT.of ha);obtain⟨F,r2,p2,_⟩:=I.tuple (SqT.of L);exact HT.cat_tup0 p1 p2 (r1.nil_iff.mpr B) ⟨.ref b,H,I,rfl,q0 B⟩
 .exact DI pins s σ H _ _ v u Q I Z Y ⟨a,b,xs,ys,rfl,rfl,.of ha,.of L,B,hz,q1 B,q2 B⟩
def GN (i j:Int):Prop:=0 < j/\j < 18446744073709551616
theorem A3:OpR X (G2 .FloorDiv) (rI GN λi j=>.int (i / j)):=opI λi j _ _ _ _ _ B q=>by
 have h1:(0:Int) < j:=B.1
 have h2:j < 18446744073709551616:=B.2
 refine floordiv_int () (by rw[Int.fdiv_eq_ediv_of_nonneg i ()];exact q) (.inl (PyProof.noPylong_of_log2 ?_))
 have F:j.natAbs < 2 ^ 64:=()
 exact lt_trans ((Nat.log2_lt ()).mpr F) ∅
abbrev RMS:=Str->List V->Hp->VK->Prop
def MtS (X:Cx) (id:String) (r:RMS):Prop:=MtR X id λx vs H Q=>∃p,x = .str p/\r p vs H Q
def tMS (r:RMS) (to:TE) (t:TA):TE:=λσ H Q=>to σ H λx H1=>∃p,x = .str p/\t σ H1 λvs H2=>r p vs H2 Q
variable {id:String} {r:RMS}
theorem Ev (ab:Slot "str" name id) (ad:typeOf (.builtin id)=pure (.type "method_descriptor")) (hm:MtS X id r) (ho:PE X o to) (ha:PA X (e :: es) t)
  (Z:JN o name X.env (eval o X.env)=eval o X.env:=by rfl)
  (ac:((A_ cpos (j9 (e :: es) X.env)).all (λx=>!x.1) && (backToKw cpos (keywordEach [] X.env)).all (λx=>x.1.isSome)
   && decide ((e :: es).length+([]:List Keyword).length+(if ([]:List Keyword).isEmpty then 0 else 1) < 30))=true:=by rfl)
  (aa:(apos.endLine == cpos.line)=true:=by rfl) (hs:j9 (e :: es) X.env=(false,eval e X.env) :: j9 es X.env:=by rfl) (Y:(A_ cpos (j9 es X.env)).any (·.1)=false:=by rfl) :
  PE X (.Call (.Attribute o name apos) (e :: es) [] cpos) (tMS r to t):=by
 intro pins s σ H Q I h;refine wpAny_Call_method_late Z ac aa rfl (thn (ho pins s σ H _ I h) λv s1 L=>?_)
 obtain⟨x,H1,I1,r1,p,ex,q1⟩:=L;subst ex;obtain⟨h1,h2⟩:=xS I1 r1 (show tyV X.K "str" (.str p) H1 from rfl)
 refine⟨"str",id,PySem.F.plainAttrs_str,ab,ad,h1,h2,?_⟩
 have hA:=ha cpos pins s1 σ H1 _ I1 q1;rw[hs] at hA ⊢;refine JY (by show(false || (A_ cpos (j9 es X.env)).any (·.1))=false;rw[Y] <;> rfl) (Calls.evalArgs_plain ?_)
 refine thn hA λus s2 B=>?_
 obtain⟨vs,H2,I2,rr,q2⟩:=B;exact hm pins s2 σ H2 (.str p) vs v us Q I2 r1 rr ⟨p,rfl,q2⟩
theorem xh {ns:List Str} : ∀{us:List Value},bj (ns.map V.str) us->StrsAre us ns:=by
 induction ns with
 | nil=>intro us h;cases h;exact .nil
 | cons n ns L =>
  intro us h;cases h with
  | cons B F =>
   obtain⟨t,rfl⟩:=B;exact .cons _ _ (L F)
def xU:RMS:=λz vs H Q=>∃p,vs=[.ref p]/\∃ys:List Str,H p*>(ys.map V.str)/\(ys.map (·.length)).sum+ys.length * z.length<=16777216/\Q (.str (Txt.join z ys)) H
theorem DD:MtS X "str.join" xU:=by
 intro pins s σ H x vs v us Q I Y L h;obtain⟨z,rfl,p,rfl,ys,hp,B,q⟩:=h;obtain⟨t,rfl⟩:=Y;obtain⟨u,rfl,F⟩:=dv L;cases F;obtain⟨its,r,pl,Z⟩:=I.list (SqL.of hp);exact join_list pl.isList (ys:=ys) (by simpa using xh r) B λt' k=>⟨.str _,H,I.tok k,⟨t',rfl⟩,q⟩
def pL:RMS:=λz vs H Q=>∃y,vs=[.str y]/\∃i rest,JL z y 0 z.length 1=i :: rest/\Q (.int (i:Nat)) H
theorem AX:MtS X "str.index" pL:=by
 intro pins s σ H x vs v us Q I Y F h;obtain⟨z,rfl,y,rfl,i,rest,B,q⟩:=h;obtain⟨t,rfl⟩:=Y;obtain⟨u,rfl,L⟩:=dv F;obtain⟨t',rfl⟩:=L;exact SC.index B ⟨.int i,H,I.tok _,⟨_,rfl⟩,q⟩
end
theorem DO {a b:Str} (h:a.cps.toList=b.cps.toList):a=b:=by
 cases a;cases b;congr 1;exact Array.ext' h
theorem li (a b:Str):(a++b).cps.toList=a.cps.toList++b.cps.toList:=by
 show(a.cps++b.cps).toList=_
 simp
theorem ir (l:List Nat) (s:Nat) : ∀n,s+n<=l.length->((range n).map λk=>s+k).filterMap (λi=>l[i]?)=(l.drop s).take n
 | 0,_=>by simp
 | n+1,h=>by
  rw[List.range_succ,k9,List.filterMap_append,ir l s n (),i7]
  have e:l[s+n]? = some (l[s+n]'()):=by simp
  simp[e,List.getElem?_drop]
theorem E2 (lo hi:Option Int) (n:Nat):Builtin.Str.strSliceIndices lo hi 1 n=(range (HT.sIx n n hi - HT.sIx n 0 lo)).map λk=>HT.sIx n 0 lo+k:=by
 have B : ∀(v:Int) (d:Nat),(if (1:Int) > 0 then max 0 (min (if v < 0 then v+(n:Int) else v) (n:Int)) else max (-1) (min (if v < 0 then v+(n:Int) else v) ((n:Int) - 1)))=((HT.sIx n d (some v):Nat):Int):=λv d=>by
  rw[if_pos ∅]
  show max 0 (min (if v < 0 then v+(n:Int) else v) (n:Int))=(((if v < 0 then(v+(n:Int)).toNat else min v.toNat n):Nat):Int)
  split <;> rw[Int.max_def,Int.min_def] <;> split <;> split <;> omega
 have base : ∀(a b:Nat),sliceRange (a:Int) (b:Int) 1=(range (b - a)).map λk=>a+k:=λa b=>by
  unfold sliceRange;simp only[show(1:Int) > 0 by decide,if_true,Int.one_mul]
  have e:(if (a:Int) < (b:Int) then((b:Int) - (a:Int)+1 - 1) / 1 else 0).toNat=b - a:=by
   split
   .rw[Int.ediv_one];omega
   .show(0:Int).toNat=b - a
    rw[Int.toNat_zero];omega
  rw[e];refine m9 λk _=>?_
  omega
 unfold Builtin.Str.strSliceIndices;cases lo with
 | none=>cases hi with
  | none=>exact base 0 n
  | some v=>simp only[];rw[B v n];exact base 0 _
 | some u=>cases hi with
  | none=>simp only[];rw[B u 0];exact base _ n
  | some v=>simp only[];rw[B u 0,B v n];exact base _ _
theorem ni (x:Str) (lo hi:Option Int):(H_ x lo hi).cps.toList=(x.cps.toList.drop (HT.sIx x.length 0 lo)).take (HT.sIx x.length x.length hi - HT.sIx x.length 0 lo):=by
 have h1:=HT.sIx_le x.length x.length (hH _) hi;have F:=HT.sIx_le x.length 0 (x5 _) lo;have hl:x.cps.toList.length=x.length:=by show x.cps.toList.length=x.cps.size;simp
 unfold H_;rw[E2]
 split
 .rename_i h
  simp only[beq_self_eq_true,Bool.true_and,c_,List.length_range,beq_iff_eq] at h;have B:HT.sIx x.length 0 lo=0:=()
  rw[h,B,drop_zero,<- hl,ki]
 .show((List.map _ _).filterMap (λi=>x.cps[i]?)).toArray.toList=_
  rw[List.toList_toArray];rw[<- ir _ _ _ ()]
  refine congrArg (λf=>List.filterMap f _) (funext λi=>?_)
  simp
theorem B9 (ys:List Str):(Txt.join (b_ "") ys).cps.toList=ys.flatMap λy=>y.cps.toList:=by
 have key : ∀(l:List Str) (B:Array Nat),(l.foldl (λB p=>B++(b_ "").cps++p.cps) B).toList=B.toList++l.flatMap λy=>y.cps.toList:=by
  intro l
  induction l with
  | nil=>intro B;simp
  | cons a l F =>
   intro B;rw[List.foldl_cons,F];have e:(b_ "").cps = #[]:=by decide+kernel
   simp[e]
 show((ys.drop 1).foldl _ (ys.headD Str.empty).cps).toList=_
 rw[key];cases ys with
 | nil=>simp;decide+kernel
 | cons a l=>simp
structure fL (w:Str):Prop where
 pos:1<=w.length
 le:w.length<=8
 small : ∀c∈w.cps.toList,dC c=true
theorem mh (x:Str):x.cps.toList.length=x.length:=by show x.cps.toList.length=x.cps.size;simp
theorem fL.cons {w:Str} (h:fL w) : ∃c cs,w.cps.toList=c :: cs/\dC c=true/\(∀x∈cs,dC x=true)/\cs.length<=7:=by
 have hl:=mh w;cases e:w.cps.toList with
 | nil=>rw[e] at hl;have:=h.pos;simp at hl;omega
 | cons c cs =>
  rw[e] at hl;have:=h.le
  exact⟨c,cs,rfl,h.small c (by rw[e];simp),λx B=>h.small x (by rw[e];simp[B]),by simp at hl;omega⟩
theorem fL.of {w:Str} {c:Nat} {cs:List Nat} (e:w.cps.toList=c :: cs) (L:dC c=true) (B : ∀x∈cs,dC x=true) (hl:cs.length<=7):fL w:=by
 have h:=mh w;rw[e] at h;simp at h
 refine⟨(),(),λx F=>?_⟩
 rw[e] at F;rcases i6.mp F with rfl | q
 .exact L
 .exact B x q
theorem qe {r:Int} (B:0<=r) (h1:r < 26):atI (b_ "abcdefghijklmnopqrstuvwxyz").cps.toList r=some (97+r.toNat):=by
 obtain⟨n,rfl⟩:=x4 B;rw[show(b_ "abcdefghijklmnopqrstuvwxyz").cps.toList=List.range' 97 26 by decide+kernel]
 refine cg ?_
 rw[List.getElem?_range' ()]
 simp
theorem pe:(b_ "abcdefghijklmnopqrstuvwxyz").length<=ge:=by decide+kernel
theorem rK {c:Nat} (h:dC c=true):JL (b_ "abcdefghijklmnopqrstuvwxyz") ⟨#[c]⟩ 0 (b_ "abcdefghijklmnopqrstuvwxyz").length 1=(c - 97) :: []:=by
 have key : ∀i:Fin 26,JL (b_ "abcdefghijklmnopqrstuvwxyz") ⟨#[97+i.1]⟩ 0 (b_ "abcdefghijklmnopqrstuvwxyz").length 1=[i.1]:=by decide+kernel
 simp only[dC,k_,decide_eq_true_eq] at h;have:=key ⟨c - 97,()⟩
 simp only[show 97+(c - 97)=c by omega] at this
 exact this
def wM (c:Nat):Nat:=97+(c - 97+1) % 26
def Ec:List Nat->List Nat
 | []=>[]
 | c :: cs=>wM c :: cs
def qL (w:Str):Str:=⟨(Ec w.cps.toList).toArray⟩
def qz:Nat->Str->Str
 | 0,w=>w
 | n+1,w=>qz n (qL w)
theorem qE (c:Nat):dC (wM c)=true:=by
 have:=Nat.mod_lt (c - 97+1) (show 0 < 26 by decide)
 unfold dC wM;rw[k_,decide_eq_true_eq,decide_eq_true_eq];exact⟨(),()⟩
theorem Eu {w:Str} (h:fL w):fL (qL w):=by
 obtain⟨c,cs,e,F,B,hl⟩:=h.cons;exact .of (c:=wM c) (cs:=cs) (by simp[qL,e,Ec]) (qE c) B hl
theorem Cn {c:Nat} {cs:List Nat} : ∀(n:Nat) {w:Str},w.cps.toList=c :: cs->dC c=true->(qz n w).cps.toList=(97+(c - 97+n) % 26) :: cs:=by
 intro n
 induction n generalizing c with
 | zero =>
  intro w e B;simp only[dC,k_,decide_eq_true_eq] at B;rw[qz,e]
  congr 1
  omega
 | succ n F =>
  intro w e B;rw[qz,F (c:=wM c) (by simp[qL,e,Ec]) (qE c)]
  congr 1
  simp only[wM];omega
theorem fc {α:Type} [BEq α] [LawfulBEq α] : ∀{xs ys:List α},xs.Nodup->(∀x∈xs,x∈ys)->xs.length<=ys.length
 | [],_,_,_=>by simp
 | x :: xs,ys,hn,h=>by
  have B:=mu.mp hn;have L:=h x (by simp)
  have:=fc (xs:=xs) (ys:=ys.erase x) B.2 λz Y=>by
   have F:z≠x:=λe=>B.1 (e ▸ Y)
   exact(List.mem_erase_of_ne F).mpr (h z (by simp[Y]))
  rw[List.length_erase_of_mem L] at this;have:=Jp L
  simp
  omega
theorem At {w:Str} (h:fL w) {F:List Str} (hF:F.length < 26) : ∃n,qz n w∉F:=by
 obtain⟨c,cs,e,hc,aa,hl⟩:=h.cons;have B : ∀i j,i < 26->j < 26->qz i w=qz j w->i=j:=λi j hi hj q=>by
  have q2:=congrArg (λz:Str=>z.cps.toList) q
  simp only[Cn _ e hc] at q2;have q3:=(List.cons.inj q2).1;omega
 refine nH λY=>?_
 have L : ∀n,qz n w∈F:=λn=>nH λq=>Y ⟨n,q⟩
 have Z:((range 26).map λn=>qz n w).Nodup:=by
  refine Gt.mpr (G4 (λ{i j} hi hj q e=>q (B i j (Kf.mp hi) (Kf.mp hj) e)) (List.nodup_range (n:=26)))
 have:=fc (ys:=F) Z λx hx=>by
  obtain⟨n,_,rfl⟩:=g7.mp hx;exact L n
 simp at this
 omega
theorem El (a b:Str):eqV (.str a) (.str b)=decide (a=b):=by
 show(a == b)=decide (a=b)
 rw[ow];simp
theorem vK (x:Str) (ys:List Str):inV (.str x) (ys.map V.str)=decide (x∈ys):=by
 rw[ow];simp only[inV,any_map,w_,Function.comp,El,decide_eq_true_eq]
 constructor
 .rintro⟨y,hy,rfl⟩;exact hy
 .exact λh=>⟨x,h,rfl⟩
theorem zJ (ys:List Str):(ys.map V.str).all gS=true:=by
 rw[z_];intro x B;obtain⟨y,_,rfl⟩:=g7.mp B;rfl
def fT:List Str:=["in","from","to","end"]
structure hE (ws:List Str):Prop where
 nm : ∀w∈ws,fL w
 nd:ws.Nodup
 nomark : ∀w∈ws,w∉fT
theorem hE.nil:hE []:=⟨by simp,by simp,by simp⟩
theorem hE.snoc {w:Str} (h:hE ws) (L:fL w) (hn:w∉ws) (Y:w∉fT):hE (ws++[w]):=by
 refine⟨λx B=>?_,?_,λx B=>?_⟩
 .rcases ja.mp B with q | q
  .exact h.nm x q
  .rw[e_.mp q];exact L
 .rw[rb]
  refine⟨h.nd,by simp,λa ha b F=>?_⟩
  rw[e_.mp F];rintro rfl
  exact hn ha
 .rcases ja.mp B with q | q
  .exact h.nomark x q
  .rw[e_.mp q];exact Y
theorem vh (x:α) (xs:List α):atI (x :: xs) 0=some x:=cg (j:=0) rfl
theorem Eb {z:Str} {r:Int} {c:Nat} (B:fL z) (Z:dC c=true) (Y:0<=r) (r1:r < z.length):fL (H_ z none (some r)++(Str.mk #[c])++H_ z (some (r+1)) none):=by
 obtain⟨n,rfl⟩:=x4 Y;have hn:n < z.length:=()
 have hl:=mh z;have e:(H_ z none (some (n:Int))++(Str.mk #[c])++H_ z (some ((n:Int)+1)) none).cps.toList=z.cps.toList.take n++[c]++z.cps.toList.drop (n+1):=by
  rw[li,li,ni,ni,HT.sIx_none,HT.sIx_nat,HT.sIx_none,show((n:Int)+1)=((n+1:Nat):Int) by omega,HT.sIx_nat,min_eq_left (),min_eq_left ()]
  rw[drop_zero,sub_zero,p_ (i:=z.length - (n+1)) (by rw[length_drop,hl];omega)]
 have h8:=B.le;have F:(H_ z none (some (n:Int))++(Str.mk #[c])++H_ z (some ((n:Int)+1)) none).length=z.length:=by
  rw[<- mh,e];simp only[o9,IZ,length_drop,u6,length_nil,hl];omega
 refine⟨(),(),λx L=>?_⟩
 rw[e] at L;rcases ja.mp L with q | q
 .rcases ja.mp q with q | q
  .exact B.small x (F_ q)
  .rw[e_.mp q];exact Z
 .exact B.small x (List.mem_of_mem_drop q)
theorem yh (cs:List Nat):(Txt.join (b_ "") (cs.map λc=>Str.mk #[c])).cps.toList=cs:=by
 rw[B9]
 induction cs with
 | nil=>rfl
 | cons c cs B=>simp[B]
theorem A8 (cs:List Nat):((cs.map λc=>Str.mk #[c]).map λx=>x.length).sum=cs.length:=by
 induction cs with
 | nil=>rfl
 | cons c cs B =>
  rw[i9,i9,List.sum_cons,B]
  show 1+cs.length=cs.length+1
  omega
def Dv:V->Option Int->Option Int->Hp->VK->Prop:=λx lo hi H Q=>∃a,x = .ref a/\∃xs,H a>>xs/\∀p H',H' p>>(gM xs lo hi)->au H H'->Q (.ref p) H'
theorem sw:SlR X Dv:=Ii.imp λ_ _ _ _ _ B=>by obtain⟨a,e,xs,h,q⟩:=B;exact(⟨a,e,xs,h,λF=>q a _ (by rw[F];exact h) (au.refl _),λp hp=>q p _ ae (au.upd0 hp)⟩)
def EU:R2:=λx y H Q=>∃l,x = .ref l/\∃b,y = .ref b/\∃xs,H l>>xs/\∃ys,H b>>ys/\xs.length+ys.length<=ge/\∀p H',H' p>>(xs++ys)->au H H'->Q (.ref p) H'
theorem Bz:OpR X (G2 .Add) EU:=Az.imp λ_ _ _ _ ⟨l,e,b,e2,xs,h,ys,h2,hl,q⟩=>⟨l,e,b,e2,xs,h,ys,h2,hl,
 λF=>q b _ (by rw[F];exact h2) (au.refl _),λ_ B=>q l _ (by rw[B,Ju];exact h) (au.refl _),λ_ _ p hp=>q p _ ae (au.upd0 hp)⟩
theorem yq (f:α->V) (xs:List α) (n:Nat):gM (xs.map f) none (some (n:Int))=(xs.take n).map f:=by
 unfold gM;rw[HT.sIx_none,HT.sIx_nat,drop_zero,sub_zero,c_,map_take]
 by_cases h:n<=xs.length
 .rw[min_eq_left h]
 .rw[Nat.min_eq_right (),p_ (by simp),p_ (by simp;omega)]
theorem mB (f:α->V) (xs:List α) (n:Nat):gM (xs.map f) (some (n:Int)) none=(xs.drop n).map f:=by
 unfold gM;rw[HT.sIx_none,HT.sIx_nat,c_,map_drop]
 by_cases h:n<=xs.length
 .rw[min_eq_left h,p_ (by simp)]
 .rw[Nat.min_eq_right (),List.drop_of_length_le (l:=List.map f xs) (i:=n) (by simp;omega)]
  simp
theorem IT (x:α) (xs:List α):atI (x :: xs) 0=some x:=cg (j:=0) rfl
theorem IH (x y:α) (xs:List α):atI (x :: y :: xs) 1=some y:=cg (j:=1) rfl
theorem IU (x y z:α) (xs:List α):atI (x :: y :: z :: xs) 2=some z:=cg (j:=2) rfl
theorem IJ (x y z a:α) (xs:List α):atI (x :: y :: z :: a :: xs) 3=some a:=cg (j:=3) rfl
theorem Ir (x y z a b:α) (xs:List α):atI (x :: y :: z :: a :: b :: xs) 4=some b:=cg (j:=4) rfl
theorem dY {a b:String}:(b_ a=b_ b)=(a=b):=by
 refine propext ⟨λh=>?_,λh=>by rw[h]⟩
 rw[Str.ofString_eq_toList,Str.ofString_eq_toList] at h;have h1:=congrArg (λs:Str=>s.cps.toList) h
 simp only[List.toList_toArray] at h1;have key : ∀(F B:List Char),F.map Char.toNat=B.map Char.toNat->F=B:=by
  intro F
  induction F with
  | nil=>intro B h;cases B with
   | nil=>rfl
   | cons a b=>cases h
  | cons a b L=>intro B h;cases B with
   | nil=>cases h
   | cons c d =>
    rw[i9,i9,List.cons.injEq] at h;rw[L d h.2,Char.toNat_inj.mp h.1]
 exact String.toList_injective (key _ _ h1)
theorem PG.imp {g g':TG} (h:PG X tg g) (i : ∀v σ H Q,g' v σ H Q->g v σ H Q):PG X tg g':=λpins s σ H v u Q I r q=>h pins s σ H v u Q I r (i _ _ _ _ q)
def vz (n:Nat) (t:TGs):TG:=λv σ H Q=>∃a,v = .ref a/\∃xs,H a>>xs/\xs.length=n/\t xs σ H Q
theorem jf {t:TGs} (L:X.calm=true) (h:PGs X es t)
  (hn:(Km es X.env).length=n:=by rfl) (F:(Km es X.env).findIdx? (·.1)=none:=by rfl):PG X (.Tuple es k pos) (vz n t) :=
 (EM L h hn F).imp λ_ _ _ _ B=>by obtain⟨a,e,xs,h,hl,q⟩:=B;exact(⟨a,xs,e,.of h,hl,q⟩)
theorem fL.lay {w:Str} (h:fL w):JB (.str w)=true:=by
 show(w.cps.all (· < 0x110000))=true
 rw[Array.all_eq_true_iff_forall_mem];intro c B;have:=h.small c (by simpa using B)
 simp only[dC,k_,decide_eq_true_eq] at this;exact decide_eq_true ()
theorem vF : ∀{ws:List Str},(∀w∈ws,fL w)->q_ (ws.map PyData.str)=true
 | [],_=>rfl
 | w :: ws,h=>by
  rw[i9,q_,(h w (by simp)).lay,vF λx B=>h x (by simp[B])]
  rfl
theorem qU : ∀(ws:List Str),Jh (ws.map PyData.str)=0
 | []=>rfl
 | w :: ws=>by
  rw[i9,Jh,Kd,qU ws];rfl
def xF:List V->Hp->VK->Prop:=λxs H Q=>∃p,xs=[.ref p]/\∃kvs,H p<*kvs/\∀q,H q=none->Q (.ref q) (upd H q (.dK kvs))
theorem ji:bX X (.type "dict") xF:=by
 intro pins s σ H xs us Q I r h;obtain⟨p,rfl,kvs,hp,q⟩:=h;obtain⟨u,rfl,Z⟩:=dv r;cases Z;obtain⟨z,L,vs,B,Y⟩:=qQ I.hok hp;refine PySem.kt_call_dict L Y (by rw[<- B.length];exact z) λh' F sb=>?_
 have hold : ∀b o,s.heap.get? b=some o->h'.get? b=some o:=λb o e=>sb.extBut b o (j_ (e9 e)) (d_ _ e)
 exact⟨.ref s.heap.objs.size,_,I.laid (a:=s.heap.objs.size) (o:=.dK kvs) (t':=s.toks) hold (hH _) ⟨z,beq_eq_false_iff_ne.mpr (tj (j_ I.big)),vs,B,F⟩,rfl,q _ (I.hok.fresh (hH _))⟩
def de:V->Bool
 | .non=>true
 | .bl _=>true
 | .int _=>true
 | .str _=>true
 | .ref _=>true
 | _=>false
theorem zW {v:V} {a b:Value} (L:de v=true) (F:bq v a) (B:bq v b):SeqAt.EqAt A s a b true:=by
 cases v with
 | non=>cases F;cases B;exact SeqAt.EqAt.same _
 | bl b=>cases F;cases B;exact SeqAt.EqAt.same _
 | int i =>
  obtain⟨t,rfl⟩:=F;obtain⟨t',rfl⟩:=B;have h:=SeqAt.EqAt.int_int (A:=A) (s:=s) i t i t';simpa using h
 | str i =>
  obtain⟨t,rfl⟩:=F;obtain⟨t',rfl⟩:=B;have h:=SeqAt.EqAt.str_str (A:=A) (s:=s) i t i t';simpa using h
 | ref a=>cases F;cases B;exact SeqAt.EqAt.same _
 | _=>exact absurd (show false=true from L) jc
theorem jK {κ:Type} [DecidableEq κ] : ∀{kvs:List (κ × V)} {k:κ} {v:V},(kvs.map (·.1)).Nodup->(k,v)∈kvs->bQ kvs k=some v
 | (a,b) :: r,k,v,hn,hm=>by
  rw[i9,mu] at hn;rcases i6.mp hm with e | e
  .cases e
   exact bB rfl
  .have hne : ¬ a=k:=λz=>hn.1 (by subst z;exact g7.mpr ⟨(a,v),e,rfl⟩)
   rw[aW hne];exact jK hn.2 e
theorem zL (Y:KV kvs vb) : ∀{l:List (Key × V)} {F:List (Key × Value)},KV l F->(∀p∈l,bQ kvs p.1=some p.2/\de p.2=true)->PySem.W.KeqHits A s vb F true:=by
 intro l F r;unfold KV at r
 induction r with
 | nil=>intro _;exact .nil
 | @cons p q ps qs h _ ih =>
  intro B;obtain⟨k,v⟩:=p;obtain⟨k',u⟩:=q;obtain⟨e,L⟩:=h;dsimp only at e L;subst e;obtain⟨h1,h2⟩:=B (k,v) (by simp)
  dsimp only at h1 h2;obtain⟨y,hy,Z⟩:=jk.some_of (v:=v) (o:=valueAt vb k) (by rw[<- h1];exact Y.val k)
  exact PySem.W.KeqHits.hit (e:=true) (b:=true) hy (zW h2 L Z) (ih λp hp=>B p (by simp[hp]))
def uy:RM:=λp vs H Q=>∃i,vs=[.int i]/\∃xs,H p*>xs/\0<=i/\i < xs.length/\xs.length<=1000/\∀y,xs[i.toNat]? = some y->Q y (upd H p (.lst (xs.eraseIdx i.toNat)))
theorem BA:MtL X "list.pop" uy:=λpins s σ H x vs v us Q I F L ⟨p,e,i,e2,xs,h,i0,i1,hl,q⟩=>by
 have B:i.toNat < xs.length:=()
 exact AF pins s σ H x vs v us Q I F L ⟨p,xs,i,i.toNat,xs[i.toNat],e,e2,h,(),(),seqIndex_of i0 i1,by simp[B],q _ (by simp[B])⟩
def ap (mg:Str->Option Value) (x:Str):Addr:=match mg x with | some (.ref a)=>a | _=>0
theorem fJ (h:mg x=-C):ap mg x=C:=by unfold ap;rw[h]
structure gp (K:fx) (C:Addr) (m:Str) (f:Addr):Prop where
 sp:specialIn K (.ref C) "__getattribute__" = some (some (.builtin "type.__getattribute__"))
 rd:PySem.W.readsIn K C (.type "type")=true
 fd:PySem.W.findCls K (.ref C) (.type "type") m=some (.val (.ref f))
 kp:J6 K (.ref f)=true
def cJ (K:fx) (R:Addr->Prop) (x q:Str) (st:Stmt) (ps:List Str):Prop:=∃f fd,Fun K x q st f fd/\R f/\kK K fd ps []
def FnR (P:Program) (w:World) (K:fx) (mg:Str->Option Value) (base:Heap) (R:Addr->Prop) (k:Nat) (ps:List Str) (sp:Sp):Prop:=∃f fd,ll P w K mg base CX0 k f fd ps sp/\R f/\kK K fd ps []
section
variable {R:Addr->Prop}
theorem cJ.ok {x q:Str} {st:Stmt} {N ps:List Str} {k:Nat} {sp:Sp} (F:cJ K R x q st ps) (S:aA N ps (ak st)) (L : ∀vs H Q E,sp vs H Q E->vs.length=ps.length)
  (B : ∀(f:Addr) (cdv:Value) (A:Around) (outer:List Env) (s:Shared) (H:Hp) (vs:List V) (Q:VK) (E:XK),di k (A.deeper (envOfC q (ak st) s.heap.objs.size f cdv))->sp vs H Q E ->
   ∃t,PSs (uC CX0 P w K mg base N q (ak st) f cdv A outer s H E).nox (cB st) t/\t { nx:=λ_ H'=>Q .non H',rt:=Q } (jt N vs) H):FnR P w K mg base R (k+1) ps sp:=by
 obtain⟨f,fd,F,r,b⟩:=F;exact⟨f,fd,F.ok S L (B f),r,b⟩
theorem Ed {q:Str} {B:Option Addr} {kV:Value} (r:R f)
  (l:K.lookup f=some ⟨oc,od,.func (fnOf x q (cU st) (cB st) (ak st) .none kV doc pm B cdv ct),osl⟩)
  (c:codeIn K cdv q=true) (k:J6 K (.ref f)=true)
  (F : ∀(kV doc pm:Value) (B:Option Addr) (cdv ct:Value) (us:List Value),us.length=ps.length->bindArgs (fnOf x q (cU st) (cB st) (ak st) .none kV doc pm B cdv ct) ⟨us,[]⟩=pure (ps.zip us)):cJ K R x q st ps :=
 ⟨f,_,qc l c k,r,(qc l c k).binds F⟩
end
def CQ (C:Addr) (ta:TE) (f:Str):TE:=λσ H Q=>ta σ H λx H1=>∃a,x = .ref a/\∃dx fs,H1 a=some (.ins C dx fs)/\∃v,fs.lookup f=some v/\Q v H1
def CP (C:Addr) (ta tv:TE) (f:Str):TS:=λD σ H=>tv σ H λy H1=>ta σ H1 λx H2=>∃a,x = .ref a/\∃dx fs,H2 a=some (.ins C dx fs)/\fs.length < 1000/\D.nx σ (upd H2 a (.ins C dx (cz f y fs)))
def xN (C:Addr) (m:Str) (sp:Sp) (ta:TE) (t:TA):TE:=λσ H Q=>ta σ H λx H1=>∃a,x = .ref a/\∃dx fs,H1 a=some (.ins C dx fs)/\fs.lookup m=none/\t σ H1 λvs H2=>sp (.ref a :: vs) H2 Q E0
def xB (C:Addr) (sp:Sp) (t:TA):TE:=λσ H Q=>t σ H λvs H1=>∀x dx,H1 x=none->H1 dx=none->dx≠x->sp (.ref x :: vs) (upd (upd H1 dx (.own x)) x (.ins C dx [])) (λv H2=>v = .non/\Q (.ref x) H2) E0
section
variable {o:Expr} {f m:Str} {p:Pos} {t:TA}
theorem aS (c:Cls X.K C) (n:aP X.K C f) (he:PE X e ta) (F:JN e f X.env (eval e X.env)=eval e X.env:=by rfl):PE X (.Attribute e f pos) (CQ C ta f):=by
 intro pins s σ H Q I h;refine yB F (thn (he pins s σ H _ I h) λu s1 B=>?_)
 obtain⟨x,H1,I1,rx,a,ex,dx,fs,L,v,l,q⟩:=B;subst ex;obtain rfl:u=g9 a:=rx
 exact pU I1 L c n l λu' s2 Z Y=>⟨v,H1,Z,Y,q⟩
theorem bE (c:Cls X.K C) (n:aP X.K C f) (ha:PE X o ta) (Y:PE X value tv) (L:KA value (some (.Attribute o f pos')) pos.line X.env=pure false):PS X (.Assign [.Attribute o f pos'] value pos) (CP C ta tv f):=by
 intro pins s σ H D I h;refine plainObj_wpAny_Assign_Attribute (thn (Y pins s σ H _ I h) λu s1 ⟨y,H1,I1,ry,q⟩=>thn (ha pins s1 σ H1 _ I1 q) λov s2 B=>?_) L
 obtain⟨x,H2,I2,rx,a,ex,dx,fs,Z,l,F⟩:=B;subst ex;obtain rfl:ov=g9 a:=rx
 exact xt I2 Z c n l ry λs3 I3=>⟨σ,_,I3,F⟩
theorem cy (c:Cls X.K C) (F:FnR X.prog X.w X.K X.mg X.base (aO X.K C m) k ps sp) (hr:di k X.A) (he:PE X o ta) (ha:PA X (e :: es) t)
  (Y:j9 (e :: es) X.env=(false,eval e X.env) :: j9 es X.env:=by rfl) (L:(A_ pos (j9 es X.env)).any (·.1)=false:=by rfl)
  (ht:eval (.Call (.Attribute o m apos) (e :: es) [] pos) X.env=(do
   let Z <- eval o X.env
   standAt apos.atName
   let (f,first) <- holding [Z] (getMethod Z m pl)
   callWith pos f first (A_ pos (j9 (e :: es) X.env)) (backToKw pos (keywordEach [] X.env))):=by rfl) :
  PE X (.Call (.Attribute o m apos) (e :: es) [] pos) (xN C m sp ta t):=by
 obtain⟨f,fd,F,hm,b⟩:=F;intro pins s σ H Q I h;refine methodCall_KW (pl:=pl) (thn (he pins s σ H _ I h) λu s1 B=>?_) ht
 obtain⟨x,H1,I1,rx,a,ex,dx,fs,ea,l,q⟩:=B;subst ex;obtain rfl:u=g9 a:=rx
 refine qd I1 ea c hm l ?_
 refine callWith_K (first:=[.ref a]) (h₀:=X.base) I.ok.mod.kin hm.kp (thn (ha pos pins s1 σ H1 _ I1 q) λus s2 ⟨vs,H2,I2,r,q2⟩=>⟨I2.kIn,?_⟩) Y L
 exact ox (us:=.ref a :: us) (vs:=.ref a :: vs) F hr b .nil qg I2 (.cons rfl r) (by rw[Ju];exact q2)
theorem gz (F:FnR X.prog X.w X.K X.mg X.base (Mk X.K C) k ps sp) (hr:di (k+1) X.A) (Y:Gl X x) (Z:X.mg x=-C)
  (ha:PA X (e :: es) t) (L:(x ==("__debug__" : Str))=false:=by decide) (he:j9 (e :: es) X.env=(false,eval e X.env) :: j9 es X.env:=by rfl) (B:(A_ pos (j9 es X.env)).any (·.1)=false:=by rfl) :
  PE X (.Call (.Name x p) (e :: es) [] pos) (xB C sp t):=by
 obtain⟨f,fd,F,M,b⟩:=F;intro pins s σ H Q I h;refine x3 (pJ I Y Z ?_ L)
 refine callWith_K (h₀:=X.base) I.ok.mod.kin M.kp (thn (ha pos pins s σ H _ I h) λus s1 ⟨vs,H1,I1,r,q⟩=>⟨I1.kIn,?_⟩) he B
 refine A4 M F hr b .nil qg I1 r ?_
 rw[Ju];exact q
theorem jm (F:FnR X.prog X.w X.K X.mg X.base (gp X.K C m) k ps sp) (hr:di k X.A) (hg:Gl X x) (hm:X.mg x=-C) (ha:PA X (e :: es) t) (aa:(x ==("__debug__" : Str))=false:=by decide)
  (Y:j9 (e :: es) X.env=(false,eval e X.env) :: j9 es X.env:=by rfl) (L:(A_ pos (j9 es X.env)).any (·.1)=false:=by rfl)
  (ht:eval (.Call (.Attribute (.Name x p) m apos) (e :: es) [] pos) X.env=(do
   let ov <- eval (.Name x p) X.env
   standAt apos.atName
   let (f,first) <- holding [ov] (getMethod ov m pl)
   callWith pos f first (A_ pos (j9 (e :: es) X.env)) (backToKw pos (keywordEach [] X.env))):=by rfl) :
  PE X (.Call (.Attribute (.Name x p) m apos) (e :: es) [] pos) (rT sp [] E0 t):=by
 obtain⟨f,fd,F,M,b⟩:=F;intro pins s σ H Q I h;have hC:PE X (.Name x p) (tC (.ref C)):=C4 hg hm rfl aa
 refine methodCall_KW (pl:=pl) (thn (hC pins s σ H (λv H1=>v = .ref C/\H1=H) I ⟨rfl,rfl⟩) λu s1 B=>?_) ht
 obtain⟨x,H1,Z,rx,ex,eH⟩:=B;subst ex;subst eH;obtain rfl:u=g9 C:=rx
 refine PySem.W.method_cls Z.kIn M.sp (PySem.W.cls_value Z.kIn M.rd M.fd rfl ?_)
 have I2:=Z.tok (s1.toks+1);refine callWith_K (first:=[]) (h₀:=X.base) I.ok.mod.kin M.kp (thn (ha pos pins _ σ H1 _ I2 h) λus s2 ⟨vs,H2,I3,r,q2⟩=>⟨I3.kIn,?_⟩) Y L
 exact ox F hr b .nil qg I3 r q2
end
def Ib (B:ScopeKind) (A xs:List (Str × y7)):List (Str × y7):=xs.map λ(n,k)=>if (k == .free && B == .function && A.lookup n == some .cell) then(n,.cell) else(n,k)
section
variable {l:Expr} {tl:TE}
theorem fX (K:fx) (hl:PE X l tl) (hK:X.K=K:=by exact rfl):PI X tg l (iL K tl):=by subst hK;exact Iu hl
theorem bK (K:fx) (hl:PE X l tl) (hK:X.K=K:=by exact rfl):PI X tg l (iT K tl):=by subst hK;exact IM hl
def BG:List V->Hp->VK->Prop:=λxs H Q=>∃p,xs=[.ref p]/\∃bs:List Bool,H p*>(bs.map V.bl)/\Q (.bl (bs.all id)) H
def CN:List V->Hp->VK->Prop:=λxs H Q=>∃p,xs=[.ref p]/\∃bs:List Bool,H p*>(bs.map V.bl)/\Q (.bl (bs.any id)) H
theorem no (F:X.calm=true):bX X (.builtin "all") BG:=(wR F).imp λ_ _ _ B=>by obtain⟨p,e,bs,h,q⟩:=B;exact(⟨p,bs,e,.of h,q⟩)
theorem gl (F:X.calm=true):bX X (.builtin "any") CN:=(yk F).imp λ_ _ _ B=>by obtain⟨p,e,bs,h,q⟩:=B;exact(⟨p,bs,e,.of h,q⟩)
end
theorem eA (f:Str) (v:V) : ∀fs:List (Str × V),(cz f v fs).length<=fs.length+1
 | []=>hH _
 | (g,u) :: fs=>by
  unfold cz
  split
  .simp
  .simpa using eA f v fs
theorem cT {C:Hp->Prop} (w:Wlk J xs C) {tc:TT} {te:TE} {σ0:St} {Q:VK} {H1:Hp} {D:Addr} (p:V->Bool) (f:V->V) (hD:H1 D=none) (hC : ∀H',au H1 H'->C H') (hn:xs.length<=1000)
  (hc : ∀(x:V) (H2:Hp) (F:Bool->Hp->Prop),x∈xs->au H1 H2->(∀B,au H2 B->F (p x) B)->tc (σ0.set 0 (some x)) H2 F)
  (he : ∀(x:V) (H2:Hp) (F:VK),x∈xs->p x=true->au H1 H2->(∀B,au H2 B->F (f x) B)->te (σ0.set 0 (some x)) H2 F)
  (Y : ∀H2,au H1 H2->H2 D*>((xs.filter p).map f)->Q (.ref D) H2):oC J σ0 (gb 0) tc te Q H1 D:=by
 refine cM w (λi ys H=>ys=((xs.take i).filter p).map f/\i<=xs.length/\au H1 H/\H D*>ys) ⟨by simp,x5 _,au.upd0 hD,ae⟩ (λi ys H h=>hC _ h.2.2.1) ?_ ?_
 .rintro i x ys H hi hx ⟨rfl,hle,sm,Y⟩
  refine hc x H _ (f_ hx) sm λB L=>?_
  have Z:((xs.take i).filter p).length<=xs.length:=gt (Kk _ _) (by simp;omega)
  cases hp:p x with
  | true =>
   simp only[if_true];refine he x B _ (f_ hx) hp (sm.trans L) λH4 s4=>⟨s4 _ _ (L _ _ Y),by simp;exact aE (),?_,hi,?_,ae⟩
   .rw[i7,hx];simp[hp]
   .exact λb o e=>by rw[ah (ao e hD)];exact s4 _ _ (L _ _ (sm b o e))
  | false =>
   simp only[g_,if_false];exact⟨by rw[i7,hx];simp[hp],hi,sm.trans L,L _ _ Y⟩
 .rintro ys H ⟨rfl,_,sm,hd'⟩
  rw[ki] at hd';exact Y H sm hd'
theorem cL {C:Hp->Prop} (w:Wlk J xs C) {te:TE} {σ0:St} {Q:VK} {H1:Hp} {D:Addr} (f:V->V) (Y:H1 D=none) (hC : ∀H',au H1 H'->C H') (hn:xs.length<=10000)
  (he : ∀(x:V) (H2:Hp) (F:VK),x∈xs->au H1 H2->(∀Z,au H2 Z->F (f x) Z)->te (σ0.set 0 (some x)) H2 F)
  (B : ∀H2,au H1 H2->H2 D*>(xs.map f)->Q (.ref D) H2):oC J σ0 (gb 0) wL te Q H1 D:=by
 refine cM w (λi ys H=>ys=(xs.take i).map f/\i<=xs.length/\au H1 H/\H D*>ys) ⟨by simp,x5 _,au.upd0 Y,ae⟩ (λi ys H h=>hC _ h.2.2.1) ?_ ?_
 .rintro i x ys H hi hx ⟨rfl,hle,sm,B⟩
  simp only[gb,wL,if_true];refine he x H _ (f_ hx) sm λH4 L=>⟨L _ _ B,by simp;exact r_ (gt (Nat.min_le_right _ _) hn) ∅,?_,hi,?_,ae⟩
  .rw[i7,hx];simp
  .exact λb o e=>by rw[ah (ao e Y)];exact L _ _ (sm b o e)
 .rintro ys H ⟨rfl,_,sm,hd'⟩
  rw[ki] at hd';exact B H sm hd'
theorem C5 (a b:Int):eqV (.int a) (.int b)=decide (a=b):=by
 show(a == b)=decide (a=b)
 rw[ow];simp
theorem dR (x:Int) (ys:List Int):inV (.int x) (ys.map V.int)=decide (x∈ys):=by
 rw[ow];simp only[inV,any_map,w_,Function.comp,C5,decide_eq_true_eq]
 constructor
 .rintro⟨y,hy,rfl⟩;exact hy
 .exact λh=>⟨x,h,rfl⟩
theorem cu (ys:List Int):(ys.map V.int).all gS=true:=by
 rw[z_];intro x B;obtain⟨y,_,rfl⟩:=g7.mp B;rfl
theorem qI {α:Type} : ∀{l:List α} {n:Nat} (h:n < l.length),(l[n] :: l.eraseIdx n).Perm l
 | a :: l,0,h=>by simp
 | a :: l,n+1,h=>by
  have h':n < l.length:=by simpa using h
  have:=qI h'
  simp only[List.getElem_cons_succ,List.eraseIdx_cons_succ];exact(List.Perm.swap _ _ _).trans (List.Perm.cons a this)
theorem fK {α:Type} : ∀{l:List α} {i j:Nat} {x:α},l.Nodup->l[i]? = some x->l[j]? = some x->i=j
 | [],i,j,x,_,h,_=>by simp at h
 | a :: l,0,0,x,_,_,_=>rfl
 | a :: l,0,j+1,x,hn,h,h'=>by
  simp at h h'
  subst h;exact absurd (f_ h') (mu.mp hn).1
 | a :: l,i+1,0,x,hn,h,h'=>by
  simp at h h'
  subst h';exact absurd (f_ h) (mu.mp hn).1
 | a :: l,i+1,j+1,x,hn,h,h'=>by
  simp at h h'
  rw[fK (mu.mp hn).2 h h']
def Ha:TE:=λ_ _ _=>False
theorem uM:PE X e Ha:=λ_ _ _ _ _ _ h=>h.elim
def oh (ns:List Int):Nat:=(ns.foldl Kn []).length
theorem nP : ∀(ns σ:List Int),σ.Nodup->(ns.foldl Kn σ).length<=σ.length+ns.length/\((ns.foldl Kn σ).length=σ.length+ns.length↔(σ++ns).Nodup)
 | [],σ,h=>by simp[h]
 | v :: ns,σ,h=>by
  rw[List.foldl_cons]
  by_cases B:σ.any (· == v)=true
  .have e:Kn σ v=σ:=by unfold Kn;rw[if_pos B]
   have L:v∈σ:=by
    obtain⟨x,Z,e⟩:=w_.mp B;rw[<- eq_of_beq e];exact Z
   rw[e];have F:=nP ns σ h;refine⟨by simp;omega,?_⟩
   constructor
   .intro z;simp at z;omega
   .intro z
    rw[rb] at z;exact absurd rfl (z.2.2 v L v (by simp))
  .have e:Kn σ v=σ++[v]:=by unfold Kn;rw[if_neg B]
   have L:v∉σ:=λz=>B (w_.mpr ⟨v,z,by simp⟩)
   have hn:(σ++[v]).Nodup:=by
    rw[rb];exact⟨h,by simp,λa ha b Y=>by rw[e_.mp Y];rintro rfl;exact L ha⟩
   rw[e];have F:=nP ns (σ++[v]) hn;have el:(σ++[v]).length+ns.length=σ.length+(v :: ns).length:=by simp;omega
   rw[el,Kw] at F;exact F
theorem Aa (ns:List Int):oh ns=ns.length↔ns.Nodup:=by
 have:=(nP ns [] (by simp)).2
 simpa [oh] using this
theorem Cg (ns:List Int):(range ns.length).map (λi=>ns.getD i 0)=ns:=by
 apply List.ext_getElem?
 intro i
 by_cases h:i < ns.length
 .simp[h]
 .simp[h]
section
def Bb:List V->Hp->VK->Prop:=λxs H Q=>∃p,xs=[.ref p]/\∃ns:List Int,H p*>(ns.map V.int)/\ns.length<=1000/\∀q S,H q=none->Q (.ref q) (upd H q (.set S (oh ns)))
theorem An (Z:X.calm=true):bX X (.type "set") Bb:=by
 intro pins s σ H xs us Q I r h;obtain⟨p,rfl,ns,hp,hl,q⟩:=h;obtain⟨u,rfl,ru⟩:=dv r;cases ru;obtain⟨its,Y,pl,hz⟩:=I.list (SqL.of hp);have B:=Y.length;rw[c_] at B;refine call_set_list (I.ok.hd Z) pl.isList (by simpa using gn Y) (by simp only[j6];show its.length+1 < 4096;omega) λh' tk F hold=>?_
 have e:firstMet (λi=>ns.getD i 0) its.toArray.size=ns.foldl Kn []:=by
  unfold firstMet;rw[j6,<- B,Cg]
 rw[e] at F;exact⟨.ref s.heap.objs.size,_,I.laid (a:=s.heap.objs.size) (o:=.set _ (oh ns)) (t':=tk) (λb o L=>hold b o (e9 L) L) (hH _) F,rfl,q _ _ (I.hok.fresh (hH _))⟩
def ue:List V->Hp->VK->Prop:=λxs H Q=>∃p,xs=[.ref p]/\∃S n,H p=some (.set S n)/\Q (.int n) H
theorem uG:bX X (.builtin "len") ue:=by
 intro pins s σ H xs us Q I r h;obtain⟨p,rfl,S,n,hp,q⟩:=h;obtain⟨u,rfl,Z⟩:=dv r;cases Z;have Y:s.heap.SetOf (intKind X.prog X.w) p S n:=I.hok p _ hp
 obtain⟨o,es,ep,t,ho,B,L,_,_,hb,F,hn⟩:=Y;refine PySem.call_len_set ho B L F (by have:scanBound=4096:=rfl;omega) ?_
 rw[hn];exact⟨.int n,H,I.tok _,⟨_,rfl⟩,q⟩
def Gu (ty td:TE):TE:=λσ H Q=>ty σ H λy H1=>td σ H1 λx H2=>∃a,x = .ref a/\∃k,y=kV k/\∃kvs,H2 a<*kvs/\Q (.bl (!(bQ kvs k).isSome)) H2
variable {o i:Expr}
theorem Ei (hu:X.A.units+1 < cLine) (hi:PE X i ty) (Z:PE X o td):PC X .In i o (tDI ty td):=by
 intro pins s σ H Q I h;refine thn (hi pins s σ H _ I h) λiv s1 ⟨y,H1,I1,ry,q1⟩=>thn (Z pins s1 σ H1 _ I1 q1) λu s2 B=>?_
 obtain⟨x,H2,I2,rx,a,ex,k,F,kvs,Y,L⟩:=B;subst ex;subst F;obtain rfl:u=g9 a:=rx
 have g:ph H2 a (kV k) (bQ kvs k):=.inl ⟨kvs,k,.inl Y,rfl,rfl⟩
 exact Ik hu I2 g ry λs3 I3=>⟨.bl (bQ kvs k).isSome,H2,I3,rfl,L⟩
theorem iG (hu:X.A.units+1 < cLine) (hi:PE X i ty) (Z:PE X o td):PC X .NotIn i o (Gu ty td):=by
 intro pins s σ H Q I h;refine thn (hi pins s σ H _ I h) λiv s1 ⟨y,H1,I1,ry,q1⟩=>thn (Z pins s1 σ H1 _ I1 q1) λu s2 B=>?_
 obtain⟨x,H2,I2,rx,a,ex,k,F,kvs,Y,L⟩:=B;subst ex;subst F;obtain rfl:u=g9 a:=rx
 have g:ph H2 a (kV k) (bQ kvs k):=.inl ⟨kvs,k,.inl Y,rfl,rfl⟩
 exact DQ hu I2 g ry λs3 I3=>⟨.bl (!(bQ kvs k).isSome),H2,I3,rfl,L⟩
end
theorem Inv.retag (I:Inv X pins σ H s) (ha:H a=some u0) (n1 : ∀y,u0≠.own y) (n2 : ∀xs,u0≠.tup xs) (n3 : ∀ob u,X.H₀ a≠some (.frz ob u)) (n4 : ∀ps,u0≠.tbl ps)
  (ok:bA X.prog X.w H s.heap a o') (Z : ∀ob y,u0≠.frz ob (.own y):=by intro _ _ z;cases z):Inv X pins σ (upd H a o') s:=by
 have B : ∀b,H b=none->b≠a:=λb n z=>by subst z;rw[ha] at n;cases n
 have Y : ∀b y,H b=some (.own y)->upd H a o' b=some (.own y):=λb y e=>by
  rw[ah (λz=>by subst z;rw[ha] at e;exact n1 y (e8 e))];exact e
 have F : ∀b xs,H b>>xs->upd H a o' b>>xs:=λb xs e=>by
  rw[ah (λz=>by subst z;rw[ha] at e;exact n2 xs (e8 e))];exact e
 have L : ∀b ob y,H b=some (.frz ob (.own y))->upd H a o' b=some (.frz ob (.own y)):=λb ob y e=>by
  rw[ah (λz=>by subst z;rw[ha] at e;exact Z ob y (e8 e))];exact e
 refine⟨I.ok,I.os,I.bare,⟨I.base.keep,I.base.slot,λb o q n hx=>?_,I.base.there,λb xs q=>F b xs (I.base.tups b xs q),λb ob u q=>?_,λb ps q=>?_⟩,I.loc,I.cell,?_,λx c e=>?_,λp hp=>?_,λb u e=>?_,I.len⟩
 .have:=I.base.free b o q n hx
  rw[ah (B b this)];exact this
 .rw[ah (λz=>by subst z;exact n3 ob u q)];exact I.base.frzs b ob u q
 .obtain⟨more,e⟩:=I.base.tbls b ps q
  exact⟨more,by rw[ah (λz=>by subst z;rw[ha] at e;exact n4 _ (e8 e))];exact e⟩
 .rw[ah (B _ I.free)];exact I.free
 .have:=I.freeC x c e
  rw[ah (B c this)];exact this
 .obtain⟨p1,p2,p3⟩:=I.pin p hp
  exact⟨p1,by rw[ah (B _ p2)];exact p2,p3⟩
 .by_cases hb:b=a
  .subst hb
   rw[ae] at e;cases e;exact ok.stay (λ_ _ _ q=>q) (λc q=>Y c _ q) F L
  .rw[ah hb] at e
   exact(I.hok b u e).stay (λ_ _ _ q=>q) (λc q=>Y c _ q) F L
def Itd (a:Addr) (o:Obj) (kvs:List (Key × V)):It :=
 ⟨λi H=>H a=some (.frz o (.dK kvs))/\i < kvs.length,λi H x H'=>H'=H/\∃k v,kvs[i]? = some (k,v)/\x=kV k,λi H=>H a=some (.frz o (.dK kvs))/\kvs.length<=i⟩
theorem KV.get {vs:List (Key × Value)} (r:KV kvs vs) : ∀{i:Nat} {k:Key} {v:V},kvs[i]? = some (k,v)->∃u,vs[i]? = some (k,u)/\bq v u:=by
 unfold KV at r
 induction r with
 | nil=>intro i k v h;simp at h
 | @cons p q ps qs h _ ih =>
  intro i k v e;cases i with
  | zero =>
   simp at e
   subst e;obtain⟨B,u⟩:=q;obtain⟨h1,h2⟩:=h;dsimp only at h1 h2;subst h1;exact⟨u,by simp,h2⟩
  | succ i =>
   simp at e
   obtain⟨u,h1,h2⟩:=ih e;exact⟨u,by simpa using h1,h2⟩
theorem Eg {k:Key} {key:Value} (h:(bo P w).is k key=true):bq (kV k) key:=by
 rcases bP (k:=k) (v:=key) h with⟨i,t,rfl,rfl⟩ | ⟨x,t,rfl,rfl⟩
 .exact⟨t,rfl⟩
 .exact⟨t,rfl⟩
theorem DK (a it:Addr) (o:Obj) (kvs:List (Key × V)) (ep:Nat) (ad : ∃es,o.data = .dict es ep):tV P w K tg (Itd a o kvs) [it] it (λi h=>h.IsKeyIter it a i kvs.length ep) where
 mem:=by simp
 obj:=λi h st b hb=>by
  have e:b=it:=by simpa using hb
  subst e;obtain⟨ob,e,c,d⟩:=st;exact⟨ob,e,λv z=>by rw[d] at z;cases z⟩
 keep:=λi h h' st k=>st.at λob e=>k it (by simp) ob e
 item:=by
  intro X hP hw hK hc i pins s σ H E I hf st hg;subst hP hw hK;obtain⟨ha,hi⟩:=hg;obtain⟨ho,hz,hd,vs,Y,od,es,L,F,hr⟩:=(show s.heap.get? a=some o/\bA X.prog X.w H s.heap a (.dK kvs) from I.hok a _ ha)
  rw[ho] at F;cases F;obtain⟨ag,aa⟩:=ad;have Z:L=ep:=by
   have:=hr.2.1
   rw[aa] at this;cases this;rfl
  subst Z;have B:=Y.length;obtain⟨k,v,af⟩ : ∃k v,kvs[i]? = some (k,v):=⟨kvs[i].1,kvs[i].2,by simp[hi]⟩
  obtain⟨u,hu,ru⟩:=Y.get af;obtain⟨f0,f1,f2,f3,f4,f5⟩:=hf it (by simp)
  have ac:s.heap.IsKeyIter it a i vs.length L:=by rw[<- B];exact st
  refine wpAny_pyNext_dict_item (knd:=bo X.prog X.w) (v:=u) ac ⟨o,es,ho,hr⟩ hu λkey h' hk ab sb=>?_
  have I1:Inv X pins σ H { s with heap:=h' }:=I.turned (t':=s.toks) (λb ob hb e=>(sb.2 b hb).trans e) f0 f1 f3 f4 f5
  rw[<- B] at ab;obtain⟨ob,e,c,d⟩:=id ab;exact⟨key,rfl,sD (s:={ s with heap:=h' }) e c d ∅ ⟨kV k,H,I1,Eg hk,⟨rfl,k,v,af,rfl⟩,ab,λb hb=>(hf b hb).1⟩⟩
 done:=by
  intro X hP hw hK hc i pins s σ H E I hf st hg;subst hP hw hK;obtain⟨ha,hi⟩:=hg;obtain⟨ho,hz,hd,vs,Y,od,es,L,F,hr⟩:=(show s.heap.get? a=some o/\bA X.prog X.w H s.heap a (.dK kvs) from I.hok a _ ha)
  rw[ho] at F;cases F;obtain⟨ag,aa⟩:=ad;have Z:L=ep:=by
   have:=hr.2.1
   rw[aa] at this;cases this;rfl
  subst Z;have B:=Y.length;obtain⟨f0,f1,f2,f3,f4,f5⟩:=hf it (by simp)
  have ac:s.heap.IsKeyIter it a i vs.length L:=by rw[<- B];exact st
  exact wpAny_pyNext_dict_end (knd:=bo X.prog X.w) (I.ok.hd hc) ac ⟨o,es,ho,hr⟩ (FN.mpr ()) λh' eb=>⟨rfl,I.turned (t':=s.toks) (λb ob hb e=>eb b ob hb e) f0 f1 f3 f4 f5⟩
 self:=λ_ _ _ _ _ st h=>wpAny_pyIter_keyiter st h
theorem Bv {o:Obj}:Wlk (Itd a o kvs) (kvs.map λx=>kV x.1) (λH=>H a=some (.frz o (.dK kvs))) :=
 ⟨λi H h hi=>⟨h,by simpa using hi⟩,λi H x H' h _ y=>by
  obtain⟨e,k,v,B,rfl⟩:=y;exact⟨by rw[ei,B];rfl,e⟩,λi H h hi=>⟨h,by simpa using hi⟩⟩
def iD (tl:TE):TI:=λσ H R=>tl σ H λx H1=>∃a,x = .ref a/\∃kvs,H1 a<*kvs/\∀o,R (Itd a o kvs) (upd H1 a (.frz o (.dK kvs)))
theorem Ho {l:Expr} {tl:TE} (hl:PE X l tl):PI X tg l (iD tl):=by
 intro pins s σ H R I h;refine thn (hl pins s σ H _ I h) λv L B=>?_
 obtain⟨x,H1,I1,r1,a,e,kvs,hq,q⟩:=B;subst e;cases r1;obtain⟨hz,hd,vs,aa,od,es,ep,Z,hr⟩:=qQ I1.hok hq;refine wpAny_pyIter_dict (knd:=bo X.prog X.w) hd ⟨od,es,Z,hr⟩ ?_
 have hn : ∀ob u,X.H₀ a≠some (.frz ob u):=λob u e=>by have:=I1.base.frzs a ob u e;rw[hq] at this;cases this
 have I2:Inv X pins σ H1 { L with heap:=L.heap.push { cls:=.type "dict_keyiterator",data:=.fields #[.ref a,.int 0 0,.int vs.length 0,.int ep 0] } }:=I1.kept (t':=L.toks) λb o e=>d_ _ e
 have ab:=I2.hok a _ hq;have I3:=I2.retag (o':=.frz od (.dK kvs)) hq (by intro y z;cases z) (by intro y z;cases z) hn (by intro y z;cases z) ⟨d_ _ Z,ab⟩
 have Y:=aa.length;refine⟨L.heap.objs.size,[L.heap.objs.size],_,_,_,rfl,I3,DK a _ od kvs ep ⟨es,hr.2.1⟩,⟨_,gr _ rfl,rfl,by rw[Y];rfl⟩,λb hb=>?_,q od⟩
 have e:b=L.heap.objs.size:=by simpa using hb
 subst e;have F:H1 L.heap.objs.size=none:=I1.hok.fresh (hH _)
 obtain⟨f0,f1,f2,f3,f4,f5⟩:=I1.fpOk (hH _) F;exact⟨by rw[ah (λz=>by rw[z,hq] at F;cases F)];exact F,f1,f2,f3,f4,f5⟩
def He (a:Addr) (kvs:List (Key × V)) (D:pI):pI where
 nx:=λσ H=>(∃o,H a=some (.frz o (.dK kvs)))/\D.nx σ (upd H a (.dK kvs))
 rt:=λv H=>(∃o,H a=some (.frz o (.dK kvs)))/\D.rt v (upd H a (.dK kvs))
 bk:=λσ H=>(∃o,H a=some (.frz o (.dK kvs)))/\D.bk σ (upd H a (.dK kvs))
 ct:=λσ H=>(∃o,H a=some (.frz o (.dK kvs)))/\D.ct σ (upd H a (.dK kvs))
def HZ (t:TS):TS:=λD σ H=>∃a kvs,H a<*kvs/\t (He a kvs D) σ H
theorem zh {t:TS} (h:PS X st t):PS X st (HZ t):=by
 intro pins s σ H D I ⟨a,kvs,ha,ht⟩;have hn : ∀ob u,X.H₀ a≠some (.frz ob u):=λob u e=>by have:=I.base.frzs a ob u e;rw[ha] at this;cases this
 have B : ∀{σ' H' s'},Inv X pins σ' H' s'->(∃o,H' a=some (.frz o (.dK kvs)))->Inv X pins σ' (upd H' a (.dK kvs)) s':=λ{σ' H' s'} F ⟨o,e⟩ =>
  F.retag e (by intro y z;cases z) (by intro y z;cases z) hn (by intro y z;cases z) (show s'.heap.get? a=some o/\bA X.prog X.w H' s'.heap a (.dK kvs) from F.hok a _ e).2
 refine thn (h pins s σ H _ I ht) λf s' L=>?_
 cases f with
 | next=>obtain⟨σ',H',F,e,q⟩:=L;exact⟨σ',_,B F e,q⟩
 | brk=>obtain⟨σ',H',F,e,q⟩:=L;exact⟨σ',_,B F e,q⟩
 | cont=>obtain⟨σ',H',F,e,q⟩:=L;exact⟨σ',_,B F e,q⟩
 | ret u=>obtain⟨v,σ',H',F,r,e,q⟩:=L;exact⟨v,σ',_,B F e,r,q⟩
section
def xV (Cs:List (Addr × Sp)) (m:Str) (ta:TE) (t:TA):TE:=λσ H Q=>ta σ H λx H1=>∃a,x = .ref a/\∃C sp,(C,sp)∈Cs/\∃dx fs,H1 a=some (.ins C dx fs)/\fs.lookup m=none/\t σ H1 λvs H2=>sp (.ref a :: vs) H2 Q E0
variable {o:Expr} {m:Str} {t:TA}
theorem jN (F : ∀C sp,(C,sp)∈Cs->Cls X.K C/\FnR X.prog X.w X.K X.mg X.base (aO X.K C m) k ps sp) (hr:di k X.A) (he:PE X o ta) (ha:PA X (e :: es) t)
  (Y:j9 (e :: es) X.env=(false,eval e X.env) :: j9 es X.env:=by rfl) (L:(A_ pos (j9 es X.env)).any (·.1)=false:=by rfl)
  (ht:eval (.Call (.Attribute o m apos) (e :: es) [] pos) X.env=(do
   let Z <- eval o X.env
   standAt apos.atName
   let (f,first) <- holding [Z] (getMethod Z m pl)
   callWith pos f first (A_ pos (j9 (e :: es) X.env)) (backToKw pos (keywordEach [] X.env))):=by rfl) :
  PE X (.Call (.Attribute o m apos) (e :: es) [] pos) (xV Cs m ta t):=by
 intro pins s σ H Q I h;refine methodCall_KW (pl:=pl) (thn (he pins s σ H _ I h) λu s1 B=>?_) ht
 obtain⟨x,H1,I1,rx,a,ex,C,sp,hC,dx,fs,ea,l,q⟩:=B;subst ex;obtain⟨c,f,fd,F,hm,b⟩:=F C sp hC;obtain rfl:u=g9 a:=rx
 refine qd I1 ea c hm l ?_
 refine callWith_K (first:=[.ref a]) (h₀:=X.base) I.ok.mod.kin hm.kp (thn (ha pos pins s1 σ H1 _ I1 q) λus s2 ⟨vs,H2,I2,r,q2⟩=>⟨I2.kIn,?_⟩) Y L
 exact ox (us:=.ref a :: us) (vs:=.ref a :: vs) F hr b .nil qg I2 (.cons rfl r) (by rw[Ju];exact q2)
end
end L2
namespace PySem
open Sem (wp)
theorem iK {J:Addr} {vs:Array Value} {v:Value} (a:s.heap.IsTupleIter J T i) (b:s.heap.IsTuple T vs) (c:vs[i]? = some v)
  (k : ∀g,g.IsTupleIter J T (i+1)->J9 J s.heap g->Q v { s with heap:=g }):wpAny (model prog w) A (j8 (.ref J)) Q E s:=by
 obtain⟨Z,a1,a2,a3⟩:=id a;obtain⟨oT,B,_,Y,L⟩:=b;unfold j8;refine a_ (m6 (name:=b_ "__next__") a.typeIs Jm (m8 Jm a.typeIs F.entry_tuple_iterator_next ?_ (F.args_tuple_iterator_next_1 _)))
 change wpAny _ _ (field (.ref J) 0 >>= _) _ _ s;refine a_ (md a1 a3 (x:=.ref T) rfl ?_)
 change wpAny _ _ (if (g9 T == n_)=true then _ else _) _ _ s;rw[if_neg (show ¬ ((g9 T == n_)=true) from jc)]
 change wpAny _ _ (field (.ref J) 1 >>= _) _ _ s;refine a_ (md a1 a3 (x:=.int i 0) rfl ?_)
 change wpAny _ _ (seqItems? (.ref T) >>= _) _ _ s;refine a_ (u_ B L ?_)
 simp only[J2,c];refine a_ (wpAny_setField a1 a3 (by simp) (e7 ⟨v,rfl,e7 (k _ ⟨_,E_ _ a1 (Obj.isFreed_of_fields (Obj.data_mapFields a3 _)),(Obj.cls_mapFields ..).trans a2,?_⟩ (Heap.SameBut.update ..))⟩))
 rw[Obj.data_mapFields a3];simp[w4]
theorem eK {J:Addr} {vs:Array Value} (B:A.handled=none) (a:s.heap.IsTupleIter J T i) (b:s.heap.IsTuple T vs) (c:vs[i]? = none)
  (k : ∀g e,Kt J s.heap g->(∃o,g.get? e=some o/\o.cls = .type "StopIteration")->E (.ref e) { s with heap:=g }):wpAny (model prog w) A (j8 (.ref J)) Q E s:=by
 obtain⟨oJ,a1,a2,a3⟩:=id a;obtain⟨oT,Y,_,Z,L⟩:=b;unfold j8;refine a_ (m6 (name:=b_ "__next__") a.typeIs Jm (m8 Jm a.typeIs F.entry_tuple_iterator_next ?_ (F.args_tuple_iterator_next_1 _)))
 change wpAny _ _ (field (.ref J) 0 >>= _) _ _ s;refine a_ (md a1 a3 (x:=.ref T) rfl ?_)
 change wpAny _ _ (if (g9 T == n_)=true then _ else _) _ _ s;rw[if_neg (show ¬ ((g9 T == n_)=true) from jc)]
 change wpAny _ _ (field (.ref J) 1 >>= _) _ _ s;refine a_ (md a1 a3 (x:=.int i 0) rfl ?_)
 change wpAny _ _ (seqItems? (.ref T) >>= _) _ _ s;refine a_ (u_ Y L ?_)
 simp only[J2,c];refine a_ (Jw (a_ (wpAny_setField a1 a3 (by simp) ?_)))
 change wpAny _ _ (newExc (.type "StopIteration") [] >>= _) _ _ _;refine a_ (by
  simp only[newExc,newTuple];refine a_ (w6 ?_ (by size_fits))
  refine a_ (m:=firstArgMember _ _) (JZ (a:=n_) (by first | rfl | (simp only[firstArgMember];rfl)) ?_)
  refine w6 ?_ (by size_fits)
  (simp only[raiseNew];refine a_ (wpAny_handled ?_))
  first | rw[show A.in1.handled=none from B] | rw[B]
  refine a_ (e7 (wpAny_throw (k _ _ (((Heap.SameBut.update ..).extBut.push _).push _) ⟨_,gr _ rfl,rfl⟩))))
def ZIt:Bool->Heap->Addr->Addr->Nat->Prop
 | false=>Heap.IsTupleIter
 | true=>Heap.IsListIter
def ZSq:Bool->Heap->Addr->Array Value->Prop
 | false=>KB
 | true=>Heap.IsList
theorem ZIt.ex {g:Heap} (h:ZIt q g I S i) : ∃o,g.get? I=some o/\o.data = .fields #[.ref S,.int i 0]:=by
 cases q with
 | false=>obtain⟨o,h1,_,B⟩:=h;exact⟨o,h1,B⟩
 | true=>obtain⟨o,h1,_,B⟩:=h;exact⟨o,h1,B⟩
theorem ZIt.at {q:Bool} {g g':Heap} {I S:Addr} {i:Nat} (h:ZIt q g I S i) (e : ∀o,g.get? I=some o->g'.get? I=some o):ZIt q g' I S i:=by
 cases q with
 | false=>exact Heap.IsTupleIter.at h e
 | true=>exact Heap.IsListIter.at h e
theorem ZIt.extBut {g g':Heap} (h:ZIt q g I S i) (F:Kt b g g') (B:I≠b):ZIt q g' I S i:=h.at λo e=>F _ _ B e
theorem ZSq.at {g g':Heap} {xs:Array Value} (h:ZSq q g S xs) (e : ∀o,g.get? S=some o->g'.get? S=some o):ZSq q g' S xs:=by
 cases q with
 | false=>obtain⟨o,h1,r⟩:=h;exact⟨o,e _ h1,r⟩
 | true=>obtain⟨o,h1,r⟩:=h;exact⟨o,e _ h1,r⟩
theorem ZSq.extBut {g g':Heap} {xs:Array Value} (h:ZSq q g S xs) (F:Kt b g g') (B:S≠b):ZSq q g' S xs:=h.at λo e=>F _ _ B e
theorem ZSq.ex {g:Heap} {xs:Array Value} (h:ZSq q g S xs) : ∃o,g.get? S=some o:=by
 cases q with
 | false=>obtain⟨o,h1,_⟩:=h;exact⟨o,h1⟩
 | true=>obtain⟨o,h1,_⟩:=h;exact⟨o,h1⟩
theorem BU {J:Addr} {vs:Array Value} {v:Value} (a:ZIt q s.heap J T i) (b:ZSq q s.heap T vs) (c:vs[i]? = some v)
  (k : ∀g,ZIt q g J T (i+1)->J9 J s.heap g->Q v { s with heap:=g }):wpAny (model prog w) A (j8 (.ref J)) Q E s:=by
 cases q with
 | false=>exact iK a b c k
 | true=>exact wpAny_nextOf_list_item a b c k
theorem xv {J:Addr} {vs:Array Value} (B:A.handled=none) (a:ZIt q s.heap J T i) (b:ZSq q s.heap T vs) (c:vs[i]? = none)
  (k : ∀g e,Kt J s.heap g->(∃o,g.get? e=some o/\o.cls = .type "StopIteration")->E (.ref e) { s with heap:=g }):wpAny (model prog w) A (j8 (.ref J)) Q E s:=by
 cases q with
 | false=>exact eK B a b c k
 | true=>exact wpAny_nextOf_list_end B a b c k
structure iw (q:Bool) (g:Heap) (z P O I J S T:Addr) (i:Nat) (f0 f1:Value):Prop where
 zz:g.get? z=some { cls:=.type "zip",dict:=none,data:=.fields #[f0,f1,.bool false,.ref P,.ref O],slots := #[] }
 pp:IsPair g P (.ref I) (.ref J)
 oo : ∃a b,IsPair g O a b
 ii:ZIt q g I S i
 jj:g.IsTupleIter J T i
theorem iw.keep {g g':Heap} {P J:Addr} (h:iw q g z P O I J S T i f0 f1) (k : ∀b∈[z,P,O,I,J],∀o,g.get? b=some o->g'.get? b=some o):iw q g' z P O I J S T i f0 f1:=by
 obtain⟨a,b,oo⟩:=h.oo;exact⟨k z (by simp) _ h.zz,k P (by simp) _ h.pp,⟨a,b,k O (by simp) _ oo⟩,h.ii.at λo e=>k I (by simp) o e,h.jj.at λo e=>k J (by simp) o e⟩
abbrev ZTup:=iw false
theorem zp {P J:Addr} {xs:Array Value} {x y:Value} (D:Ko z P O I J S T) (Z:iw q s.heap z P O I J S T i .none (.bool false))
  (hS:ZSq q s.heap S xs) (hT:s.heap.IsTuple T ys) (hx:xs[i]? = some x) (hy:ys[i]? = some y)
  (k : ∀g,iw q g z P O I J S T (i+1) (w4 s.heap.objs.size) (.bool false)->IsPair g s.heap.objs.size x y->g.objs.size=s.heap.objs.size+1 ->
   (∀c o,c≠z->c≠O->c≠I->c≠J->s.heap.get? c=some o->g.get? c=some o)->Q (.ref s.heap.objs.size) { s with heap:=g }) :
  wpAny (model prog w) A (Builtin.«zip.__next__» ⟨[.ref z],[]⟩) (λaa s'=>∃v,aa = .done (.ret v)/\Q v s') E s:=by
 have zz:=Z.zz;obtain⟨a,b,oo⟩:=Z.oo;change wpAny _ _ (field (.ref z) 2 >>= _) _ _ _;refine a_ (md zz rfl (x:=.bool false) rfl ?_)
 change wpAny _ _ (field (.ref z) 3 >>= _) _ _ _;refine a_ (md zz rfl (x:=.ref P) rfl ?_)
 refine a_ (u_ Z.pp rfl ?_)
 change wpAny _ _ (m5 (.ref z) >>= _) _ _ _;refine a_ (by
  unfold m5;refine a_ (md zz rfl (x:=.none) rfl (e7 ?_))
  simp only[if_true];refine a_ (Jw ?_)
  refine a_ (md zz rfl (x:=.ref O) rfl ?_)
  refine a_ (t5 zz (by simp) λg1 z1 L=>?_)
  replace z1:g1.get? z=some { cls:=.type "zip",dict:=none,data:=.fields #[.ellipsis,.bool false,.bool false,.ref P,.ref O],slots := #[] }:=z1
  refine a_ ?_
  simp only[List.zipIdx_cons,List.zipIdx_nil,JP,forIn_nil];refine a_ (a_ (wpAny_onRaise ?_))
  change wpAny _ _ (j8 (.ref I) >>= _) _ _ _;refine a_ (BU (Z.ii.extBut L.extBut D.i1z) (hS.extBut L.extBut D.l1z) hx λg2 i2 Y=>e7 ?_)
  have o2:IsPair g2 O a b:=Y.extBut _ _ D.TOi1 (L.extBut _ _ D.TOz oo)
  refine a_ (u_ o2 rfl ?_)
  refine a_ (wpAny_updateSeq_pair o2 λg3 o3 s3=>?_)
  replace o3:IsPair g3 O x b:=o3
  refine a_ (wpAny_letGo (e7 ?_))
  refine a_ (a_ (wpAny_onRaise ?_))
  change wpAny _ _ (j8 (.ref J) >>= _) _ _ _;refine a_ (iK (((Z.jj.extBut L.extBut D.i2z).extBut Y.extBut D.i12.symm).extBut s3.extBut D.TOi2.symm) (((hT.extBut L.extBut D.l2z).extBut Y.extBut D.l2i1).extBut s3.extBut D.l2TO) hy λg4 j4 s4=>e7 ?_)
  have o4:IsPair g4 O x b:=s4.extBut _ _ D.TOi2 o3
  refine a_ (u_ o4 rfl ?_)
  refine a_ (wpAny_updateSeq_pair o4 λB o5 s5=>?_)
  replace o5:IsPair B O x y:=o5
  refine a_ (wpAny_letGo (e7 (e7 ?_)))
  refine a_ (u_ o5 rfl ?_)
  refine a_ (wpAny_newTuple ?_)
  have sz:B.objs.size=s.heap.objs.size:=by rw[s5.1,s4.1,s3.1,Y.1,L.1]
  have z5:=s5.extBut _ _ D.TOz.symm (s4.extBut _ _ D.i2z.symm (s3.extBut _ _ D.TOz.symm (Y.extBut _ _ D.i1z.symm z1)));have k5 : ∀c o,c≠z->c≠O->c≠I->c≠J->s.heap.get? c=some o->B.get? c=some o:=λc o F c2 c3 c4 e =>
   s5.extBut _ _ c2 (s4.extBut _ _ c4 (s3.extBut _ _ c2 (Y.extBut _ _ c3 (L.extBut _ _ F e))))
  have i5:ZIt q B I S (i+1):=((i2.extBut s3.extBut D.TOi1.symm).extBut s4.extBut D.i12).extBut s5.extBut D.TOi1.symm
  have j5:B.IsTupleIter J T (i+1):=j4.extBut s5.extBut D.TOi2.symm
  have zl:z < B.objs.size:=e9 z5
  change wpAny _ _ (Builtin.SmallTypes.ownedTupleHandOut (.ref z) (.ref B.objs.size) >>= _) _ _ _;refine a_ ?_
  unfold Builtin.SmallTypes.ownedTupleHandOut;have z6:=d_ { cls:=.type "tuple",data:=.seq #[x,y] } z5;refine a_ (t5 z6 (by simp) λg7 z7 s7=>?_)
  refine t5 z7 (by simp) λg8 z8 s8=>?_
  have up : ∀c o,c≠z->B.get? c=some o->g8.get? c=some o:=λc o F e=>s8.extBut _ _ F (s7.extBut _ _ F (d_ _ e))
  have t8:IsPair g8 B.objs.size x y:=s8.extBut _ _ (pc zl) (s7.extBut _ _ (pc zl) (gr _ rfl))
  have l8:g8.objs.size=B.objs.size+1:=by rw[s8.1,s7.1,m_]
  refine e7 ⟨_,rfl,?_⟩
  have zf:iw q g8 z P O I J S T (i+1) (w4 B.objs.size) (.bool false) :=
   ⟨z8,up _ _ D.TIz (k5 _ _ D.TIz D.TITO D.TIi1 D.TIi2 Z.pp),⟨x,y,up _ _ D.TOz o5⟩,i5.at λo e=>up _ o D.i1z e,j5.at λo e=>up _ o D.i2z e⟩
  rw[sz] at zf t8 l8;change Q (.ref B.objs.size) _;rw[sz];exact k g8 zf t8 l8 λc o F c2 c3 c4 e=>up c o F (k5 c o F c2 c3 c4 e))
theorem pd {Q:Option Obj->Shared->Prop} (h:Q (s.heap.get? a) s):wpAny M A (loadIfAlive a) Q E s:=λ_ _ _=>h
theorem Em {P J t0:Addr} {xs:Array Value} {x y:Value} (D:Ko z P O I J S T) (Z:ZTup s.heap z P O I J S T i (w4 t0) f1)
  (h0:s.heap.get? t0=some o0) (hf:f1 = .bool false\/f1 = .bool true) (hS:s.heap.IsTuple S xs) (hT:s.heap.IsTuple T ys) (hx:xs[i]? = some x) (hy:ys[i]? = some y)
  (k : ∀g,ZTup g z P O I J S T (i+1) (w4 t0) (.bool true)->IsPair g s.heap.objs.size x y->g.objs.size=s.heap.objs.size+1 ->
   (∀c o,c≠z->c≠O->c≠I->c≠J->s.heap.get? c=some o->g.get? c=some o)->Q (.ref s.heap.objs.size) { s with heap:=g }) :
  wpAny (model prog w) A (Builtin.«zip.__next__» ⟨[.ref z],[]⟩) (λaa s'=>∃v,aa = .done (.ret v)/\Q v s') E s:=by
 have zz:=Z.zz;obtain⟨a,b,oo⟩:=Z.oo;change wpAny _ _ (field (.ref z) 2 >>= _) _ _ _;refine a_ (md zz rfl (x:=.bool false) rfl ?_)
 change wpAny _ _ (field (.ref z) 3 >>= _) _ _ _;refine a_ (md zz rfl (x:=.ref P) rfl ?_)
 refine a_ (u_ Z.pp rfl ?_)
 change wpAny _ _ (m5 (.ref z) >>= _) _ _ _;refine a_ (by
  unfold m5;refine a_ (md zz rfl (x:=w4 t0) rfl ?_)
  simp only[w4];refine a_ (pd ?_)
  simp only[J2,h0,isNone_some,g_,if_false];refine a_ (md zz rfl (x:=f1) rfl ?_)
  rcases hf with rfl | rfl
  .rw[if_pos ∅]
   refine a_ (t5 zz (by simp) λg1 z1 s1=>e7 ?_)
   have Z1:ZTup g1 z P O I J S T i (w4 t0) (.bool true):=⟨z1,s1.extBut _ _ D.TIz Z.pp,⟨a,b,s1.extBut _ _ D.TOz oo⟩,Z.ii.extBut s1.extBut D.i1z,Z.jj.extBut s1.extBut D.i2z⟩
   have e1:=s1.extBut;have n1:=s1.1;simp only[g_,if_false];rw[<- forIn_toList];simp only[JP,forIn_nil];refine a_ (a_ (a_ (o_ ?_)))
   change wpAny _ _ (j8 (.ref I) >>= _) _ _ _;refine a_ (iK (Z1.ii) (hS.extBut e1 D.l1z) hx λg2 i2 B=>e7 (e7 ?_))
   refine a_ (a_ (o_ ?_))
   change wpAny _ _ (j8 (.ref J) >>= _) _ _ _;refine a_ (iK (Z1.jj.extBut B.extBut D.i12.symm) ((hT.extBut e1 D.l2z).extBut B.extBut D.l2i1) hy λg3 j3 F=>e7 (e7 (e7 ?_)))
   refine a_ (wpAny_newTuple (hsz:=by show 2<=ge;decide) (e7 ⟨_,rfl,?_⟩))
   have sz:g3.objs.size=s.heap.objs.size:=by rw[F.1,B.1,n1]
   have k3 : ∀c o,c≠z->c≠I->c≠J->s.heap.get? c=some o->g3.get? c=some o:=λc o L Y c4 e=>F.extBut _ _ c4 (B.extBut _ _ Y (e1 _ _ L e))
   have z3:=F.extBut _ _ D.i2z.symm (B.extBut _ _ D.i1z.symm Z1.zz);change Q (.ref g3.objs.size) _;rw[sz];refine k _ ⟨d_ _ z3,d_ _ (k3 _ _ D.TIz D.TIi1 D.TIi2 Z.pp),⟨a,b,d_ _ (k3 _ _ D.TOz D.TOi1 D.TOi2 oo)⟩,(i2.extBut F.extBut D.i12).at λo e=>d_ _ e,j3.at λo e=>d_ _ e⟩ ?_ ?_ λc o L c2 Y c4 e=>d_ _ (k3 c o L Y c4 e)
   .rw[<- sz];exact gr _ rfl
   .rw[m_,sz]
  .rw[if_neg ∅]
   refine e7 ?_
   have Z1:=Z;have e1:Kt z s.heap s.heap:=λ_ _ _ e=>e
   have n1:s.heap.objs.size=s.heap.objs.size:=rfl
   simp only[g_,if_false];rw[<- forIn_toList];simp only[JP,forIn_nil];refine a_ (a_ (a_ (o_ ?_)))
   change wpAny _ _ (j8 (.ref I) >>= _) _ _ _;refine a_ (iK (Z1.ii) (hS.extBut e1 D.l1z) hx λg2 i2 B=>e7 (e7 ?_))
   refine a_ (a_ (o_ ?_))
   change wpAny _ _ (j8 (.ref J) >>= _) _ _ _;refine a_ (iK (Z1.jj.extBut B.extBut D.i12.symm) ((hT.extBut e1 D.l2z).extBut B.extBut D.l2i1) hy λg3 j3 F=>e7 (e7 (e7 ?_)))
   refine a_ (wpAny_newTuple (hsz:=by show 2<=ge;decide) (e7 ⟨_,rfl,?_⟩))
   have sz:g3.objs.size=s.heap.objs.size:=by rw[F.1,B.1,n1]
   have k3 : ∀c o,c≠z->c≠I->c≠J->s.heap.get? c=some o->g3.get? c=some o:=λc o L Y c4 e=>F.extBut _ _ c4 (B.extBut _ _ Y (e1 _ _ L e))
   have z3:=F.extBut _ _ D.i2z.symm (B.extBut _ _ D.i1z.symm Z1.zz);change Q (.ref g3.objs.size) _;rw[sz];refine k _ ⟨d_ _ z3,d_ _ (k3 _ _ D.TIz D.TIi1 D.TIi2 Z.pp),⟨a,b,d_ _ (k3 _ _ D.TOz D.TOi1 D.TOi2 oo)⟩,(i2.extBut F.extBut D.i12).at λo e=>d_ _ e,j3.at λo e=>d_ _ e⟩ ?_ ?_ λc o L c2 Y c4 e=>d_ _ (k3 c o L Y c4 e)
   .rw[<- sz];exact gr _ rfl
   .rw[m_,sz])
theorem Bk {P J:Addr} {xs:Array Value} {Q:Fin->Shared->Prop} (hd:A.handled=none) (D:Ko z P O I J S T) (Z:iw q s.heap z P O I J S T i .none (.bool false))
  (hS:ZSq q s.heap S xs) (hT:s.heap.IsTuple T ys) (hx:xs[i]? = none\/ys[i]? = none)
  (k : ∀g e,(∀c o,c≠z->c≠O->c≠I->c≠J->s.heap.get? c=some o->g.get? c=some o)->(∃o,g.get? e=some o/\o.cls = .type "StopIteration")->E (.ref e) { s with heap:=g }) :
  wpAny (model prog w) A (Builtin.«zip.__next__» ⟨[.ref z],[]⟩) Q E s:=by
 have zz:=Z.zz;obtain⟨a,b,oo⟩:=Z.oo;change wpAny _ _ (field (.ref z) 2 >>= _) _ _ _;refine a_ (md zz rfl (x:=.bool false) rfl ?_)
 change wpAny _ _ (field (.ref z) 3 >>= _) _ _ _;refine a_ (md zz rfl (x:=.ref P) rfl ?_)
 refine a_ (u_ Z.pp rfl ?_)
 change wpAny _ _ (m5 (.ref z) >>= _) _ _ _;refine a_ (by
  unfold m5;refine a_ (md zz rfl (x:=.none) rfl (e7 ?_))
  simp only[if_true];refine a_ (Jw ?_)
  refine a_ (md zz rfl (x:=.ref O) rfl ?_)
  refine a_ (t5 zz (by simp) λg1 z1 L=>?_)
  refine a_ ?_
  simp only[List.zipIdx_cons,List.zipIdx_nil,JP,forIn_nil];refine a_ (a_ (wpAny_onRaise ?_))
  change wpAny _ _ (j8 (.ref I) >>= _) _ _ _;cases ex:xs[i]? with
  | none =>
   refine a_ (xv hd (Z.ii.extBut L.extBut D.i1z) (hS.extBut L.extBut D.l1z) ex λg2 e Y he=>?_)
   obtain⟨oe,B,F⟩:=he;have z2:=Y _ _ D.i1z.symm z1;have ez:e≠z:=λq=>by subst q;rw[z2] at B;cases B;simp at F
   refine t5 z2 (by simp) λg3 _ s3=>k g3 e (λc o c1 _ c3 _ q=>s3.extBut _ _ c1 (Y _ _ c3 (L.extBut _ _ c1 q))) ⟨oe,s3.extBut _ _ ez B,F⟩
  | some x =>
   have hy:ys[i]? = none:=by rcases hx with q | q;(rw[ex] at q;cases q);exact q
   refine a_ (BU (Z.ii.extBut L.extBut D.i1z) (hS.extBut L.extBut D.l1z) ex λg2 i2 Y=>e7 ?_)
   have o2:IsPair g2 O a b:=Y.extBut _ _ D.TOi1 (L.extBut _ _ D.TOz oo)
   refine a_ (u_ o2 rfl ?_)
   refine a_ (wpAny_updateSeq_pair o2 λg3 o3 s3=>?_)
   refine a_ (wpAny_letGo (e7 ?_))
   refine a_ (a_ (wpAny_onRaise ?_))
   change wpAny _ _ (j8 (.ref J) >>= _) _ _ _;refine a_ (eK hd (((Z.jj.extBut L.extBut D.i2z).extBut Y.extBut D.i12.symm).extBut s3.extBut D.TOi2.symm) (((hT.extBut L.extBut D.l2z).extBut Y.extBut D.l2i1).extBut s3.extBut D.l2TO) hy λg4 e s4 he=>?_)
   obtain⟨oe,B,F⟩:=he;have z4:=s4 _ _ D.i2z.symm (s3.extBut _ _ D.TOz.symm (Y.extBut _ _ D.i1z.symm z1));have ez:e≠z:=λq=>by subst q;rw[z4] at B;cases B;simp at F
   refine t5 z4 (by simp) λg5 _ s5=>k g5 e (λc o c1 c2 c3 c4 q=>s5.extBut _ _ c1 (s4 _ _ c4 (s3.extBut _ _ c2 (Y.extBut _ _ c3 (L.extBut _ _ c1 q))))) ⟨oe,s5.extBut _ _ ez B,F⟩)
theorem DW {P J t0:Addr} {xs:Array Value} {Q:Fin->Shared->Prop} (hd:A.handled=none) (D:Ko z P O I J S T) (Z:ZTup s.heap z P O I J S T i (w4 t0) f1)
  (h0:s.heap.get? t0=some o0) (hf:f1 = .bool false\/f1 = .bool true) (hS:s.heap.IsTuple S xs) (hT:s.heap.IsTuple T ys) (hx:xs[i]? = none\/ys[i]? = none)
  (k : ∀g e,(∀c o,c≠z->c≠O->c≠I->c≠J->s.heap.get? c=some o->g.get? c=some o)->(∃o,g.get? e=some o/\o.cls = .type "StopIteration")->E (.ref e) { s with heap:=g }) :
  wpAny (model prog w) A (Builtin.«zip.__next__» ⟨[.ref z],[]⟩) Q E s:=by
 have zz:=Z.zz;obtain⟨a,b,oo⟩:=Z.oo;change wpAny _ _ (field (.ref z) 2 >>= _) _ _ _;refine a_ (md zz rfl (x:=.bool false) rfl ?_)
 change wpAny _ _ (field (.ref z) 3 >>= _) _ _ _;refine a_ (md zz rfl (x:=.ref P) rfl ?_)
 refine a_ (u_ Z.pp rfl ?_)
 change wpAny _ _ (m5 (.ref z) >>= _) _ _ _;refine a_ (by
  unfold m5;refine a_ (md zz rfl (x:=w4 t0) rfl ?_)
  simp only[w4];refine a_ (pd ?_)
  simp only[J2,h0,isNone_some,g_,if_false];refine a_ (md zz rfl (x:=f1) rfl ?_)
  rcases hf with rfl | rfl
  .rw[if_pos ∅]
   refine a_ (t5 zz (by simp) λg1 z1 s1=>e7 ?_)
   have Y:ZTup g1 z P O I J S T i (w4 t0) (.bool true):=⟨z1,s1.extBut _ _ D.TIz Z.pp,⟨a,b,s1.extBut _ _ D.TOz oo⟩,Z.ii.extBut s1.extBut D.i1z,Z.jj.extBut s1.extBut D.i2z⟩
   have e1:=s1.extBut;simp only[g_,if_false];rw[<- forIn_toList];simp only[JP,forIn_nil];refine a_ (a_ (a_ (o_ ?_)))
   change wpAny _ _ (j8 (.ref I) >>= _) _ _ _;cases ex:xs[i]? with
   | none =>
    refine a_ (eK hd Y.ii (hS.extBut e1 D.l1z) ex λg2 e B he=>?_)
    exact k g2 e (λc o F _ L _ q=>B _ _ L (e1 _ _ F q)) he
   | some x =>
    have hy:ys[i]? = none:=by rcases hx with q | q;(rw[ex] at q;cases q);exact q
    refine a_ (iK Y.ii (hS.extBut e1 D.l1z) ex λg2 i2 B=>e7 (e7 ?_))
    refine a_ (a_ (o_ ?_))
    change wpAny _ _ (j8 (.ref J) >>= _) _ _ _;refine a_ (eK hd (Y.jj.extBut B.extBut D.i12.symm) ((hT.extBut e1 D.l2z).extBut B.extBut D.l2i1) hy λg3 e s3 he=>?_)
    exact k g3 e (λc o F _ L c4 q=>s3 _ _ c4 (B.extBut _ _ L (e1 _ _ F q))) he
  .rw[if_neg ∅]
   refine e7 ?_
   have Y:=Z;have e1:Kt z s.heap s.heap:=λ_ _ _ e=>e
   simp only[g_,if_false];rw[<- forIn_toList];simp only[JP,forIn_nil];refine a_ (a_ (a_ (o_ ?_)))
   change wpAny _ _ (j8 (.ref I) >>= _) _ _ _;cases ex:xs[i]? with
   | none =>
    refine a_ (eK hd Y.ii (hS.extBut e1 D.l1z) ex λg2 e B he=>?_)
    exact k g2 e (λc o F _ L _ q=>B _ _ L (e1 _ _ F q)) he
   | some x =>
    have hy:ys[i]? = none:=by rcases hx with q | q;(rw[ex] at q;cases q);exact q
    refine a_ (iK Y.ii (hS.extBut e1 D.l1z) ex λg2 i2 B=>e7 (e7 ?_))
    refine a_ (a_ (o_ ?_))
    change wpAny _ _ (j8 (.ref J) >>= _) _ _ _;refine a_ (eK hd (Y.jj.extBut B.extBut D.i12.symm) ((hT.extBut e1 D.l2z).extBut B.extBut D.l2i1) hy λg3 e s3 he=>?_)
    exact k g3 e (λc o F _ L c4 q=>s3 _ _ c4 (B.extBut _ _ L (e1 _ _ F q))) he)
theorem yI {hp:Heap} {xs:Array Value} (h1:ZSq q hp S xs) (h2:hp.IsTuple T ys) {B L Y Z F:Heap} (e1:B=hp.push { cls:=.type (if q then "list_iterator" else "tuple_iterator"),data:=.fields #[.ref S,.int 0 0] })
  (e2:L=B.push { cls:=.type "tuple_iterator",data:=.fields #[.ref T,.int 0 0] }) (e3:Y=L.push { cls:=.type "tuple",data:=.seq #[.ref hp.objs.size,.ref B.objs.size] }) (e4:Z=Y.push { cls:=.type "tuple",data:=.seq #[.none,.none] })
  (e5:F=Z.push { cls:=.type "zip",data:=.fields #[.none,.bool false,.bool false,.ref L.objs.size,.ref Y.objs.size] }) :
  iw q F Z.objs.size L.objs.size Y.objs.size hp.objs.size B.objs.size S T 0 .none (.bool false)/\Ko Z.objs.size L.objs.size Y.objs.size hp.objs.size B.objs.size S T/\Z.objs.size=hp.objs.size+4/\Y.objs.size=hp.objs.size+3/\L.objs.size=hp.objs.size+2/\B.objs.size=hp.objs.size+1/\∀c o,hp.get? c=some o->F.get? c=some o:=by
 have n1:B.objs.size=hp.objs.size+1:=by rw[e1,m_]
 have n2:L.objs.size=hp.objs.size+2:=by rw[e2,m_,n1]
 have n3:Y.objs.size=hp.objs.size+3:=by rw[e3,m_,n2]
 have n4:Z.objs.size=hp.objs.size+4:=by rw[e4,m_,n3]
 have p5 : ∀c o,Z.get? c=some o->F.get? c=some o:=λc o e=>by rw[e5];exact d_ _ e
 have p4 : ∀c o,Y.get? c=some o->F.get? c=some o:=λc o e=>p5 c o (by rw[e4];exact d_ _ e)
 have p3 : ∀c o,L.get? c=some o->F.get? c=some o:=λc o e=>p4 c o (by rw[e3];exact d_ _ e)
 have p2 : ∀c o,B.get? c=some o->F.get? c=some o:=λc o e=>p3 c o (by rw[e2];exact d_ _ e)
 have p1 : ∀c o,hp.get? c=some o->F.get? c=some o:=λc o e=>p2 c o (by rw[e1];exact d_ _ e)
 obtain⟨oS,hS⟩:=h1.ex;obtain⟨oT,hT,_⟩:=id h2;refine⟨⟨by rw[e5];exact gr _ rfl,p4 _ _ (by rw[e3];exact gr _ rfl),⟨.none,.none,p5 _ _ (by rw[e4];exact gr _ rfl)⟩,(by cases q <;> exact⟨_,p2 _ _ (by rw[e1];exact gr _ rfl),rfl,rfl⟩),⟨_,p3 _ _ (by rw[e2];exact gr _ rfl),rfl,rfl⟩⟩,?_,n4,n3,n2,n1,p1⟩
 rw[n1,n2,n3,n4];exact PyProof.Rows.zipApart_new (e9 hS) (e9 hT)
set_option maxHeartbeats 0 in
theorem Bu (q:Bool) (S T:Addr) (xs ys:Array Value):Meets (Builtin.«zip.__new__» ⟨[.type "zip",.ref S,.ref T],[]⟩) (λ_ R s=>ZSq q s.heap S xs/\s.heap.IsTuple T ys /\
   ∀g z P O I J,iw q g z P O I J S T 0 .none (.bool false)->Ko z P O I J S T->s.heap.objs.size<=z->s.heap.objs.size<=P->s.heap.objs.size<=O->s.heap.objs.size<=I->s.heap.objs.size<=J->(∀c o,s.heap.get? c=some o->g.get? c=some o)->R (.ok (.ret (.ref z))) { s with heap:=g }) :=
 .of_wp λprog w A R s h=>by
  obtain⟨hp,g,d,tk,B⟩:=s;obtain⟨h1,h2,h⟩:=h;have aa:=sub_zip;cases q with
  | false =>
   have Y:KB (Shared.heap ⟨hp,g,d,tk,B⟩) S xs:=h1
   have L:KB (Shared.heap ⟨hp.push { cls:=.type "tuple_iterator",data:=.fields #[.ref S,.int 0 0] },g,d,tk,B⟩) T ys:=Heap.IsTuple.push h2 _
   wp_walk using v9 Y,v9 L
   obtain⟨F,zb,n4,n3,n2,Z,zc⟩:=yI (hp:=hp) h1 h2 rfl rfl rfl rfl rfl;exact⟨_,rfl,h _ _ _ _ _ _ F zb (gt (Jc _ 4) (Ji n4.symm)) (gt (Jc _ 2) (Ji n2.symm)) (gt (Jc _ 3) (Ji n3.symm)) (hH _) (gt (Jc _ 1) (Ji Z.symm)) zc⟩
  | true =>
   have Y:Heap.IsList (Shared.heap ⟨hp,g,d,tk,B⟩) S xs:=h1
   have L:KB (Shared.heap ⟨hp.push { cls:=.type "list_iterator",data:=.fields #[.ref S,.int 0 0] },g,d,tk,B⟩) T ys:=Heap.IsTuple.push h2 _
   wp_walk using Js Y,v9 L
   obtain⟨F,zb,n4,n3,n2,Z,zc⟩:=yI (hp:=hp) h1 h2 rfl rfl rfl rfl rfl;exact⟨_,rfl,h _ _ _ _ _ _ F zb (gt (Jc _ 4) (Ji n4.symm)) (gt (Jc _ 2) (Ji n2.symm)) (gt (Jc _ 3) (Ji n3.symm)) (hH _) (gt (Jc _ 1) (Ji Z.symm)) zc⟩
theorem sU {xs:Array Value} (h1:ZSq q s.heap S xs) (h2:s.heap.IsTuple T ys)
  (k : ∀g z P O I J,iw q g z P O I J S T 0 .none (.bool false)->Ko z P O I J S T->s.heap.objs.size<=z->s.heap.objs.size<=P->s.heap.objs.size<=O->s.heap.objs.size<=I->s.heap.objs.size<=J->(∀c o,s.heap.get? c=some o->g.get? c=some o)->Q (.ref z) { s with heap:=g }) :
  wpAny (model prog w) A (call (.type "zip") [.ref S,.ref T]) Q E s:=by
 refine callType_new F.called_zip ∅ (F.typeCall_zip_2 _ _) (F.newCall_zip_2 _ _) (λobj=>F.args_object_init_3 obj _ _) F.entry_zip_new (Bu q S T xs ys) ⟨h1,h2,λg z P O I J Z D Y B l3 l4 L kk=>?_⟩
 exact⟨⟨_,Z.zz,rfl⟩,k g z P O I J Z D Y B l3 l4 L kk⟩
theorem eW {P:Addr} (L:s.heap.get? z=some { cls:=.type "zip",dict:=none,data:=.fields #[f0,f1,.bool false,.ref P,.ref O],slots := #[] }) (h:Q (.ref z) s):wpAny (model prog w) A (pyIter (.ref z)) Q E s:=by
 have B:s.TypeIs (.ref z) "zip" :=⟨_,L,rfl⟩
 refine wpAny_pyIter_slot B F.slot_zip_iter (m8 F.slot_zip_iter B F.entry_zip_iter (by
  show wpAny _ _ (ret (.ref z)) _ _ s
  exact e7 ⟨_,rfl,"zip",_,B,t7.lookup,h⟩) (F.args_zip_iter_1 _))
theorem zC:G3 (.type "zip") "__len__" = pure none:=by rw[x0,p6];kernel_rfl
theorem xK:G3 (.type "zip") "__length_hint__" = pure none:=by rw[x0,p6];kernel_rfl
def qy (g:Heap) (n0:Nat) (xs ys:Array Value) (ts:List Addr):Prop:=ts.Nodup/\∀(j:Nat) (t:Addr),ts[j]? = some t->∃x y,xs[j]? = some x/\ys[j]? = some y/\IsPair g t x y/\n0<=t
def ZSt (g:Heap) (z P O I J S T:Addr) (i:Nat) (ts:List Addr):Prop:=(ts=[]/\ZTup g z P O I J S T i .none (.bool false))\/∃B f1,B∈ts/\(f1 = .bool false\/f1 = .bool true)/\ZTup g z P O I J S T i (w4 B) f1
theorem qy.keep {g g':Heap} {xs:Array Value} {ts:List Addr} (h:qy g n0 xs ys ts) (k : ∀b o,n0<=b->g.get? b=some o->g'.get? b=some o):qy g' n0 xs ys ts:=⟨h.1,λj t e=>by
 obtain⟨x,y,h1,h2,F,B⟩:=h.2 j t e;exact⟨x,y,h1,h2,k _ _ B F,B⟩⟩
theorem qy.snoc {g:Heap} {xs:Array Value} {ts:List Addr} {t:Addr} {x y:Value} (h:qy g n0 xs ys ts) (h1:xs[ts.length]? = some x) (h2:ys[ts.length]? = some y) (F:IsPair g t x y) (Y:n0<=t) (hn:t∉ts):qy g n0 xs ys (ts++[t]):=⟨rb.mpr ⟨h.1,by simp,λa ha b L z=>hn (by rw[e_.mp L] at z;rw[<- z];exact ha)⟩,λj u e=>by
 by_cases B:j < ts.length
 .rw[t4 B] at e
  exact h.2 j u e
 .have hj':j=ts.length:=by
   have:=i4.mp e
   obtain⟨hl,_⟩:=this;simp at hl
   omega
  subst hj';rw[u9 (hH _),sub_self] at e;cases e;exact⟨x,y,h1,h2,F,Y⟩⟩
theorem wT (hd:A.handled=none) {z P O I J S T L:Addr} {xs ys:Array Value} {n0:Nat} (res:Value) (D:Ko z P O I J S T) (hL:L < n0) (hb : ∀b∈[z,P,O,I,J],b < n0) (ab : ∀b∈[z,P,O,I,J],L≠b) (a7:L≠S) (ay:L≠T) (hn:min xs.size ys.size<=100000) :
  ∀(k:Nat) (s:Shared) (ts:List Addr) (ac:Array Value) (c:Nat),min xs.size ys.size - ts.length=k->ts.length<=min xs.size ys.size->n0<=s.heap.objs.size->ZSt s.heap z P O I J S T ts.length ts->qy s.heap n0 xs ys ts->ac.toList=ts.map g9->s.heap.IsTuple S xs->s.heap.IsTuple T ys ->
  s.heap.get? L=some { cls:=.type "list",dict:=none,data:=.seq ac c,slots := #[] } ->
  (∀g am ag c',(∀b o,b≠L->b∉[z,P,O,I,J]->b < n0->s.heap.get? b=some o->g.get? b=some o)->qy g n0 xs ys am->am.length=min xs.size ys.size->ag.toList=am.map g9->g.get? L=some { cls:=.type "list",dict:=none,data:=.seq ag c',slots := #[] }->R (.ok (.ret res)) { s with heap:=g }) ->
  JA (model prog w) A (.builtin "list.extend.loop" ⟨[.ref L,.ref z,res],[]⟩) R s:=by
 intro k
 induction k with
 | zero =>
  intro s ts ac c hk a8 hsz ap aa af hS hT hl hR;have ax:ts.length=min xs.size ys.size:=()
  have an:xs[ts.length]? = none\/ys[ts.length]? = none:=by
   rcases Nat.le_total xs.size ys.size with h | h
   .exact .inl (JX ())
   .exact .inr (JX ())
  refine JU F.entry_extend_loop ?_
  rw[G5 JJ _]
  show wpAny _ A.in1 (Jr (.ref z) >>= _) _ _ s
  refine a_ ?_
  have ad : ∀g,(∀c o,c≠z->c≠O->c≠I->c≠J->s.heap.get? c=some o->g.get? c=some o)->R (.ok (.ret res)) { s with heap:=g }:=λg kg=>by
   refine hR g ts ac c (λb o b1 b2 b3 e=>?_) (aa.keep λb o B e=>?_) ax af ?_
   .simp only[i6,m4,or_false,not_or] at b2
    exact kg b o b2.1 b2.2.2.1 b2.2.2.2.1 b2.2.2.2.2 e
   .exact kg b o (pc (h_ (hb z (by simp)) B)) (pc (h_ (hb O (by simp)) B)) (pc (h_ (hb I (by simp)) B)) (pc (h_ (hb J (by simp)) B)) e
   .exact kg L _ (ab z (by simp)) (ab O (by simp)) (ab I (by simp)) (ab J (by simp)) hl
  rcases ap with⟨ht,Z⟩ | ⟨t0,f1,ht0,aj,Z⟩
  .have Y:s.TypeIs (.ref z) "zip" :=⟨_,Z.zz,rfl⟩
   unfold Jr;refine a_ (If (m6 (name:=b_ "__next__") Y t7 (m8 t7 Y JH (Bk hd D Z hS hT an λg e kg he=>?_) (Jt _))))
   obtain⟨o,ho,aq⟩:=he;refine a_ (JG (T := "StopIteration") (b:=true) ⟨o,ho,aq⟩ isSubtype_stop ?_)
   exact e7 (e7 (ad g kg))
  .obtain⟨j0,ak⟩:=List.getElem?_of_mem ht0
   obtain⟨_,_,_,_,ai,_⟩:=aa.2 j0 t0 ak;have Y:s.TypeIs (.ref z) "zip" :=⟨_,Z.zz,rfl⟩
   unfold Jr;refine a_ (If (m6 (name:=b_ "__next__") Y t7 (m8 t7 Y JH (DW hd D Z ai aj hS hT an λg e kg he=>?_) (Jt _))))
   obtain⟨o,ho,aq⟩:=he;refine a_ (JG (T := "StopIteration") (b:=true) ⟨o,ho,aq⟩ isSubtype_stop ?_)
   exact e7 (e7 (ad g kg))
 | succ k ih =>
  intro s ts ac c hk a8 hsz ap aa af hS hT hl hR;have az:ts.length < min xs.size ys.size:=()
  have hx:xs[ts.length]? = some (xs[ts.length]'()):=Jx ()
  have hy:ys[ts.length]? = some (ys[ts.length]'()):=Jx ()
  generalize xs[ts.length]'()=x at hx
  generalize ys[ts.length]'()=y at hy
  have ao:ac.size=ts.length:=by rw[<- y8,af,c_]
  refine JU F.entry_extend_loop ?_
  rw[G5 JJ _]
  show wpAny _ A.in1 (Jr (.ref z) >>= _) _ _ s
  refine a_ ?_
  have ad : ∀g t0 f1,(t0∈ts++[s.heap.objs.size])->(f1 = .bool false\/f1 = .bool true)->ZTup g z P O I J S T (ts.length+1) (w4 t0) f1->IsPair g s.heap.objs.size x y->g.objs.size=s.heap.objs.size+1 ->
    (∀c o,c≠z->c≠O->c≠I->c≠J->s.heap.get? c=some o->g.get? c=some o) ->
    wpAny (model prog w) A.in1 (updateSeq L (·.push (.ref s.heap.objs.size)) >>= λ_=>again (.builtin "list.extend.loop" ⟨[.ref L,.ref z,res],[]⟩))
     (λad s'=>match ad with | .done f=>R (.ok f) s' | .again c'=>c'.quiet=true/\JA (model prog w) A c' R s') (λe s'=>R (.error e) s') { s with heap:=g }:=λg t0 f1 h0 aj Z1 hp hg kg=>by
   have ar:=kg L _ (ab z (by simp)) (ab O (by simp)) (ab I (by simp)) (ab J (by simp)) hl
   have S1:g.IsTuple S xs:=hS.at λo e=>kg S o D.l1z D.l1TO D.l1i1 D.l1i2 e
   have T1:g.IsTuple T ys:=hT.at λo e=>kg T o D.l2z D.l2TO D.l2i1 D.l2i2 e
   have ah : ∀b o,b≠L->g.get? b=some o->(g.update L (p8 (·.push (.ref s.heap.objs.size)))).get? b=some o:=λb o B e=>(B_ _ _ (tj B)).trans e
   have aw:s.heap.objs.size∉ts:=λhm=>by
    obtain⟨j0,ak⟩:=List.getElem?_of_mem hm;obtain⟨_,_,_,_,ai,_⟩:=aa.2 j0 _ ak;exact absurd (e9 ai) (p9 _)
   refine a_ (Kv ar rfl (e7 ⟨Jl JJ _,ih _ (ts++[s.heap.objs.size]) (ac.push (.ref s.heap.objs.size)) _ (by simp;omega) (by simp;omega) ?_ (.inr ⟨t0,f1,h0,aj,?_⟩) ?_ (by simp[af]) ?_ ?_ (E_ _ ar rfl) λg' am ag c' k' o' l' a' a0=>?_⟩) (by rw[ao];exact gt (x8 az) (gt hn ∅)) (by show(ac.push _).size<=ge+1;rw[Array.size_push,ao];exact gt (show ts.length+1<=100001 by omega) ∅))
   .show n0<=(g.update L _).objs.size
    rw[Is,hg];omega
   .rw[o9]
    exact Z1.keep λb B o e=>ah b o (tj (ab b B)) e
   .refine(qy.snoc (aa.keep (g':=g) λb o B e=>kg b o (pc (h_ (hb z (by simp)) B)) (pc (h_ (hb O (by simp)) B)) (pc (h_ (hb I (by simp)) B)) (pc (h_ (hb J (by simp)) B)) e) hx hy hp hsz aw).keep λb o B e=>ah b o (pc (h_ hL B)) e
   .exact S1.at λo e=>ah S o (tj a7) e
   .exact T1.at λo e=>ah T o (tj ay) e
   .refine hR g' am ag c' (λb o b1 b2 b3 e=>?_) o' l' a' a0
    refine k' b o b1 b2 b3 (ah b o b1 ?_)
    simp only[i6,m4,or_false,not_or] at b2;exact kg b o b2.1 b2.2.2.1 b2.2.2.2.1 b2.2.2.2.2 e
  rcases ap with⟨ht,Z⟩ | ⟨t0,f1,ht0,aj,Z⟩
  .have Y:s.TypeIs (.ref z) "zip" :=⟨_,Z.zz,rfl⟩
   unfold Jr;refine a_ (If (m6 (name:=b_ "__next__") Y t7 (m8 t7 Y JH (zp D Z hS hT hx hy λg Z1 hp hg kg=>e7 ?_) (Jt _))))
   exact ad g _ _ (by simp) (.inl rfl) Z1 hp hg kg
  .obtain⟨j0,ak⟩:=List.getElem?_of_mem ht0
   obtain⟨_,_,_,_,ai,_⟩:=aa.2 j0 t0 ak;have Y:s.TypeIs (.ref z) "zip" :=⟨_,Z.zz,rfl⟩
   unfold Jr;refine a_ (If (m6 (name:=b_ "__next__") Y t7 (m8 t7 Y JH (Em D Z ai aj hS hT hx hy λg Z1 hp hg kg=>e7 ?_) (Jt _))))
   exact ad g _ _ (by simp[ht0]) (.inr rfl) Z1 hp hg kg
theorem CG (hd:A.handled=none) {z P O I J S T:Addr} {xs ys:Array Value} (D:Ko z P O I J S T) (Z:ZTup s.heap z P O I J S T 0 .none (.bool false)) (hS:s.heap.IsTuple S xs) (hT:s.heap.IsTuple T ys) (hn:min xs.size ys.size<=100000)
  (k : ∀g ts L c,(∀b o,b∉[z,P,O,I,J]->s.heap.get? b=some o->g.get? b=some o)->qy g (s.heap.objs.size+1) xs ys ts->ts.length=min xs.size ys.size->L.toList=ts.map g9 ->
   g.get? s.heap.objs.size=some { cls:=.type "list",dict:=none,data:=.seq L c,slots := #[] }->Q (.ref s.heap.objs.size) { s with heap:=g }) :
  wpAny (model prog w) A (call (.type "list") [.ref z]) Q E s:=by
 refine callType_codes (Q₁:=λobj s₁=>obj = .ref s.heap.objs.size/\s₁={ s with heap:=s.heap.push { cls:=.type "list",data:=.seq #[] } }) F.called_list (F.typeCall_list_1 _) F.entry_list_init (code_list_new _ ⟨rfl,rfl⟩) λobj s₁ ac=>?_
 obtain⟨rfl,rfl⟩:=ac;have up : ∀b o,s.heap.get? b=some o->(s.heap.push { cls:=.type "list",data:=.seq #[] }).get? b=some o:=λb o e=>d_ _ e
 have l0:(s.heap.push { cls:=.type "list",data:=.seq #[] }).get? s.heap.objs.size=some { cls:=.type "list",data:=.seq #[] }:=gr _ rfl
 have lt : ∀b∈[z,P,O,I,J],b < s.heap.objs.size:=λb B=>by
  obtain⟨u,v,oo⟩:=Z.oo;obtain⟨oi,i1,_⟩:=Z.ii;obtain⟨oj,j1,_⟩:=Z.jj;simp only[i6,m4,or_false] at B;rcases B with rfl | rfl | rfl | rfl | rfl
  .exact e9 Z.zz
  .exact e9 Z.pp
  .exact e9 oo
  .exact e9 i1
  .exact e9 j1
 have ad:S < s.heap.objs.size:=by obtain⟨o,e,_⟩:=hS;exact e9 e
 have ag:T < s.heap.objs.size:=by obtain⟨o,e,_⟩:=hT;exact e9 e
 refine⟨⟨_,l0,rfl⟩,F.args_list_init_2 _ _,?_⟩
 change wpAny _ _ (do let ah <- JW (.ref s.heap.objs.size);Builtin.List.listUpdate (.ref s.heap.objs.size) (λ_ => #[]);letGo ah.toList.reverse;u5 (.ref s.heap.objs.size) (.ref z) .none) _ _ _
 refine a_ (by
  unfold JW;refine a_ (u_ l0 rfl (e7 ?_))
  change wpAny _ _ (updateSeq s.heap.objs.size (λ_ => #[]) >>= λ_=>letGo (#[]:Array Value).toList.reverse >>= λ_=>u5 (.ref s.heap.objs.size) (.ref z) .none) _ _ _
  refine a_ (Kv l0 rfl ?_)
  have l1:=E_ (p8 (λ_=>(#[]:Array Value))) l0 rfl
  generalize ab:(s.heap.push { cls:=.type "list",data:=.seq #[] }).update s.heap.objs.size (p8 (λ_=>(#[]:Array Value)))=g1 at l1 ⊢
  have n1:g1.objs.size=s.heap.objs.size+1:=by rw[<- ab,Is,m_]
  have o1 : ∀b o,b < s.heap.objs.size->s.heap.get? b=some o->g1.get? b=some o:=λb o B e=>by rw[<- ab];exact(B_ _ _ (pc B)).trans (up b o e)
  refine a_ (wpAny_letGo ?_)
  unfold u5;have Z1:ZTup g1 z P O I J S T 0 .none (.bool false):=Z.keep λb B o e=>o1 b o (lt b B) e
  have Y:({ s with heap:=g1 }:Shared).TypeIs (.ref z) "zip" :=⟨_,Z1.zz,rfl⟩
  refine a_ (J_ Y ?_)
  have q1:JF (.ref s.heap.objs.size) (.ref z)=false:=by simp[JF,pc (lt z (by simp))]
  have q2:(I_ "zip" == I_ "list")=false:=∅
  have q3:(I_ "zip" == I_ "tuple")=false:=∅
  simp only[q1,q2,q3,Bool.or_false,g_,if_false];refine a_ (eW Z1.zz ?_)
  refine a_ (o_ ?_)
  unfold Builtin.List.listLengthHint;refine a_ (y3 Y zC ?_)
  change wpAny _ _ (specialOf (g9 z) (b_ "__length_hint__") >>= _) _ _ _;refine a_ (y3 Y xK (e7 ?_))
  change wpAny _ _ (rule "list.extend.makes-room" >>= λ_=>(updateSeq s.heap.objs.size (·.push .none) >>= λ_=>updateSeq s.heap.objs.size (·.pop)) >>= λ_=>again (.builtin "list.extend.loop" ⟨[.ref s.heap.objs.size,.ref z,.none],[]⟩)) _ _ _
  refine a_ (Jw (a_ (a_ (Kv l1 rfl ?_))))
  have l2:=E_ (p8 (·.push n_)) l1 rfl;refine Kv l2 rfl ?_
  have l3:=E_ (p8 (·.pop)) l2 rfl;generalize af:(g1.update s.heap.objs.size (p8 (·.push n_))).update s.heap.objs.size (p8 (·.pop))=g3 at l3 ⊢;have n3:g3.objs.size=s.heap.objs.size+1:=by rw[<- af,Is,Is,n1]
  have o3 : ∀b o,b < s.heap.objs.size->s.heap.get? b=some o->g3.get? b=some o:=λb o B e=>by rw[<- af];exact(B_ _ _ (pc B)).trans ((B_ _ _ (pc B)).trans (o1 b o B e))
  refine e7 ⟨Jl JJ _,wT (A:=A.in1) hd (n0:=s.heap.objs.size+1) .none D (Jd _) (λb B=>G_ (lt b B)) (λb B=>pc (lt b B)) (pc ad) (pc ag) hn _ { s with heap:=g3 } [] #[] _ rfl (x5 _) (by show _<=g3.objs.size;rw[n3];exact hH _) (.inl ⟨rfl,Z.keep λb B o e=>o3 b o (lt b B) e⟩) ⟨List.nodup_nil,λj t e=>by simp at e⟩ rfl (hS.at λo e=>o3 S o ad e) (hT.at λo e=>o3 T o ag e) l3 λg ts L c kg hz hl ha hL=>⟨rfl,k g ts L c (λb o B e=>?_) hz hl ha hL⟩⟩
  have aa:=e9 e;exact kg b o (j_ aa) B (G_ aa) (o3 b o aa e))
end PySem
namespace L2
open PySem PySem.Spec PyProof.Rows
theorem Inv.turnedL {g:Heap} (I:Inv X pins σ H s) (k : ∀b o,b∉fp->s.heap.get? b=some o->g.get? b=some o) (F : ∀b∈fp,pX X pins H b):Inv X pins σ H { s with heap:=g,toks:=t' }:=by
 have L : ∀b u,H b=some u->b∉fp:=λb u e z=>by rw[(F b z).1] at e;cases e
 refine I.step (g':=s.gens) (d':=s.drawn) (ch:=fp) (λb Y=>⟨(F b Y).2.2.2.1,(F b Y).2.1,(F b Y).2.2.2.2.1,(F b Y).2.2.2.2.2⟩) (λb o _ _ B e _=>k b o B e) (λb o _ _ B e _=>⟨o.slots,k b o B e⟩) (λ_ _ _ _ n=>n)
  (λb o B e=>⟨o,k b o B e⟩) (λ_ _ e=>e) (λ_ _ _ e=>e) (λb ps e=>⟨#[],by rw[e];simp⟩) (λm Z=>?_) (λb u e=>?_) I.bare
 .obtain⟨o,es,ep,ho,r⟩:=Z
  exact⟨o,es,ep,k _ o (λz=>(F _ z).2.1 rfl) ho,r⟩
 .refine(I.hok b u e).stay (λc v B q=>k c v ?_ q) (λ_ q=>q) λ_ _ q=>q
  rcases B with z | z
  .rw[z];exact L b u e
  .exact L c _ z
theorem Inv.turnedNew {g:Heap} (I:Inv X pins σ H s) (k : ∀b o,b∉fp->s.heap.get? b=some o->g.get? b=some o) (L : ∀b∈fp,pX X pins H b) (ha:s.heap.objs.size<=a)
  (ok:bA X.prog X.w (upd H a u0) g a u0):Inv X pins σ (upd H a u0) { s with heap:=g,toks:=t' }:=by
 have Z : ∀b u,H b=some u->b∉fp:=λb u e z=>by rw[(L b z).1] at e;cases e
 have na : ∀b o,s.heap.get? b=some o->b≠a:=λb o e z=>by rw[z] at e;exact absurd (h_ (e9 e) ha) (p9 _)
 have hn:H a=none:=I.hok.fresh ha
 have Y : ∀b u,H b=some u->b≠a:=λb u e z=>by rw[z,hn] at e;cases e
 refine I.step (g':=s.gens) (d':=s.drawn) (ch:=fp) (λb B=>⟨(L b B).2.2.2.1,(L b B).2.1,(L b B).2.2.2.2.1,(L b B).2.2.2.2.2⟩) (λb o _ _ F e _=>k b o F e) (λb o _ _ F e _=>⟨o.slots,k b o F e⟩) (λb o _ e n=>by rw[ah (na b o e)];exact n)
  (λb o F e=>⟨o,k b o F e⟩) (λb xs e=>by rw[ah (Y b _ e)];exact e) (λb o u e=>by rw[ah (Y b _ e)];exact e) (λb ps e=>⟨#[],by rw[ah (Y b _ e),e];simp⟩) (λm hm=>?_) (λb u e=>?_) I.bare
 .obtain⟨o,es,ep,ho,r⟩:=hm
  exact⟨o,es,ep,k _ o (λz=>(L _ z).2.1 rfl) ho,r⟩
 .by_cases B:b=a
  .subst B
   rw[ae] at e;cases e;exact ok
  .rw[ah B] at e
   refine(I.hok b u e).stay (λc v F q=>k c v ?_ q) (λc q=>by rw[ah (Y c _ q)];exact q) (λc xs q=>by rw[ah (Y c _ q)];exact q) λc _ _ q=>by rw[ah (Y c _ q)];exact q
   rcases F with z | z
   .rw[z];exact Z b u e
   .exact Z c _ z
def SqQ:Bool->fx->Hp->Addr->List V->Prop
 | false=>SqT
 | true=>SqL
theorem Inv.sq (I:Inv X pins σ H s) (h:SqQ q X.K H a xs) : ∃its:List Value,bj xs its/\ZSq q s.heap a its.toArray/\xs.length<=ge:=by
 cases q with
 | false=>exact I.tuple h
 | true =>
  obtain⟨its,h1,h2,B⟩:=I.list h;exact⟨its,h1,h2.isList,B⟩
theorem Inv.sq_inj {ys:List V} (I:Inv X pins σ H s) (h:SqQ q X.K H a xs) (h':SqQ q X.K H a ys):xs=ys:=by
 cases q with
 | false=>exact I.tuple_inj h h'
 | true=>exact I.list_inj h h'
def F2 (q:Bool) (K:fx) (a b:Addr):It :=
  ⟨λi H=>∃xs ys x y,SqQ q K H a xs/\SqT K H b ys/\xs[i]? = some x/\ys[i]? = some y,
   λi H v H'=>∃t x y,H t=none/\v = .ref t/\H'=upd H t (.tup [x,y])/\(∀xs,SqQ q K H a xs->xs[i]? = some x)/\(∀ys,SqT K H b ys->ys[i]? = some y),
   λi H=>∃xs ys,SqQ q K H a xs/\SqT K H b ys/\(xs[i]? = none\/ys[i]? = none)⟩
abbrev Itz:=F2 false
theorem sS (h:bj xs us) (e:xs[i]? = none):us[i]? = none:=by
 have:=h.length
 rw[FN] at e ⊢;omega
theorem A7 {x1} {pos:Pos} (a b z Q O I J:Addr) (D:Ko z Q O I J a b) :
  tV P w K (.Tuple es x1 pos) (F2 q K a b) [z,Q,O,I,J] z (λi h=>iw q h z Q O I J a b i .none (.bool false)) where
 mem:=by simp
 obj:=λi h st c B=>by
  obtain⟨u,v,oo⟩:=st.oo;obtain⟨oi,i1,i3⟩:=st.ii.ex;obtain⟨oj,j1,j2,j3⟩:=st.jj;simp only[i6,m4,or_false] at B;rcases B with rfl | rfl | rfl | rfl | rfl
  .exact⟨_,st.zz,λv z=>by cases z⟩
  .exact⟨_,st.pp,λv z=>by cases z⟩
  .exact⟨_,oo,λv z=>by cases z⟩
  .exact⟨oi,i1,λv z=>by rw[i3] at z;cases z⟩
  .exact⟨oj,j1,λv z=>by rw[j3] at z;cases z⟩
 keep:=λi h h' st k=>st.keep k
 item:=by
  intro X hP hw hK B i pins s σ H E Y hf st hg;subst hP hw hK;obtain⟨xs,ys,x,y,hq,Z,hx,hy⟩:=hg;obtain⟨its,rv,p,hz⟩:=Y.sq hq;obtain⟨L,ab,p2,af⟩:=Y.tuple Z;obtain⟨u,hu,ru⟩:=rv.get hx;obtain⟨u2,ad,ai⟩:=ab.get hy;have hT:s.TypeIs (.ref z) "zip" :=⟨_,st.zz,rfl⟩
  unfold Jr;refine a_ (If (m6 (name:=b_ "__next__") hT t7 (m8 t7 hT JH (zp D st p (show s.heap.IsTuple b L.toArray from p2) (x:=u) (y:=u2) (by simpa using hu) (by simpa using ad) λg Z1 t1 n1 k1=>e7 ⟨_,rfl,?_⟩) (Jt _))))
  have ac:H s.heap.objs.size=none:=Y.hok.fresh (hH _)
  refine wpAny_letOwnedTupleGo_zip (s:={ s with heap:=g }) Z1.zz λg2 z2 s2=>?_
  have nn : ∀c∈[z,Q,O,I,J],c≠s.heap.objs.size:=λc B e=>by
   obtain⟨u',v',oo⟩:=st.oo;obtain⟨oi,i1,_⟩:=st.ii.ex;obtain⟨oj,j1,_⟩:=st.jj;simp only[i6,m4,or_false] at B;rcases B with rfl | rfl | rfl | rfl | rfl
   .exact absurd (e9 st.zz) (by rw[e];exact p9 _)
   .exact absurd (e9 st.pp) (by rw[e];exact p9 _)
   .exact absurd (e9 oo) (by rw[e];exact p9 _)
   .exact absurd (e9 i1) (by rw[e];exact p9 _)
   .exact absurd (e9 j1) (by rw[e];exact p9 _)
  have Z2:iw q g2 z Q O I J a b (i+1) .none (.bool false):=by
   obtain⟨u',v',oo⟩:=Z1.oo;exact⟨z2,s2.extBut _ _ D.TIz Z1.pp,⟨u',v',s2.extBut _ _ D.TOz oo⟩,Z1.ii.extBut s2.extBut D.i1z,Z1.jj.extBut s2.extBut D.i2z⟩
  have I2:Inv X pins σ (upd H s.heap.objs.size (.tup [x,y])) { s with heap:=g2 }:=Y.turnedNew (t':=s.toks) (fp:=[z,Q,O,I,J]) (λc o B e=>by
    simp only[i6,m4,or_false,not_or] at B;exact s2.extBut _ _ B.1 (k1 c o B.1 B.2.2.1 B.2.2.2.1 B.2.2.2.2 e)) hf (hH _)
   ⟨by show 2<=ge;decide,[u,u2],.cons ru (.cons ai .nil),⟨_,s2.extBut _ _ (nn z (by simp)).symm t1,rfl,_,rfl⟩⟩
  exact⟨.ref s.heap.objs.size,_,I2,rfl,⟨_,x,y,ac,rfl,rfl,λzs aa=>by rw[Y.sq_inj aa hq];exact hx,λzs aa=>by rw[Y.tuple_inj aa Z];exact hy⟩,Z2,λc B=>by rw[ah (nn c B)];exact(hf c B).1⟩
 done:=by
  intro X hP hw hK B i pins s σ H E Y hf st hg;subst hP hw hK;obtain⟨xs,ys,hq,Z,hx⟩:=hg;obtain⟨its,rv,p,hz⟩:=Y.sq hq;obtain⟨L,ab,p2,af⟩:=Y.tuple Z;have hT:s.TypeIs (.ref z) "zip" :=⟨_,st.zz,rfl⟩
  unfold Jr;refine a_ (If (m6 (name:=b_ "__next__") hT t7 (m8 t7 hT JH (Bk (Y.ok.hd B) D st p (show s.heap.IsTuple b L.toArray from p2) (hx.imp (λe=>by simpa using sS rv e) λe=>by simpa using sS ab e) λg e kg he=>?_) (Jt _))))
  obtain⟨o,ho,ag⟩:=he;refine a_ (JG (T := "StopIteration") (b:=true) ⟨o,ho,ag⟩ isSubtype_stop ?_)
  exact e7 ⟨rfl,Y.turnedL (t':=s.toks) (fp:=[z,Q,O,I,J]) (λc o B e=>by
    simp only[i6,m4,or_false,not_or] at B;exact kg c o B.1 B.2.2.1 B.2.2.2.1 B.2.2.2.2 e) hf⟩
 self:=λ_ _ _ _ _ st h=>eW st.zz h
theorem Inv.grown {g:Heap} (I:Inv X pins σ H s) (k : ∀b o,s.heap.get? b=some o->g.get? b=some o) (B : ∀b,b < s.heap.objs.size->H' b=H b)
  (new : ∀b u,s.heap.objs.size<=b->H' b=some u->bA X.prog X.w H' g b u):Inv X pins σ H' { s with heap:=g,toks:=t' }:=by
 have lt : ∀b u,H b=some u->b < s.heap.objs.size:=λb u e=>(I.hok b u e).lt
 have F : ∀b u,H b=some u->H' b=some u:=λb u e=>(B b (lt b u e)).trans e
 refine I.step (g':=s.gens) (d':=s.drawn) (ch:=[]) (λ_ z=>nomatch z) (λb o _ _ _ e _=>k b o e) (λb o _ _ _ e _=>⟨o.slots,k b o e⟩) (λb o _ e n=>by rw[B b (e9 e)];exact n)
  (λb o _ e=>⟨o,k b o e⟩) (λb xs e=>F b _ e) (λb o u e=>F b _ e) (λb ps e=>⟨#[],by rw[F b _ e];simp⟩) (λm L=>?_) (λb u e=>?_) I.bare
 .obtain⟨o,es,ep,ho,r⟩:=L
  exact⟨o,es,ep,k _ o ho,r⟩
 .by_cases hb:b < s.heap.objs.size
  .rw[B b hb] at e
   exact(I.hok b u e).stay (λc v _ q=>k c v q) (λc q=>F c _ q) (λc xs q=>F c _ q) λc _ _ q=>F c _ q
  .exact new b u (Nat.le_of_not_lt hb) e
def iZG (q:Bool) (Pr:Hp->Addr->List V->Prop) (K:fx) (ta:TA):TI:=λσ H R=>ta σ H λvs H1=>∃a b,vs=[.ref a,.ref b]/\∃xs,Pr H1 a xs/\∃ys,H1 b>>ys/\R (F2 q K a b) H1
def iZ (K:fx) (ta:TA):TI:=λσ H R=>ta σ H λvs H1=>∃a b,vs=[.ref a,.ref b]/\∃xs,H1 a>>xs/\∃ys,H1 b>>ys/\R (Itz K a b) H1
section
variable {e2:Expr} {ta:TA} {p pos2:Pos} {x1:Nat}
theorem su:y6 "zip" = some (.type "zip"):=by decide+kernel
theorem Dz {x1} {q:Bool} {Pr:Hp->Addr->List V->Prop} (ab : ∀H a xs,Pr H a xs->SqQ q K H a xs) (hK:X.K=K) (hg:Gl X "zip") (hm:X.mg "zip" = none) (ha:PA X [e1,e2] ta) (hs:j9 [e1,e2] X.env=[(false,eval e1 X.env),(false,eval e2 X.env)]:=by rfl) (F:j9 [e2] X.env=[(false,eval e2 X.env)]:=by rfl) :
  PI X (.Tuple es x1 pos') (.Call (.Name "zip" p) [e1,e2] [] pos) (iZG q Pr K ta):=by
 subst hK;intro pins s σ H R I h;refine Call_ (gs I hg hm su (n9 (thn (ha pos pins s σ H _ I h) λus s1 ⟨vs,H1,I1,r1,q1⟩=>?_) (by rw[hs,F]) (by rw[F];rfl)))
 obtain⟨a,b,e,xs,L,ys,aa,q⟩:=q1;subst e;obtain⟨u,u2,rfl,ru,ac⟩:=pf r1;cases ru;cases ac;obtain⟨its,rv,pl,hz⟩:=I1.sq (ab _ _ _ L);obtain⟨B,af,Y,ad⟩:=I1.tuple (SqT.of aa);refine sU pl (show s1.heap.IsTuple b B.toArray from Y) λg z P O II J Z D l1 l2 l3 l4 l5 kg=>?_
 refine eW (s:={ s1 with heap:=g }) Z.zz ⟨z,[z,P,O,II,J],_,_,H1,rfl,I1.kept (t':=s1.toks) kg,A7 a b z P O II J D,Z,λc hc=>?_,q⟩
 simp only[i6,m4,or_false] at hc;rcases hc with rfl | rfl | rfl | rfl | rfl
 .exact I1.fpOk l1 (I1.hok.fresh l1)
 .exact I1.fpOk l2 (I1.hok.fresh l2)
 .exact I1.fpOk l3 (I1.hok.fresh l3)
 .exact I1.fpOk l4 (I1.hok.fresh l4)
 .exact I1.fpOk l5 (I1.hok.fresh l5)
theorem FX {x1} (hK:X.K=K) (F:Gl X "zip") (Y:X.mg "zip" = none) (ha:PA X [e1,e2] ta) (L:j9 [e1,e2] X.env=[(false,eval e1 X.env),(false,eval e2 X.env)]:=by rfl) (B:j9 [e2] X.env=[(false,eval e2 X.env)]:=by rfl) :
  PI X (.Tuple es x1 pos') (.Call (.Name "zip" p) [e1,e2] [] pos) (iZ K ta):=Dz (q:=false) (Pr:=λH a xs=>H a>>xs) (λ_ _ _ h=>SqT.of h) hK F Y ha L B
theorem Ej {g:TG} {Q:VK} {D:Addr} (B:Nat->List V->Hp->Prop) (h0:B 0 [] (upd H1 D (.lst []))) (hl : ∀i ys H,B i ys H->SqT K H a xs/\SqT K H b zs)
  (hs : ∀(i:Nat) (x y:V) (ys:List V) (H:Hp) (t:Addr),xs[i]? = some x->zs[i]? = some y->B i ys H->H t=none->g (.ref t) σ0 (upd H t (.tup [x,y])) λL H3=>tc L H3 λc H4=>if c=true then te L H4 λv H5=>H5 D*>ys/\ys.length < ge/\B (i+1) (ys++[v]) (upd H5 D (.lst (ys++[v]))) else B (i+1) ys H4)
  (hd : ∀ys H,B (min xs.length zs.length) ys H->Q (.ref D) H):oC (Itz K a b) σ0 g tc te Q H1 D:=by
 refine⟨λi m ys H=>B i ys H/\i<=min xs.length zs.length/\m=min xs.length zs.length - i,⟨_,h0,x5 _,rfl⟩,?_⟩
 rintro i m ys H ⟨hp,hi,rfl⟩
 obtain⟨sa,Z⟩:=hl i ys H hp
 by_cases Y:i=min xs.length zs.length
 .left
  subst Y;refine⟨⟨xs,zs,sa,Z,?_⟩,hd ys H hp⟩
  rcases Nat.le_total xs.length zs.length with h | h
  .exact .inl (FN.mpr ())
  .exact .inr (FN.mpr ())
 .right
  have h1:i < xs.length:=()
  have h2:i < zs.length:=()
  refine⟨⟨xs,zs,xs[i],zs[i],sa,Z,by simp[h1],by simp[h2]⟩,λF H'=>B (i+1) F H',λF H' h=>⟨_,(),h,(),rfl⟩,?_⟩
  rintro v H' ⟨t,x,y,ht,rfl,rfl,e1,e2⟩
  exact hs i x y ys H t (e1 xs sa) (e2 zs Z) hp ht
theorem gu (hi:i < nt:=by decide) (F:j < nt:=by decide) (B:i≠j:=by decide):Cr (vz n (qK (gb i) (qK (gb j) BB))) nt:=by
 intro x σ0 H Q h q;obtain⟨a,e,xs,sq,l,v,r,e2,v',r',Y,L,q⟩:=q;refine⟨a,e,xs,sq,l,v,r,e2,v',r',Y,L,(Wk.set (h i hi)).trans (Wk.set ?_),q⟩
 rw[Kl B];exact h j F
theorem zZ {B:St} {Q:VK} {D:Addr} (f:V->V->V) (Y:H1 D=none) (ha:H1 a>>xs) (hb:H1 b>>zs) (hn:xs.length<=10000)
  (he : ∀(x y:V) (H2:Hp) (F:VK),x∈xs->y∈zs->au H1 H2->(∀Z,au H2 Z->F (f x y) Z)->te (some x :: some y :: B) H2 F)
  (hd : ∀H2,au H1 H2->H2 D*>(zipWith f xs zs)->Q (.ref D) H2):oC (Itz K a b) (none :: none :: B) (vz 2 (qK (gb 0) (qK (gb 1) BB))) wL te Q H1 D:=by
 refine Ej (xs:=xs) (zs:=zs) (λi ys H=>ys=zipWith f (xs.take i) (zs.take i)/\au H1 H/\H D*>ys) ⟨by simp,au.upd0 Y,ae⟩ (λi ys H h=>⟨.of (h.2.1 _ _ ha),.of (h.2.1 _ _ hb)⟩) ?_ ?_
 .rintro i x y ys H t hx hy ⟨rfl,sm,hd'⟩ ht
  have st:au H (upd H t (.tup [x,y])):=au.upd0 ht
  refine⟨t,rfl,[x,y],ae,rfl,x,[y],rfl,y,[],rfl,rfl,?_⟩
  simp only[wL,if_true];refine he x y _ _ (f_ hx) (f_ hy) (sm.trans st) λH4 L=>⟨L _ _ (st _ _ hd'),?_,?_,λc o e=>?_,ae⟩
  .refine r_ (gt ?_ hn) ∅
   rw[List.length_zipWith,IZ];omega
  .have e1:xs.take (i+1)=xs.take i++[x]:=by rw[i7,hx];rfl
   have e2:zs.take (i+1)=zs.take i++[y]:=by rw[i7,hy];rfl
   have h1:i < xs.length:=(i4.mp hx).1
   have h2:i < zs.length:=(i4.mp hy).1
   rw[e1,e2,List.zipWith_append (by simp;omega)]
   rfl
  .rw[ah (ao e Y)];exact L _ _ (st _ _ (sm c o e))
 .rintro ys H ⟨rfl,sm,hd'⟩
  refine hd H sm ?_
  rw[hd']
  congr 2
  have:zipWith f xs zs=zipWith f (xs.take (min xs.length zs.length)) (zs.take (min xs.length zs.length)):=by
   rw[<- List.take_zipWith,p_ (by rw[List.length_zipWith];exact hH _)]
  exact this.symm
def Ee (H:Hp) (ts:List Addr) (xs ys:List V):Prop:=ts.length=min xs.length ys.length/\∀(j:Nat) (t:Addr) (x y:V),ts[j]? = some t->xs[j]? = some x->ys[j]? = some y->H t>>[x,y]
def qN (ta:TA):TE:=λσ H Q=>ta σ H λvs H1=>∃a b,vs=[.ref a,.ref b]/\∃xs,H1 a>>xs/\∃ys,H1 b>>ys/\xs.length<=10000/\∀(l:Addr) (ts:List Addr) (H':Hp),au H1 H'->H1 l=none->H' l*>(ts.map V.ref)->Ee H' ts xs ys->Q (.ref l) H'
theorem rY : ∀(ts:List Addr),bj (ts.map V.ref) (ts.map g9)
 | []=>.nil
 | t :: ts=>.cons rfl (rY ts)
theorem CD {α:Type} [BEq α] [LawfulBEq α] : ∀{l:List α} {j:Nat} (_:l.Nodup) (h:j < l.length),l.idxOf? l[j]=some j
 | [],j,_,h=>absurd h (by simp)
 | x :: l,0,_,_=>by simp[idxOf?_cons]
 | x :: l,j+1,hn,h=>by
  rw[mu] at hn;have F:j < l.length:=by simpa using h
  have B : ¬ ((x == l[j])=true):=λe=>hn.1 (by rw[eq_of_beq e];exact v_ F)
  rw[List.getElem_cons_succ,idxOf?_cons,if_neg B,CD hn.2 F];rfl
theorem DP  [BEq α] [LawfulBEq α] {l:List α} {x:α} {j:Nat} (h:l.idxOf? x=some j) : ∃Y:j < l.length,l[j]=x:=by
 induction l generalizing j with
 | nil=>simp at h
 | cons y l B =>
  rw[idxOf?_cons] at h
  split at h
  .rename_i e
   cases h;exact⟨by simp,by simpa using e⟩
  .cases e2:l.idxOf? x with
   | none=>rw[e2] at h;cases h
   | some k =>
    rw[e2] at h;cases h;obtain⟨F,L⟩:=B e2;exact⟨by simpa using F,by simpa using L⟩
theorem xE (hc:X.calm=true) (hg:Gl X "list") (hm:X.mg "list" = none) (ax:Gl X "zip") (ao:X.mg "zip" = none) (ha:PA X [e1,e2] ta) (hs:j9 [e1,e2] X.env=[(false,eval e1 X.env),(false,eval e2 X.env)]:=by rfl) (ac:j9 [e2] X.env=[(false,eval e2 X.env)]:=by rfl) :
  PE X (.Call (.Name "list" p) [.Call (.Name "zip" p2) [e1,e2] [] pos2] [] pos) (qN ta):=by
 intro pins s σ H Q I h;refine x3 (gs I hg hm (by decide+kernel:y6 "list" = some (.type "list")) ?_)
 refine n9 (JS ?_) rfl rfl
 refine x3 (gs I ax ao su ?_)
 refine n9 (thn (ha pos2 pins s σ H _ I h) λus F ⟨vs,H1,I1,r1,q1⟩=>?_) (by rw[hs,ac]) (by rw[ac];rfl)
 obtain⟨a,b,e,xs,aw,ys,ap,az,q⟩:=q1;subst e;obtain⟨u,u2,rfl,ru,ay⟩:=pf r1;cases ru;cases ay;obtain⟨its,rv,pl,hz⟩:=I1.tuple (SqT.of aw);obtain⟨B,af,ak,a7⟩:=I1.tuple (SqT.of ap);have n1:=rv.length;have n2:=af.length;refine sU (q:=false) (show F.heap.IsTuple a its.toArray from pl) (show F.heap.IsTuple b B.toArray from ak) λg z P O II J Z D l1 l2 l3 l4 l5 kg=>?_
 refine J1 ?_
 have pg:g.IsTuple a its.toArray:=(show F.heap.IsTuple a its.toArray from pl).at λo e=>kg a o e
 have aq:g.IsTuple b B.toArray:=(show F.heap.IsTuple b B.toArray from ak).at λo e=>kg b o e
 refine CG (s:={ F with heap:=g }) (I.ok.hd hc) D Z pg aq (by simp only[j6];omega) λg2 ts a0 c k2 hz hl am hL=>?_
 have L:F.heap.objs.size<=g.objs.size:=by have:=e9 Z.zz;exact x8 (r_ l1 this)
 have kk : ∀b o,F.heap.get? b=some o->g2.get? b=some o:=λb o e=>by
  refine k2 b o (λhm=>?_) (kg b o e)
  have hb:=e9 e;simp only[i6,m4,or_false] at hm;rcases hm with rfl | rfl | rfl | rfl | rfl
  .exact absurd (h_ hb l1) (p9 _)
  .exact absurd (h_ hb l2) (p9 _)
  .exact absurd (h_ hb l3) (p9 _)
  .exact absurd (h_ hb l4) (p9 _)
  .exact absurd (h_ hb l5) (p9 _)
 change qy g2 (g.objs.size+1) its.toArray B.toArray ts at hz;change g2.get? g.objs.size=_ at hL;simp only[j6] at hl
 let H2:Hp:=λc=>if c < F.heap.objs.size then H1 c else if c=g.objs.size then some (.lst (ts.map V.ref)) else
  match ts.idxOf? c with | none=>none | some j=>match xs[j]?,ys[j]? with | some x,some y=>some (.tup [x,y]) | _,_=>none
 have hold : ∀c,c < F.heap.objs.size->H2 c=H1 c:=λc hc=>if_pos hc
 have ar : ¬ g.objs.size < F.heap.objs.size:=not_lt.mpr L
 have aa:H2 g.objs.size*>(ts.map V.ref):=by show(if _ then _ else _)=_;rw[if_neg ar,if_pos rfl]
 have an:ts.length<=10000:=()
 have ab : ∀(j:Nat) (t:Addr) (x y:V),ts[j]? = some t->xs[j]? = some x->ys[j]? = some y->H2 t>>[x,y]:=λj t x y e1 e2 e3=>by
  obtain⟨_,_,_,_,_,ag⟩:=hz.2 j t e1;have hj:j < ts.length:=(i4.mp e1).1
  have Y:ts.idxOf? t=some j:=by
   have e4:=(i4.mp e1).2;rw[<- e4];exact CD hz.1 hj
  show(if _ then _ else _)=_
  rw[if_neg (not_lt.mpr (gt L (gt (le_succ _) ag))),if_neg (pc ag)];rw[Y];simp only[e2,e3]
 have ai : ∀c u,F.heap.objs.size<=c->H2 c=some u->bA X.prog X.w H2 g2 c u:=λc u hc e=>by
  by_cases aj:c=g.objs.size
  .subst aj
   rw[aa] at e;cases e;exact⟨by rw[c_];exact gt an ∅,ts.map g9,_,rY ts,by rw[hL,<- am]⟩
  .change (if _ then _ else _)=_ at e
   rw[if_neg (not_lt.mpr hc),if_neg aj] at e;cases Y:ts.idxOf? c with
   | none=>rw[Y] at e;cases e
   | some j =>
    rw[Y] at e;obtain⟨hj,ej⟩:=DP Y;have e1:ts[j]? = some c:=by rw[k6 hj,ej]
    obtain⟨vx,vy,h1,h2,h3,_⟩:=hz.2 j c e1;simp only[Jg] at h1 h2;obtain⟨x,hx⟩ : ∃x,xs[j]? = some x:=⟨xs[j]'(by rw[n1];exact(i4.mp h1).1),by simp⟩
    obtain⟨y,hy⟩ : ∃y,ys[j]? = some y:=⟨ys[j]'(by rw[n2];exact(i4.mp h2).1),by simp⟩
    simp only[hx,hy] at e;cases e;obtain⟨v1,ad,rx⟩:=rv.get hx;obtain⟨v2,ah,ry⟩:=af.get hy;rw[h1] at ad;rw[h2] at ah;cases ad;cases ah;exact⟨by show 2<=ge;decide,[vx,vy],.cons rx (.cons ry .nil),⟨_,h3,rfl,_,rfl⟩⟩
 refine⟨.ref g.objs.size,H2,I1.grown (t':=F.toks) kk hold ai,rfl,q g.objs.size ts H2 (λb o e=>by rw[hold b (I1.hok b o e).lt];exact e) (I1.hok.fresh L) aa ⟨(),ab⟩⟩
end
end L2
namespace PyProof.Rows
open PySem PySem.Spec
theorem Bc {t:Addr} {xs:Array (Int × Tok)} (Y:A.handled=none) (hl:s.heap.IsTuple t (J0 xs)) (F:0 < xs.size)
  (k : ∀v g tk,(J0 xs)[argBest (λi j=>decide (numAt xs i < numAt xs j)) (xs.size - 1)]? = some v->(∀b o,s.heap.get? b=some o->g.get? b=some o)->Q v { s with heap:=g,toks:=tk }):wpAny (model prog w) A (call (.builtin "min") [.ref t]) Q E s:=by
 obtain⟨ot,h1,_⟩:=id hl;refine call_min_walk (v9 hl ?_)
 refine⟨s.heap.objs.size,_,_,_,_,_,_,rfl,Walks.tuple (A:=A.in1) Y _ t (j_ (e9 h1)) (J0 xs),⟨⟨_,gr _ rfl,rfl,rfl⟩,hl.at λo e=>d_ _ e⟩,λb B=>?_,by simpa [J0] using F,CmpOf.ints_lt (numAt xs) (λ_ _=>intItems_at),λv g tk L Z=>k v g tk (by simpa [J0] using L) λb o e=>?_⟩
 .have sz:(s.heap.push { cls:=.type "tuple_iterator",data:=.fields #[.ref t,.int 0 0] }).objs.size=s.heap.objs.size+1:=m_ ..
  show b < (s.heap.push { cls:=.type "tuple_iterator",data:=.fields #[.ref t,.int 0 0] }).objs.size
  rw[sz];rcases i6.mp B with rfl | B
  .exact Jd _
  .rw[e_.mp B];exact G_ (e9 h1)
 .exact Z b o (λhm=>absurd (e_.mp hm ▸ e9 e) (p9 _)) (d_ _ e)
theorem Cj {t:Addr} {xs:Array (Int × Tok)} (Y:A.handled=none) (hl:s.heap.IsTuple t (J0 xs)) (F:0 < xs.size)
  (k : ∀v g tk,(J0 xs)[argBest (λi j=>decide (numAt xs i > numAt xs j)) (xs.size - 1)]? = some v->(∀b o,s.heap.get? b=some o->g.get? b=some o)->Q v { s with heap:=g,toks:=tk }):wpAny (model prog w) A (call (.builtin "max") [.ref t]) Q E s:=by
 obtain⟨ot,h1,_⟩:=id hl;refine call_max_walk (v9 hl ?_)
 refine⟨s.heap.objs.size,_,_,_,_,_,_,rfl,Walks.tuple (A:=A.in1) Y _ t (j_ (e9 h1)) (J0 xs),⟨⟨_,gr _ rfl,rfl,rfl⟩,hl.at λo e=>d_ _ e⟩,λb B=>?_,by simpa [J0] using F,CmpOf.ints_gt (numAt xs) (λ_ _=>intItems_at),λv g tk L Z=>k v g tk (by simpa [J0] using L) λb o e=>?_⟩
 .have sz:(s.heap.push { cls:=.type "tuple_iterator",data:=.fields #[.ref t,.int 0 0] }).objs.size=s.heap.objs.size+1:=m_ ..
  show b < (s.heap.push { cls:=.type "tuple_iterator",data:=.fields #[.ref t,.int 0 0] }).objs.size
  rw[sz];rcases i6.mp B with rfl | B
  .exact Jd _
  .rw[e_.mp B];exact G_ (e9 h1)
 .exact Z b o (λhm=>absurd (e_.mp hm ▸ e9 e) (p9 _)) (d_ _ e)
end PyProof.Rows
namespace L2
open PySem PySem.Spec PyProof.Rows
def A9:List V->Hp->VK->Prop:=λxs H Q=>∃p,xs=[.ref p]/\∃ns:List Int,H p>>(ns.map V.int)/\ns≠[]/\∀m,m∈ns->(∀x∈ns,m<=x)->Q (.int m) H
def A5:List V->Hp->VK->Prop:=λxs H Q=>∃p,xs=[.ref p]/\∃ns:List Int,H p>>(ns.map V.int)/\ns≠[]/\∀m,m∈ns->(∀x∈ns,x<=m)->Q (.int m) H
def CF:List V->Hp->VK->Prop:=λxs H Q=>∃p,xs=[.ref p]/\∃ns:List Int,H p*>(ns.map V.int)/\ns≠[]/\∀m,m∈ns->(∀x∈ns,m<=x)->Q (.int m) H
def BM:List V->Hp->VK->Prop:=λxs H Q=>∃p,xs=[.ref p]/\∃ns:List Int,H p*>(ns.map V.int)/\ns≠[]/\∀m,m∈ns->(∀x∈ns,x<=m)->Q (.int m) H
theorem zj {xs:Array (Int × Tok)} (B:ns=xs.toList.map (·.1)) (L:0 < xs.size):numAt xs (argBest (λi j=>decide (numAt xs i < numAt xs j)) (xs.size - 1))∈ns/\∀a∈ns,numAt xs (argBest (λi j=>decide (numAt xs i < numAt xs j)) (xs.size - 1))<=a:=by
 obtain⟨h1,h2⟩:=argBest_lt (numAt xs) (xs.size - 1);refine⟨?_,λa ha=>?_⟩
 .rw[B,numAt_eq];exact PySem.getD_mem (by rw[c_,y8];omega)
 .rw[B] at ha
  obtain⟨j,F,rfl⟩:=mem_getD ha;rw[c_,y8] at F;rw[<- numAt_eq];exact h2 j ()
theorem yS {xs:Array (Int × Tok)} (B:ns=xs.toList.map (·.1)) (L:0 < xs.size):numAt xs (argBest (λi j=>decide (numAt xs i > numAt xs j)) (xs.size - 1))∈ns/\∀a∈ns,a<=numAt xs (argBest (λi j=>decide (numAt xs i > numAt xs j)) (xs.size - 1)):=by
 obtain⟨h1,h2⟩:=argBest_gt (numAt xs) (xs.size - 1);refine⟨?_,λa ha=>?_⟩
 .rw[B,numAt_eq];exact PySem.getD_mem (by rw[c_,y8];omega)
 .rw[B] at ha
  obtain⟨j,F,rfl⟩:=mem_getD ha;rw[c_,y8] at F;rw[<- numAt_eq];exact h2 j ()
theorem je (hi:IntsAre its ns) (F:ns≠[]) : ∃xs:Array (Int × Tok),its.toArray=J0 xs/\ns=xs.toList.map (·.1)/\0 < xs.size:=by
 obtain⟨xs,e⟩:=hi.allInts.items;have B:ns=xs.toList.map (·.1):=by rw[<- hi.numsOf,<- nums_intItems,<- e]
 refine⟨xs,e,B,?_⟩
 have L:=J5.mpr F;rw[B,c_,y8] at L;exact L
theorem sh (hc:X.calm=true):bX X (.builtin "min") A9:=by
 intro pins s σ H xs us Q I r h;obtain⟨p,rfl,ns,hp,L,q⟩:=h;obtain⟨u,rfl,ru⟩:=dv r;cases ru;obtain⟨its,rv,pl,hz⟩:=I.tuple (SqT.of hp);obtain⟨xs,e,F,Y⟩:=je (gn rv) L;have B:s.heap.IsTuple p its.toArray:=pl
 rw[e] at B;refine Bc (I.ok.hd hc) B Y λv g tk Z hk=>?_
 obtain⟨t,rfl⟩:=intItems_at Z;obtain⟨b1,b2⟩:=zj F Y;exact⟨V.int _,H,I.kept (t':=tk) hk,⟨t,rfl⟩,q _ b1 b2⟩
theorem Ak (hc:X.calm=true):bX X (.builtin "max") A5:=by
 intro pins s σ H xs us Q I r h;obtain⟨p,rfl,ns,hp,L,q⟩:=h;obtain⟨u,rfl,ru⟩:=dv r;cases ru;obtain⟨its,rv,pl,hz⟩:=I.tuple (SqT.of hp);obtain⟨xs,e,F,Y⟩:=je (gn rv) L;have B:s.heap.IsTuple p its.toArray:=pl
 rw[e] at B;refine Cj (I.ok.hd hc) B Y λv g tk Z hk=>?_
 obtain⟨t,rfl⟩:=intItems_at Z;obtain⟨b1,b2⟩:=yS F Y;exact⟨V.int _,H,I.kept (t':=tk) hk,⟨t,rfl⟩,q _ b1 b2⟩
theorem nG (hc:X.calm=true):bX X (.builtin "min") CF:=by
 intro pins s σ H xs us Q I r h;obtain⟨p,rfl,ns,hp,L,q⟩:=h;obtain⟨u,rfl,ru⟩:=dv r;cases ru;obtain⟨its,rv,pl,hz⟩:=I.list (SqL.of hp);obtain⟨xs,e,F,Y⟩:=je (gn rv) L;have B:=pl.isList;rw[e] at B;refine min_intList (I.ok.hd hc) B Y λv g tk Z hk=>?_
 obtain⟨t,rfl⟩:=intItems_at Z;obtain⟨b1,b2⟩:=zj F Y;exact⟨V.int _,H,I.kept (t':=tk) hk,⟨t,rfl⟩,q _ b1 b2⟩
theorem sj (hc:X.calm=true):bX X (.builtin "max") BM:=by
 intro pins s σ H xs us Q I r h;obtain⟨p,rfl,ns,hp,L,q⟩:=h;obtain⟨u,rfl,ru⟩:=dv r;cases ru;obtain⟨its,rv,pl,hz⟩:=I.list (SqL.of hp);obtain⟨xs,e,F,Y⟩:=je (gn rv) L;have B:=pl.isList;rw[e] at B;refine max_intList (I.ok.hd hc) B Y λv g tk Z hk=>?_
 obtain⟨t,rfl⟩:=intItems_at Z;obtain⟨b1,b2⟩:=yS F Y;exact⟨V.int _,H,I.kept (t':=tk) hk,⟨t,rfl⟩,q _ b1 b2⟩
def GM (H:Hp) (p:Addr) (ys:List V):Prop:=H p*>ys\/H p>>ys
def xf:List V->Hp->VK->Prop:=λxs H Q=>∃p,xs=[.ref p]/\∃ys,GM H p ys/\∀l,H l=none->Q (.ref l) (upd H l (.lst ys))
theorem xb:bX X (.type "list") xf:=lO.imp λ_ _ _ B=>by obtain⟨p,e,ys,h,q⟩:=B;exact(⟨p,ys,e,h.imp .of .of,q⟩)
def inD (d:Kp) (ds:List Kp):Bool:=ds.any λe=>y4 e d
def EC (K:fx) (B:Bool):R2:=λx y H Q=>∃dx ds,Rep K H x dx/\Rep K H y (.tuple ds)/\dx.canLay0=true/\q_ ds=true/\dx.depth<=100/\Q (.bl (if B then !inD dx ds else inD dx ds)) H
def yL (K:fx) (B:Bool):R2:=λx y H Q=>∃dx ds,Rep K H x dx/\Rep K H y (.list ds)/\dx.canLay0=true/\q_ ds=true/\dx.depth<=100/\Q (.bl (if B then !inD dx ds else inD dx ds)) H
theorem Eo (hu:X.A.units+102 < cLine):OpR X (n6 .In) (EC X.K false):=by
 intro pins s σ H x y v u Q I Z Y h;obtain⟨dx,ds,h1,h2,B,L,h5,q⟩:=h;obtain⟨as,F⟩:=I.reads h1 Z;obtain⟨bs,r2⟩:=I.reads h2 Y;exact PySem.SeqAt.in_tuple_reads r2 F L B () ⟨.bl _,H,I,rfl,q⟩
theorem qH (hu:X.A.units+102 < cLine):OpR X (n6 .NotIn) (yL X.K true):=by
 intro pins s σ H x y v u Q I Z Y h;obtain⟨dx,ds,h1,h2,B,L,h5,q⟩:=h;obtain⟨as,F⟩:=I.reads h1 Z;obtain⟨bs,r2⟩:=I.reads h2 Y;exact PySem.SeqAt.notIn_list_reads r2 F L B () ⟨.bl _,H,I,rfl,q⟩
theorem AB (B:di k A):A.units+102 < cLine:=by have:=B.un;omega
theorem lay_ints : ∀ns:List Int,q_ (ns.map y_)=true
 | []=>rfl
 | n :: ns=>by
  rw[i9];unfold q_;rw[lay_ints ns];rfl
theorem depth_ints : ∀ns:List Int,Jh (ns.map y_)=0
 | []=>rfl
 | n :: ns=>by
  rw[i9];unfold Jh;rw[depth_ints ns];rfl
def iO (r:List Int):Kp:=.tuple (r.map y_)
theorem iB (r:List Int):(iO r).canLay0=true:=by unfold iO JB;exact lay_ints r
theorem ku (r:List Int):(iO r).depth<=1:=by unfold iO Kd;rw[depth_ints];decide
theorem oR : ∀(a b:List Int),Jn (a.map y_) (b.map y_)=decide (a=b)
 | [],[]=>rfl
 | [],_ :: _=>by simp[Jn]
 | _ :: _,[]=>by simp[Jn]
 | x :: a,y :: b=>by
  rw[i9,i9];unfold Jn;rw[oR a b];have:y4 (.int x) (.int y)=decide (x=y):=by
   simp only[y4];rw[ow];simp
  rw[this]
  by_cases h:x=y <;> by_cases h2:a=b <;> simp[h,h2]
theorem yZ (a b:List Int):y4 (iO a) (iO b)=decide (a=b):=by
 unfold iO;unfold y4;exact oR a b
theorem qT : ∀B:List (List Int),q_ (B.map iO)=true
 | []=>rfl
 | r :: B=>by
  rw[i9];unfold q_;rw[qT B,iB];rfl
theorem wE (r:List Int) (B:List (List Int)):inD (iO r) (B.map iO)=decide (r∈B):=by
 unfold inD
 induction B with
 | nil=>rfl
 | cons q B F =>
  rw[i9,Kh,F,yZ]
  by_cases h:q=r
  .simp[h]
  .simp[h]
   exact λe=>absurd e.symm h
def ipM:TIp:=λx y H Q=>∃i,x = .int i/\∃j,y = .int j/\Ag i j/\Q (.int (i * j)) H
theorem GA:PIp X .Mult ipM:=by
 intro pins s σ H x y v u Q I B L h;obtain⟨i,rfl,j,rfl,F,q⟩:=h;obtain⟨t,rfl⟩:=B;obtain⟨t',rfl⟩:=L;exact imul_int ⟨.int _,H,I.tok _,⟨_,rfl⟩,q⟩ F.ok
def eO (H:Hp) (vs:List V) (rows:List (List Int)):Prop:=∃as:List (Addr × List Int),vs=as.map (λx=>V.ref x.1)/\rows=as.map (·.2)/\∀x∈as,H x.1>>(x.2.map V.int)
theorem eO.nil:eO H [] []:=⟨[],rfl,rfl,λx B=>by simp at B⟩
theorem eO.keep (h:eO H vs rows) (k : ∀a xs,H a>>xs->H' a>>xs):eO H' vs rows:=by
 obtain⟨as,h1,h2,F⟩:=h;exact⟨as,h1,h2,λx B=>k _ _ (F x B)⟩
theorem eO.snoc {t:Addr} {r:List Int} (h:eO H vs rows) (B:H t>>(r.map V.int)):eO H (vs++[.ref t]) (rows++[r]):=by
 obtain⟨as,h1,h2,L⟩:=h;refine⟨as++[(t,r)],by simp[h1],by simp[h2],λx F=>?_⟩
 rcases ja.mp F with z | z
 .exact L x z
 .rw[e_.mp z];exact B
theorem eO.length {H:Hp} {vs:List V} {rows:List (List Int)} (h:eO H vs rows):vs.length=rows.length:=by
 obtain⟨as,h1,h2,B⟩:=h;rw[h1,h2,c_,c_]
theorem eO.reps (h:eO H vs rows):fR K H vs (rows.map iO):=by
 obtain⟨as,rfl,rfl,B⟩:=h
 induction as with
 | nil=>exact .nil
 | cons x as L=>exact .cons (.tup (.of (B x (by simp))) (fR.ints _)) (L λy F=>B y (by simp[F]))
theorem Da {t w:Addr} {r:List Int} {Q:VK} (F:H t>>(r.map V.int)) (L:H w>>vs) (B:eO H vs rows) (q:Q (.bl (decide (r∈rows))) H):EC K false (.ref t) (.ref w) H Q :=
 ⟨iO r,rows.map iO,.tup (.of F) (fR.ints r),.tup (.of L) B.reps,iB r,qT rows,gt (ku r) ∅,by rw[wE];exact q⟩
theorem wW {t w:Addr} {r:List Int} {Q:VK} (F:H t>>(r.map V.int)) (L:H w*>vs) (B:eO H vs rows) (q:Q (.bl (!decide (r∈rows))) H):yL K true (.ref t) (.ref w) H Q :=
 ⟨iO r,rows.map iO,.tup (.of F) (fR.ints r),.lst (.of L) B.reps,iB r,qT rows,gt (ku r) ∅,by rw[wE];exact q⟩
end L2
namespace PySem
open Sem (wp)
open AutoSeq1 (wpAny_loadPart')
theorem Draws.tup (Y:A.handled=none) (J T:Addr) (F:T≠J) (vs:Array Value) :
  Draws prog w A J [J,T] vs.size (λi v=>vs[i]? = some v) (λi h=>h.IsTupleIter J T i/\h.IsTuple T vs) where
 live:=λ_ _ st=>let ⟨o,ho,_⟩:=st.1;⟨o,ho⟩
 frame:=λ_ _ _ st L=>⟨st.1.at λo e=>L J (by simp) o e,st.2.at λo e=>L T (by simp) o e⟩
 item:=λi s Q E hi st B=>iK st.1 st.2 (Jx hi) λg a b=>B _ g s.toks (Jx hi) ⟨a,st.2.at λo e=>(b.2 T F).trans e⟩ b
 done:=λs Q E st B=>eK Y st.1 st.2 (JX (hH _)) B
theorem xl (T:Addr) (vs:Array Value) (n:Nat) (Y:Option Addr) (sl:Array (Option Value)) :
  Meets (Builtin.«enumerate.__new__» ⟨[.type "enumerate",.ref T],[]⟩) (λ_ R s=>s.heap.get? T=some { cls:=.type "tuple",dict:=Y,data:=.seq vs n,slots:=sl } /\
   R (.ok (.ret (.ref (s.heap.push { cls:=.type "tuple_iterator",data:=.fields #[.ref T,.int 0 0] }).objs.size)))
    { s with heap:=(s.heap.push { cls:=.type "tuple_iterator",data:=.fields #[.ref T,.int 0 0] }).push { cls:=.type "enumerate",data:=.fields #[.none,.bool false,.ref s.heap.objs.size,w4 0,.none,.none] } }) :=
 .of_wp λprog w A R s h=>by
  obtain⟨hp,g,d,tk,Z⟩:=s;obtain⟨B,h⟩:=h;have L:=sub_enumerate;have F:KB (Shared.heap ⟨hp,g,d,tk,Z⟩) T vs:=⟨_,B,rfl,n,rfl⟩
  wp_walk using wpAny_loadPart' B
  refine wpAny_stack_any λst=>e7 ?_
  split
  .rename_i c _ _ _ _ _
   cases (c == I_ "enumerate")
   .wp_walk using wpAny_loadPart' B,v9 F
    exact⟨_,rfl,h⟩
   .wp_walk using wpAny_loadPart' B,v9 F
    exact⟨_,rfl,h⟩
  .wp_walk using wpAny_loadPart' B,v9 F
   exact⟨_,rfl,h⟩
theorem xH {vs:Array Value} (Z:s.heap.IsTuple T vs)
  (k : ∀g e J,IsEnum g e J 0 .none->g.IsTupleIter J T 0->e≠J->s.heap.objs.size<=e->s.heap.objs.size<=J->(∀b o,s.heap.get? b=some o->g.get? b=some o)->Q (.ref e) { s with heap:=g }) :
  wpAny (model prog w) A (call (.type "enumerate") [.ref T]) Q E s:=by
 obtain⟨⟨cls,dd,data,sl⟩,h1,h2,n,B⟩:=Z;simp only at h2 B;subst h2 B;refine callType_new F.called_enumerate ∅ (F.typeCall_enumerate_1 _) (F.newCall_enumerate_1 _) (λobj=>F.args_object_init_2 obj _) F.entry_enumerate_new (xl T vs n dd sl) ⟨h1,?_⟩
 have L:(s.heap.push { cls:=.type "tuple_iterator",data:=.fields #[.ref T,.int 0 0] }).objs.size=s.heap.objs.size+1:=m_ ..
 have Y:((s.heap.push { cls:=.type "tuple_iterator",data:=.fields #[.ref T,.int 0 0] }).push { cls:=.type "enumerate",data:=.fields #[.none,.bool false,.ref s.heap.objs.size,w4 0,.none,.none] }).get? (s.heap.push { cls:=.type "tuple_iterator",data:=.fields #[.ref T,.int 0 0] }).objs.size=some _:=gr _ rfl
 have g2:((s.heap.push { cls:=.type "tuple_iterator",data:=.fields #[.ref T,.int 0 0] }).push { cls:=.type "enumerate",data:=.fields #[.none,.bool false,.ref s.heap.objs.size,w4 0,.none,.none] }).get? s.heap.objs.size=some _:=d_ _ (gr _ rfl)
 refine⟨⟨_,Y,rfl⟩,k _ _ s.heap.objs.size Y ⟨_,g2,rfl,rfl⟩ ?_ ?_ (hH _) λb o e=>d_ _ (d_ _ e)⟩
 .rw[L];exact Nat.succ_ne_self _
 .rw[L];exact le_succ _
theorem zI:G3 (.type "tuple") "__reversed__" = pure none:=by rw[x0,p6];kernel_rfl
theorem oG:G3 (.type "tuple") "__getitem__" = pure (some (.builtin "tuple.__getitem__")):=by rw[x0,p6];kernel_rfl
theorem wS:isSubtype (.type "tuple") (.type "dict")=pure false:=by rw[isSubtype_type];kernel_rfl
def nK (h:Heap) (z T:Addr) (i:Int):Prop:=h.get? z=some { cls:=.type "reversed",dict:=none,data:=.fields #[.ref T,w4 i],slots := #[] }
theorem Bt (T:Addr) (vs:Array Value):Meets (Builtin.«reversed.__new__» ⟨[.type "reversed",.ref T],[]⟩) (λ_ R s=>s.heap.IsTuple T vs/\(vs.size:Int) < 2 ^ 63 /\
   ∀tk,R (.ok (.ret (.ref s.heap.objs.size))) { s with heap:=s.heap.push { cls:=.type "reversed",data:=.fields #[.ref T,w4 ((vs.size:Int) - 1)] },toks:=tk }) :=
 .of_wp λprog w A R s h=>by
  obtain⟨F,L,k⟩:=h;have B:s.TypeIs (.ref T) "tuple" := let ⟨o,h1,h2,_⟩:=F;⟨o,h1,h2⟩
  unfold Builtin.«reversed.__new__»;refine a_ (JZ (newClass_reversed _) ?_)
  refine a_ (JZ (a:=Unit.unit) (by first | rfl | kernel_rfl) ?_)
  refine a_ (JZ (a:=Unit.unit) (by first | rfl | kernel_rfl) ?_)
  refine a_ (y3 B zI ?_)
  refine a_ (by
   change wpAny _ _ (isInstance (g9 T) (.type "dict") >>= _) _ _ _;refine a_ (JG (T := "tuple") (b:=false) B wS ?_)
   simp only[g_,if_false];refine a_ (y3 B oG ?_)
   refine e7 ?_
   simp only[Bool.not_true,g_,if_false];refine a_ (PyProof.Rows.len_tuple F L (a_ (JZ (a:=some ((vs.size:Nat):Int)) (by rfl) (a_ ?_))))
   change wpAny _ _ (newObj (.type "reversed") (.fields #[g9 T,w4 ((vs.size:Int) - 1)])) _ _ _;exact w6 (e7 ⟨_,rfl,k _⟩))
theorem xr:Slot "reversed" "__init__" "object.__init__" :=
 .of (owner := "object") (n := "__init__") (by rw[x0,p6];kernel_rfl) (by decide+kernel) (by decide+kernel) (by decide+kernel) (by first | exact .inl (by decide+kernel) | exact .inr (by decide+kernel)) (by rw[isSubtype_type];kernel_rfl)
theorem gJ:Slot "reversed" "__next__" "reversed.__next__" :=
 .of (owner := "reversed") (n := "__next__") (by rw[x0,p6];kernel_rfl) (by decide+kernel) (by decide+kernel) (by decide+kernel) (by first | exact .inl (by decide+kernel) | exact .inr (by decide+kernel)) (by rw[isSubtype_type];kernel_rfl)
theorem qA:Slot "reversed" "__iter__" "reversed.__iter__" :=
 .of (owner := "reversed") (n := "__iter__") (by rw[x0,p6];kernel_rfl) (by decide+kernel) (by decide+kernel) (by decide+kernel) (by first | exact .inl (by decide+kernel) | exact .inr (by decide+kernel)) (by rw[isSubtype_type];kernel_rfl)
theorem oM:entryFor table "reversed.__next__" = some Builtin.«reversed.__next__» := entryFor_of_tree (by kernel_rfl)
theorem wu:entryFor table "reversed.__iter__" = some Builtin.«dict_keyiterator.__iter__» :=
 entryFor_alias (id' := "dict_keyiterator.__iter__") (by kernel_rfl) (by first | rfl | decide+kernel | (unfold String.splitOn;simp+decide [String.splitOnAux])) (by decide+kernel) (by kernel_rfl)
theorem qq (a:Value):argsOk "reversed.__next__" ⟨[a],[]⟩:=by unfold argsOk;kernel_rfl
theorem xG (a:Value):argsOk "reversed.__iter__" ⟨[a],[]⟩:=by unfold argsOk;kernel_rfl
theorem xa:TypeCalled "reversed" "reversed.__new__" "object.__init__" :=
 ⟨by decide+kernel,by decide+kernel,⟨_,_,F.mro_reversed⟩,F.made_reversed,by decide+kernel,F.sub_reversed_self,xr⟩
theorem zR {vs:Array Value} (L:s.heap.IsTuple T vs) (Y:(vs.size:Int) < 2 ^ 63)
  (k : ∀g tk,nK g s.heap.objs.size T ((vs.size:Int) - 1)->(∀b o,s.heap.get? b=some o->g.get? b=some o)->Q (.ref s.heap.objs.size) { s with heap:=g,toks:=tk }) :
  wpAny (model prog w) A (call (.type "reversed") [.ref T]) Q E s:=by
 refine callType_new xa ∅ (F.typeCall_reversed_1 _) (F.newCall_reversed_1 _) (λobj=>F.args_object_init_2 obj _) F.entry_reversed_new (Bt T vs) ⟨L,Y,λtk=>?_⟩
 have B:(s.heap.push { cls:=.type "reversed",data:=.fields #[.ref T,w4 ((vs.size:Int) - 1)] }).get? s.heap.objs.size=some _:=gr _ rfl
 exact⟨⟨_,B,rfl⟩,k _ _ B λb o e=>d_ _ e⟩
theorem uS {i:Int} (F:nK s.heap z T i) (h:Q (.ref z) s):wpAny (model prog w) A (pyIter (.ref z)) Q E s:=by
 have B:s.TypeIs (.ref z) "reversed" :=⟨_,F,rfl⟩
 refine wpAny_pyIter_slot B qA (m8 qA B wu (by
  show wpAny _ _ (ret (.ref z)) _ _ s
  exact e7 ⟨_,rfl,"reversed",_,B,gJ.lookup,h⟩) (xG _))
theorem CO {vs:Array Value} {x:Value} {Q:Option Value->Shared->Prop} (F:nK s.heap z T (i:Int)) (Y:s.heap.IsTuple T vs) (Z:vs[i]? = some x) (hsz:(vs.size:Int) < 2 ^ 62)
  (k : ∀g tk,nK g z T ((i:Int) - 1)->J9 z s.heap g->Q (some x) { s with heap:=g,toks:=tk }):wpAny (model prog w) A (Jr (.ref z)) Q E s:=by
 have B:s.TypeIs (.ref z) "reversed" :=⟨_,F,rfl⟩
 have L:s.TypeIs (.ref T) "tuple" := let ⟨o,h1,h2,_⟩:=Y;⟨o,h1,h2⟩
 have hi:i < vs.size:=(Array.getElem?_eq_some_iff.mp Z).1
 unfold Jr;refine a_ (If (m6 (name:=b_ "__next__") B gJ (m8 gJ B oM (by
  unfold Builtin.«reversed.__next__»;refine a_ (JZ (a:=(g9 z,[])) rfl ?_)
  change wpAny _ _ (field (.ref z) 0 >>= _) _ _ _;refine a_ (md F rfl (x:=.ref T) rfl ?_)
  change wpAny _ _ (field (.ref z) 1 >>= _) _ _ _;refine a_ (md F rfl (x:=w4 (i:Int)) rfl ?_)
  change wpAny _ _ (if (i:Int) < 0 then _ else _) _ _ _;rw[if_neg ()]
  refine a_ (y3 L oG ?_)
  simp only[isNone_some,g_,if_false];refine a_ (wpAny_mkInt (a_ (If ?_)))
  refine PyProof.Rows.getItem_tuple (s:={ s with toks:=s.toks+1 }) Y () () (j:=i) (seqIndex_of () ()) Z ?_
  change wpAny _ _ (field (.ref z) 1 >>= _) _ _ _;refine a_ (md F rfl (x:=w4 (i:Int)) rfl ?_)
  refine a_ (t5 (s:={ s with toks:=s.toks+1 }) F (by simp) λg g1 g2=>e7 ⟨_,rfl,e7 (k g _ g1 g2)⟩)) (qq _))))
theorem C7 {i:Int} {Q:Option Value->Shared->Prop} (L:A.handled=none) (F:nK s.heap z T i) (hi:i < 0) (k : ∀g,Kt z s.heap g->Q none { s with heap:=g }):wpAny (model prog w) A (Jr (.ref z)) Q E s:=by
 have B:s.TypeIs (.ref z) "reversed" :=⟨_,F,rfl⟩
 unfold Jr;refine a_ (If (m6 (name:=b_ "__next__") B gJ (m8 gJ B oM (by
  unfold Builtin.«reversed.__next__»;refine a_ (JZ (a:=(g9 z,[])) rfl ?_)
  change wpAny _ _ (field (.ref z) 0 >>= _) _ _ _;refine a_ (md F rfl (x:=.ref T) rfl ?_)
  change wpAny _ _ (field (.ref z) 1 >>= _) _ _ _;refine a_ (md F rfl (x:=w4 i) rfl ?_)
  change wpAny _ _ (if i < 0 then _ else _) _ _ _;rw[if_pos hi];refine a_ (Jw (a_ ?_))
  change wpAny _ _ (setField (.ref z) 1 (w4 (-1)) >>= λ_=>setField (.ref z) 0 .none) _ _ _
  refine a_ (t5 F (by simp) λg1 z1 s1=>?_)
  refine t5 z1 (by simp) λg2 z2 Z=>?_
  first
  | change wpAny _ _ (newExc (.type "StopIteration") [] >>= _) _ _ _
  | (refine a_ ?_;change wpAny _ _ (newExc (.type "StopIteration") [] >>= _) _ _ _)
  refine a_ ?_
  simp only[newExc,newTuple];refine a_ (w6 ?_ (by size_fits))
  refine a_ (m:=firstArgMember _ _) (JZ (a:=n_) (by first | rfl | (simp only[firstArgMember];rfl)) ?_)
  refine w6 ?_ (by size_fits)
  (simp only[raiseNew];refine a_ (wpAny_handled ?_))
  first | rw[show A.in1.handled=none from L] | rw[L]
  refine a_ (e7 (wpAny_throw ?_))
  refine a_ (JG (T := "StopIteration") (b:=true) ⟨_,gr _ rfl,rfl⟩ isSubtype_stop ?_)
  exact e7 (k _ λb o Y e=>d_ _ (d_ _ (Z.extBut _ _ Y (s1.extBut _ _ Y e))))) (qq _))))
end PySem
namespace L2
open PySem PySem.Spec PyProof.Rows
def Ite (K:fx) (a:Addr):It :=
  ⟨λi H=>∃xs x,SqT K H a xs/\xs[i]? = some x,
   λi H v H'=>∃t x,H t=none/\v = .ref t/\H'=upd H t (.tup [.int (i:Nat),x])/\∀xs,SqT K H a xs->xs[i]? = some x,
   λi H=>∃xs,SqT K H a xs/\xs.length=i⟩
theorem xc {x1} {pos:Pos} (a e J:Addr) (aa:e≠J) :
  tV P w K (.Tuple es x1 pos) (Ite K a) [e,J] e (λi h=>(∃F,IsEnum h e J i F)/\h.IsTupleIter J a i) where
 mem:=by simp
 obj:=λi h st c B=>by
  obtain⟨⟨F,L⟩,oi,i1,i2,i3⟩:=st;simp only[i6,m4,or_false] at B;rcases B with rfl | rfl
  .exact⟨_,L,λv z=>by cases z⟩
  .exact⟨oi,i1,λv z=>by rw[i3] at z;cases z⟩
 keep:=λi h h' st k=>by
  obtain⟨⟨F,L⟩,hi⟩:=st;exact⟨⟨F,k e (by simp) _ L⟩,hi.at λo q=>k J (by simp) o q⟩
 item:=by
  intro X hP hw hK B i pins s σ H E Y hf st hg;subst hP hw hK;obtain⟨xs,x,hq,hx⟩:=hg;obtain⟨its,rv,p,hz⟩:=Y.tuple hq;obtain⟨u,hu,ru⟩:=rv.get hx;obtain⟨⟨F,L⟩,hi⟩:=st;have pl:s.heap.IsTuple a its.toArray:=p
  have Z:a≠J:=λz=>by
   obtain⟨o1,q1,q2,_⟩:=hi;obtain⟨o2,q3,q4,_⟩:=id pl;rw[<- z,q3] at q1;cases q1;rw[q4] at q2;exact absurd q2 (by simp)
  have af:e∉[J,a]:=λhm=>by
   rcases i6.mp hm with z | z
   .exact aa z
   .have z:=e_.mp z
    obtain⟨o2,q3,q4,_⟩:=id pl;rw[<- z,L] at q3;cases q3;exact absurd q4 (by simp)
  have aj:i < its.toArray.size:=by simpa using (i4.mp hu).1
  refine wpAny_pyNext_enum_itemD (Draws.tup (A:=X.A.in1) (show X.A.in1.handled=none from Y.ok.hd B) J a Z its.toArray) L ⟨hi,pl⟩ aj aa af λv g tk hv ho ai ht hs hk=>?_
  have am:v=u:=by
   simp only[Jg] at hv;rw[hu] at hv;exact(e8 hv).symm
  subst am;refine⟨_,rfl,wpAny_letOwnedTupleGo_enum (s:={ s with heap:=g,toks:=tk+1 }) ho λg2 ak s2=>?_⟩
  have ac:e < s.heap.objs.size:=e9 L
  have ad:J < s.heap.objs.size:=by obtain⟨o1,q1,_⟩:=hi;exact e9 q1
  have ab:H s.heap.objs.size=none:=Y.hok.fresh (hH _)
  have I2:Inv X pins σ (upd H s.heap.objs.size (.tup [.int (i:Nat),x])) { s with heap:=g2,toks:=tk+1 }:=Y.turnedNew (t':=tk+1) (fp:=[e,J]) (λc o B q=>by
    simp only[i6,m4,or_false,not_or] at B;exact(s2.2 c B.1).trans (hk c o B.1 B.2 q)) hf (hH _)
   ⟨by show 2<=ge;decide,[.int i tk,v],.cons ⟨tk,rfl⟩ (.cons ru .nil),⟨_,(s2.2 _ (pc ac)).trans ht,rfl,_,rfl⟩⟩
  refine⟨.ref s.heap.objs.size,_,I2,rfl,⟨_,x,ab,rfl,rfl,λzs ag=>by rw[Y.tuple_inj ag hq];exact hx⟩,⟨⟨v,by simpa using ak⟩,ai.1.at λo q=>(s2.2 J aa.symm).trans q⟩,λc B=>?_⟩
  simp only[i6,m4,or_false] at B;rcases B with rfl | rfl
  .rw[ah (j_ ac)];exact(hf _ (by simp)).1
  .rw[ah (j_ ad)];exact(hf _ (by simp)).1
 done:=by
  intro X hP hw hK B i pins s σ H E Y hf st hg;subst hP hw hK;obtain⟨xs,hq,hx⟩:=hg;obtain⟨its,rv,p,hz⟩:=Y.tuple hq;obtain⟨⟨F,L⟩,hi⟩:=st;have pl:s.heap.IsTuple a its.toArray:=p
  have Z:a≠J:=λz=>by
   obtain⟨o1,q1,q2,_⟩:=hi;obtain⟨o2,q3,q4,_⟩:=id pl;rw[<- z,q3] at q1;cases q1;rw[q4] at q2;exact absurd q2 (by simp)
  have hn:its.toArray.size=i:=by have:=rv.length;simp;omega
  subst hn;refine wpAny_pyNext_enum_endD (Draws.tup (A:=X.A.in1) (show X.A.in1.handled=none from Y.ok.hd B) J a Z its.toArray) L ⟨hi,pl⟩ λg hk=>⟨rfl,Y.turnedL (t':=s.toks) (fp:=[e,J]) (λc o B q=>hk c o (λz=>B (by simp[z])) q) hf⟩
 self:=λ_ _ _ _ _ st h=>by
  obtain⟨⟨F,L⟩,_⟩:=st;exact wpAny_pyIter_enum L h
def iE (K:fx) (ta:TA):TI:=λσ H R=>ta σ H λvs H1=>∃a,vs=[.ref a]/\∃xs,H1 a>>xs/\R (Ite K a) H1
theorem yj:y6 "enumerate" = some (.type "enumerate"):=by decide+kernel
theorem AG {ta:TA} {p:Pos} {x1} (hK:X.K=K) (hg:Gl X "enumerate") (hm:X.mg "enumerate" = none) (ha:PA X [e1] ta) (hs:j9 [e1] X.env=[(false,eval e1 X.env)]:=by rfl) :
  PI X (.Tuple es x1 pos') (.Call (.Name "enumerate" p) [e1] [] pos) (iE K ta):=by
 subst hK;intro pins s σ H R I h;refine Call_ (gs I hg hm yj (n9 (thn (ha pos pins s σ H _ I h) λus F ⟨vs,H1,I1,r1,q1⟩=>?_) (by rw[hs];rfl) rfl))
 obtain⟨a,e,xs,B,q⟩:=q1;subst e;obtain⟨u,rfl,ru⟩:=dv r1;cases ru;obtain⟨its,rv,pl,hz⟩:=I1.tuple (SqT.of B);refine xH (show F.heap.IsTuple a its.toArray from pl) λg e J he hJ L l1 Y kg=>?_
 refine wpAny_pyIter_enum (s:={ F with heap:=g }) he ⟨e,[e,J],_,_,H1,rfl,I1.kept (t':=F.toks) kg,xc a e J L,⟨⟨_,he⟩,hJ⟩,λc Z=>?_,q⟩
 simp only[i6,m4,or_false] at Z;rcases Z with rfl | rfl
 .exact I1.fpOk l1 (I1.hok.fresh l1)
 .exact I1.fpOk Y (I1.hok.fresh Y)
theorem E7 {g:TG} {tb:TS} (B:Nat->St->Hp->Prop) (h0:B 0 σ H) (hl : ∀i σ H,B i σ H->SqT K H a xs)
  (hs : ∀(i:Nat) (x:V) (σ:St) (H:Hp) (t:Addr),xs[i]? = some x->B i σ H->H t=none->g (.ref t) σ (upd H t (.tup [.int (i:Nat),x])) λF H2=>tb { D with nx:=B (i+1),ct:=B (i+1),bk:=D.nx } F H2)
  (Y : ∀ σ H,B xs.length σ H->D.nx σ H):EQ (Ite K a) g tb D σ H:=by
 refine⟨λi m σ H=>B i σ H/\i<=xs.length/\m=xs.length - i,⟨_,h0,x5 _,rfl⟩,?_⟩
 rintro i m σ H ⟨hp,hi,rfl⟩
 have sa:=hl i σ H hp
 by_cases L:i=xs.length
 .left
  subst L;exact⟨⟨xs,sa,rfl⟩,Y σ H hp⟩
 .right
  have h1:i < xs.length:=()
  refine⟨⟨xs,xs[i],sa,by simp[h1]⟩,λσ' H'=>B (i+1) σ' H',λσ' H' h=>⟨_,(),h,(),rfl⟩,?_⟩
  rintro v H' ⟨t,x,Z,rfl,rfl,e1⟩
  exact hs i x σ H t (e1 xs sa) hp Z
def Itv (K:fx) (a:Addr) (n:Nat):It :=
  ⟨λi H=>∃xs x,SqT K H a xs/\xs.length=n/\i < n/\xs[n - 1 - i]? = some x,
   λi H v H'=>H'=H/\∀xs,SqT K H a xs->xs[n - 1 - i]? = some v,
   λi H=>n<=i⟩
theorem zX (a z:Addr) (n:Nat) :
  tV P w K tg (Itv K a n) [z] z (λi h=>nK h z a ((n:Int) - 1 - i)) where
 mem:=by simp
 obj:=λi h st c Y=>by
  rw[e_.mp Y];exact⟨_,st,λv z=>by cases z⟩
 keep:=λi h h' st k=>k z (by simp) _ st
 item:=by
  intro X hP hw hK Y i pins s σ H E B L st Z;subst hP hw hK;obtain⟨xs,x,hq,hn,hi,hx⟩:=Z;obtain⟨its,rv,p,hz⟩:=B.tuple hq;obtain⟨u,hu,ru⟩:=rv.get hx;have hl:=rv.length;have aa:ge=16777216:=rfl
  have e1:(n:Int) - 1 - i=((n - 1 - i:Nat):Int):=()
  rw[e1] at st;obtain⟨f0,f1,f2,f3,f4,f5⟩:=L z (by simp)
  refine CO st (show s.heap.IsTuple a its.toArray from p) (x:=u) (by simpa using hu) (by simp only[j6];omega) λg tk g1 g2=>?_
  have I1:Inv X pins σ H { s with heap:=g,toks:=tk }:=B.turned (t':=tk) (λb o F e=>(g2.2 b F).trans e) f0 f1 f3 f4 f5
  refine⟨u,rfl,sD (s:={ s with heap:=g,toks:=tk }) g1 rfl rfl ∅ ⟨x,H,I1,ru,⟨rfl,λys hy=>by rw[B.tuple_inj hy hq];exact hx⟩,?_,λb F=>(L b F).1⟩⟩
  have e2:((n - 1 - i:Nat):Int) - 1=(n:Int) - 1 - ((i+1:Nat):Int):=()
  rw[<- e2];exact g1
 done:=by
  intro X hP hw hK Y i pins s σ H E B L st Z;subst hP hw hK;have Z:n<=i:=Z
  obtain⟨f0,f1,f2,f3,f4,f5⟩:=L z (by simp)
  exact C7 (B.ok.hd Y) st () λg hk=>⟨rfl,B.turned (t':=s.toks) (λb o F e=>hk b o F e) f0 f1 f3 f4 f5⟩
 self:=λ_ _ _ _ _ st h=>uS st h
def iV (K:fx) (ta:TA):TI:=λσ H R=>ta σ H λvs H1=>∃a,vs=[.ref a]/\∃xs,H1 a>>xs/\R (Itv K a xs.length) H1
theorem zY:y6 "reversed" = some (.type "reversed"):=by decide+kernel
theorem DS {ta:TA} {p:Pos} (hK:X.K=K) (hg:Gl X "reversed") (hm:X.mg "reversed" = none) (ha:PA X [e1] ta) (Z:j9 [e1] X.env=[(false,eval e1 X.env)]:=by rfl) :
  PI X tg (.Call (.Name "reversed" p) [e1] [] pos) (iV K ta):=by
 subst hK;intro pins s σ H R I h;refine Call_ (gs I hg hm zY (n9 (thn (ha pos pins s σ H _ I h) λus B ⟨vs,H1,I1,r1,q1⟩=>?_) (by rw[Z];rfl) rfl))
 obtain⟨a,e,xs,L,q⟩:=q1;subst e;obtain⟨u,rfl,ru⟩:=dv r1;cases ru;obtain⟨its,rv,pl,hz⟩:=I1.tuple (SqT.of L);have hl:=rv.length;have aa:=oq;refine zR (show B.heap.IsTuple a its.toArray from pl) (by simp only[j6];omega) λg tk F kg=>?_
 simp only[j6] at F;rw[<- hl] at F;have Y:H1 B.heap.objs.size=none:=I1.hok.fresh (hH _)
 refine uS (s:={ B with heap:=g,toks:=tk }) F ⟨B.heap.objs.size,[B.heap.objs.size],_,_,H1,rfl,I1.kept (t':=tk) kg,zX a B.heap.objs.size xs.length,by simpa using F,λc hc=>?_,q⟩
 rw[e_.mp hc];exact I1.fpOk (hH _) Y
theorem Dm:Wlk (Itv K a xs.length) xs.reverse (λH=>SqT K H a xs) :=
 ⟨λi H h hi=>by
  have hi:i < xs.length:=by simpa using hi
  exact⟨xs,xs[xs.length - 1 - i],h,rfl,hi,by simp⟩,λi H x H' h hi y=>⟨by
  have hi:i < xs.length:=by simpa using hi
  rw[Kb hi];exact y.2 xs h,y.1⟩,λi H h hi=>(by simpa using hi:xs.length<=i)⟩
end L2
namespace PySem
open Sem (wp)
theorem bL : ∀(names:List (Str × y7)) (n:Nat) (B:List (Str × Addr)),nl n names B=nl n names []++B
 | [],n,B=>rfl
 | (x,k) :: r,n,B=>by
  unfold nl
  split
  .rw[bL r (n+1) ((x,n) :: B),bL r (n+1) [(x,n)]]
   simp
  .exact bL r n B
theorem fD : ∀(names:List (Str × y7)) (n:Nat) (x:Str) (c:Addr),(x,c)∈nl n names []->(x,w9)∈names
 | [],n,x,c,h=>absurd h (by simp[nl])
 | (y, k) :: r,n,x,c,h=>by
  unfold nl at h
  split at h
  .rename_i hk
   rw[bL] at h;rcases ja.mp h with q | q
   .exact j7 _ (fD r (n+1) x c q)
   .have e:(x,c)=(y,n):=by simpa using q
    cases e;have:k = .cell:=by simpa using hk
    subst this;exact k7
  .exact j7 _ (fD r n x c h)
theorem lR {l:List (Str × Addr)} {c:Addr}:(x,c)∈l->(l.lookup x).isSome=true:=by
 induction l with
 | nil=>intro h;exact absurd h (by simp)
 | cons p r B =>
  intro h;rw[u7];cases F:x == p.1 with
  | true=>rfl
  | false =>
   rcases i6.mp h with q | q
   .subst q;simp at F
   .exact B q
theorem hU : ∀(names:List (Str × y7)) (n:Nat) (x:Str),(x,w9)∈names->∃c,(x,c)∈nl n names []
 | [],n,x,h=>absurd h (by simp)
 | (y, k) :: r,n,x,h=>by
  unfold nl;rcases i6.mp h with q | q
  .cases q
   simp only[beq_self_eq_true,if_true];rw[bL];exact⟨n,m7 _ (by simp)⟩
  .split
   .rw[bL]
    obtain⟨c,B⟩:=hU r (n+1) x q;exact⟨c,k4 _ B⟩
   .exact hU r n x q
theorem qX {l r:List (Str × Addr)} {c:Addr} (h:(l++r).lookup x=some c):l.lookup x=some c\/(l.lookup x=none/\r.lookup x=some c):=by
 induction l with
 | nil=>exact .inr ⟨rfl,h⟩
 | cons p t F =>
  rw[cons_append,u7] at h;rw[u7];cases B:x == p.1 with
  | true=>rw[B] at h;exact .inl h
  | false=>rw[B] at h;exact F h
theorem tX {l r:List (Str × Addr)} {c:Addr} (B:l.lookup x=none) (h:r.lookup x=some c):(l++r).lookup x=some c:=by
 induction l with
 | nil=>exact h
 | cons p t L =>
  rw[u7] at B;rw[cons_append,u7];cases F:x == p.1 with
  | true=>rw[F] at B;cases B
  | false=>rw[F] at B;exact L B
theorem tM {l r:List (Str × Addr)} {c:Addr} (h:l.lookup x=some c):(l++r).lookup x=some c:=by
 induction l with
 | nil=>cases h
 | cons p t F =>
  rw[u7] at h;rw[cons_append,u7];cases B:x == p.1 with
  | true=>rw[B] at h;exact h
  | false=>rw[B] at h;exact F h
theorem gj {globals:Addr} {code:Value} {F:Env} {B:Addr} {Q:Env->Shared->Prop}
  (Y:(pushCells (s.heap.push { cls:=.type "dict",data:=.dict #[] }) scope.names).Ns s.heap.objs.size (λ_=>none) ->
   Q (newEnv scope s.heap.objs.size globals (nl (s.heap.objs.size+1) scope.names closure) qual func code (some F) B) { s with heap:=pushCells (s.heap.push { cls:=.type "dict",data:=.dict #[] }) scope.names }) :
  wpAny M A (newFunctionEnv scope globals closure [] qual func code (some F) B) Q E s:=by
 simp only[newFunctionEnv,isSome_some,if_true];simp only[newEnv] at Y;refine a_ (wpAny_alloc ?_)
 refine a_ (wpAny_layCells _ (λname kind cells=>by cases L:kind == w9 <;> simp[L]) _ _ _ _ ?_)
 rw[show({ s with heap:=s.heap.push { cls:=.type "dict",data:=.dict #[] } }:Shared).heap.objs.size=s.heap.objs.size+1 from m_ ..]
 exact a_ (e7 (e7 (Y ((Heap.Ns.new s.heap (.type "dict")).keeps (pushCells_keeps _ _)))))
end PySem
namespace L2
open PySem PySem.Spec PyProof.Rows
def dm (X:Cx) (scope:Scope) (N:List Str) (cl:List (Str × Addr)) (C:Addr) (fp:List Addr) (s:Shared) (H:Hp) (xe:Value->Shared->Prop):Cx where
 prog:=X.prog
 w:=X.w
 K:=X.K
 mg:=X.mg
 base:=X.base
 A:=X.A
 N:=N
 s₀:=s
 H₀:=H
 env:=compEnvC scope cl C X.env
 outer:=X.stack
 stack:=X.stack
 ex:=fp
 fn:=λx=>scope.names.lookup x == some .cell
 calm:=X.calm
 pn:=[]
 xe:=xe
theorem Il:(dm X sc N cl C fp s H xe).K=X.K:=rfl
structure me (X:Cx) (scope:Scope) (N:List Str) (nt:Nat) (js:List Nat):Prop where
 kind:scope.kind = .function
 nd:N.Nodup
 len:N.length=nt+js.length
 at_ : ∀(k:Nat) (j:Nat) (x:Str),js[k]? = some j->N[nt+k]? = some x->X.N[j]? = some x/\(X.env.scope.names.lookup x=some .cell\/X.env.scope.names.lookup x=some .free)
 frl : ∀(k:Nat) (x:Str),N[nt+k]? = some x->scope.names.lookup x=some .free
 own : ∀y∈scope.names,y.2 = .cell->scope.names.lookup y.1=some .cell
 loc : ∀y∈scope.names,y.2 = .local->scope.names.lookup y.1=some .local
 free : ∀y∈scope.names,y.2 = .free->X.env.scope.names.lookup y.1=some .cell\/X.env.scope.names.lookup y.1=some .free
theorem eu : ∀{names:List (Str × y7)} {x:Str} {k:y7},names.lookup x=some k->(x,k)∈names
 | [],_,_,h=>by simp at h
 | (n,k') :: r,x,k,h=>by
  rw[u7] at h;cases B:x == n with
  | true=>rw[B] at h;cases h;rw[beq_iff_eq.mp B];exact k7
  | false=>rw[B] at h;exact j7 _ (eu h)
theorem rh : ∀{names:List (Str × y7)} {x:Str},((names.map λ(n,k)=>if (k == s_ && env.scope.kind == .function && env.kindOf n == some .cell) then(n,w9) else(n,k)).lookup x=some .cell\/(names.map λ(n,k)=>if (k == s_ && env.scope.kind == .function && env.kindOf n == some .cell) then(n,w9) else(n,k)).lookup x=some .free) ->
  (x,s_)∈names\/(x,w9)∈names:=by
 intro names x h;have key : ∀B,(names.map λ(n,k)=>if (k == s_ && env.scope.kind == .function && env.kindOf n == some .cell) then(n,w9) else(n,k)).lookup x=some B->(B = .cell\/B = .free)->(x,s_)∈names\/(x,w9)∈names:=by
  intro B e L;obtain⟨⟨n,k⟩,F,hp⟩:=g7.mp (eu e);dsimp only at hp
  by_cases q:(k == s_ && env.scope.kind == .function && env.kindOf n == some .cell)=true
  .rw[if_pos q] at hp
   cases hp;simp only[k_,beq_iff_eq] at q;rw[q.1.1] at F;exact .inl F
  .rw[if_neg q] at hp
   cases hp;rcases L with z | z
   .subst z;exact .inr F
   .subst z;exact .inl F
 rcases h with h | h
 .exact key _ h (.inl rfl)
 .exact key _ h (.inr rfl)
theorem uT {m:Str->Option Value}
  (S:me X scope N nt js) (I:Inv X pins σ H s) (hf : ∀b∈fp,pX X pins H b) (L : ∀x c,cl.lookup x=some c->X.env.cells.lookup x=some c) (ab : ∀x,(x,s_)∈scope.names->(cl.lookup x).isSome=true)
  (B : ∀x c,(x,c)∈nl (C+1) scope.names []->h'.IsCell c none/\C+1<=c) (am:(nl (C+1) scope.names []).Pairwise λx y=>x.2≠y.2) (ag : ∀c,C<=c->H1 c=none)
  (ac : ∀b∈fp,b < s.heap.objs.size) (hC:s.heap.objs.size<=C) (k : ∀b o,s.heap.get? b=some o->h'.get? b=some o) (hs : ∀b o,H b=some o->H1 b=some o) (ad : ∀b,H b=none->b < s.heap.objs.size->H1 b=none) (an:HOk X.prog X.w H1 h') (hn:h'.Ns C m)
  (hm : ∀x,m x=none) :
  Inv (dm X scope N (nl (C+1) scope.names cl) C fp s H xe) [] (cI nt js σ) H1 { s with heap:=h',toks:=tk }:=by
 have aj : ∀b∈fp,b∉frs X.stack:=λb hb z=>by
  obtain⟨f0,f1,f2,_⟩:=hf b hb;rcases i6.mp (I.stkSub b z) with q | q
  .exact f1 q
  .exact f2 q
 have af : ∀x c,cl.lookup x=some c->c < s.heap.objs.size:=λx c e=>by
  obtain⟨v,oc,F,hd⟩:=I.cell x c (L x c e);exact e9 F
 have cs : ∀x c,(nl (C+1) scope.names cl).lookup x=some c->(x,c)∈nl (C+1) scope.names []\/cl.lookup x=some c:=λx c e=>by
  rw[bL] at e;rcases qX e with q | q
  .exact .inl (mem_of_lookup q)
  .exact .inr q.2
 have aa : ∀x,(x,w9)∈scope.names->∃c,(nl (C+1) scope.names cl).lookup x=some c/\(x,c)∈nl (C+1) scope.names []:=λx hx=>by
  obtain⟨c,hc⟩:=hU scope.names (C+1) x hx;obtain⟨c',Z⟩:=Jq.mp (lR hc);refine⟨c',?_,mem_of_lookup Z⟩
  rw[bL];exact tM Z
 have Y : ∀x c,(∀c,(x,c)∉nl (C+1) scope.names [])->cl.lookup x=some c->(nl (C+1) scope.names cl).lookup x=some c:=λx c hx e=>by
  rw[bL];refine tX ?_ e
  cases q:(nl (C+1) scope.names []).lookup x with
  | none=>rfl
  | some c'=>exact absurd (mem_of_lookup q) (hx c')
 refine⟨⟨I.ok.mod,S.kind,I.ok.glob,I.ok.blt,hC,λx y c h1 h2=>?_,λx hx=>?_,λx c z e=>?_,I.ok.hd,I.ok.frames,.inl rfl,λb hb=>?_,I.bs,gt I.ok.bsz I.sz,λb o e hb=>?_,aj,I.stack,I.stkFree⟩,
  rfl,I.bare,?_,⟨m,hn,λi x v h1 h2 h3=>?_⟩,λx c e=>?_,ag C (hH _),λx c e=>?_,λp hp=>absurd (show p∈([]:List (Addr × Obj)) from hp) (by simp),an,?_⟩
 .rcases cs x c h1 with a | a <;> rcases cs y c h2 with b | b
  .exact name_of_addr am a b
  .exact absurd (h_ (af y c b) (gt hC (JM (B x c a).2))) (p9 _)
  .exact absurd (h_ (af x c a) (gt hC (JM (B y c b).2))) (p9 _)
  .exact I.ok.inj x y c (L x c a) (L y c b)
 .by_cases hxc:(x,w9)∈scope.names
  .obtain⟨c,hc,_⟩:=aa x hxc
   exact⟨c,hc⟩
  .rcases rh (env:=X.env) hx with q | q
   .obtain⟨c,hc⟩:=Jq.mp (ab x q)
    exact⟨c,Y x c (λc' z=>hxc (fD _ _ _ _ z)) hc⟩
   .exact absurd q hxc
 .have hxc:(x,w9)∈scope.names:=by
   have:scope.names.lookup x=some .cell:=by simpa [dm] using z
   exact eu this
  obtain⟨c',Z,ah⟩:=aa x hxc;have e':(nl (C+1) scope.names cl).lookup x=some c:=e
  rw[Z] at e';cases e';exact gt hC (JM (B x _ ah).2)
 .obtain⟨f0,f1,f2,f3,f4,f5⟩:=hf b hb
  refine⟨j_ (h_ (ac b hb) hC),λx c e=>?_⟩
  rcases cs x c e with a | a
  .exact pc (h_ (ac b hb) (gt hC (JM (B x c a).2)))
  .exact f4 x c (L x c a)
 .have:=hf b hb
  obtain⟨f0,f1,f2,f3,f4,f5⟩:=this;rcases f3 with f3 | f3
  .exact I.ok.noex b o e f3
  .exact absurd (h_ (e9 e) (gt I.ok.bsz f3)) (p9 _)
 .refine⟨λb o e n _ _=>k b o e,λb o e n _ _=>⟨o.slots,k b o e⟩,λb o e n _=>ad b n (e9 e),λb o e _=>⟨o,k b o e⟩,λb xs e=>hs b _ e,λb o u e=>hs b _ e,λb ps e=>⟨#[],by rw[hs b _ e];simp⟩⟩
 .by_cases hi:i < nt
  .rw[qV i hi] at h2;cases h2
  .obtain⟨k',rfl⟩ : ∃k',i=nt+k':=⟨i - nt,()⟩
   unfold cI at h2;rw[u9 (by simp)] at h2
   simp only[List.length_replicate,Nat.add_sub_cancel_left,ei] at h2;cases ej:js[k']? with
   | none=>rw[ej] at h2;cases h2
   | some j =>
    rw[ej] at h2;simp only[Jj,Option.some.injEq] at h2;obtain⟨hN,hk⟩:=S.at_ k' j x ej h1;have ao:σ[j]? = some (some v):=by
     cases q:σ[j]? with
     | none=>rw[q] at h2;cases h2
     | some z=>rw[q] at h2;simp only[Option.join] at h2;rw[<- h2];rfl
    have ak:Vis X.env.scope x:=by rcases hk with q | q;exact .inr (.inl q);exact .inr (.inr q)
    obtain⟨m0,ap,ai⟩:=I.loc;obtain⟨u,r,l⟩:=ai j x v hN ao ak;refine⟨u,r,?_⟩
    rcases l with⟨q,_⟩ | ⟨q,c,e,z⟩
    .have q':X.env.scope.names.lookup x=some .local:=q
     rw[q'] at hk;rcases hk with hk | hk <;> cases hk
    .have fr:=S.frl k' x h1
     have hv:(relabel scope X.env).names.lookup x=some .cell\/(relabel scope X.env).names.lookup x=some .free:=fZ (env:=X.env) fr
     have q:(x,s_)∈scope.names:=eu fr
     obtain⟨c',e'⟩:=Jq.mp (ab x q);have e2:=L x c' e';rw[e] at e2;cases e2;obtain⟨oc,F,hd⟩:=z;exact .inr ⟨hv,c,Y x c (λc' z=>by
      have:=S.own _ (fD _ _ _ _ z) rfl
      rw[fr] at this;cases this) e',oc,k _ _ F,hd⟩
 .rcases cs x c e with a | a
  .exact⟨none,(B x c a).1⟩
  .obtain⟨v,oc,F,hd⟩:=I.cell x c (L x c a)
   exact⟨v,oc,k _ _ F,hd⟩
 .rcases cs x c e with a | a
  .exact ag c (JM (B x c a).2)
  .have e2:=L x c a
   obtain⟨v,oc,F,hd⟩:=I.cell x c e2;exact ad c (I.freeC x c e2) (e9 F)
 .unfold cI
  show _=N.length
  rw[S.len];simp
def wv (F:List Str) (xs B:List (Str × y7)) (N:List Str) (nt:Nat) (js:List Nat):Bool :=
 decide N.Nodup && N.length == nt+js.length && (js.zip (N.drop nt)).all (λp=>F[p.1]? == some p.2 && jd xs p.2) && (N.drop nt).all (λx=>B.lookup x == some .free)
  && B.all (λy=>y.2 != .cell || B.lookup y.1 == some .cell) && B.all (λy=>y.2 != .local || B.lookup y.1 == some .local) && B.all (λy=>y.2 != .free || jd xs y.1)
theorem aH (L:List Str) (xs:List (Str × y7)) (hk:scope.kind = .function:=by exact rfl) (hN:X.N=L:=by exact rfl) (hx:X.env.scope.names=xs:=by exact rfl)
  (h:wv L xs scope.names N nt js=true:=by decide+kernel):me X scope N nt js:=by
 subst hN hx;unfold wv at h;simp only[k_] at h;obtain⟨⟨⟨⟨⟨⟨h1,h2⟩,Z⟩,h4⟩,h5⟩,Y⟩,h7⟩:=h;refine⟨hk,of_decide_eq_true h1,by simpa using h2,λk j x e1 e2=>?_,λk x e=>?_,λy F e=>?_,λy F e=>?_,λy F e=>?_⟩
 .have hm:(j,x)∈js.zip (N.drop nt):=by
   have B:(N.drop nt)[k]? = some x:=by rw[List.getElem?_drop];exact e2
   have:(js.zip (N.drop nt))[k]? = some (j,x):=by rw[List.getElem?_zip_eq_some];exact⟨e1,B⟩
   exact f_ this
  have q:=z_.mp Z _ hm;rw[k_] at q;exact⟨by simpa using q.1,jH q.2⟩
 .have hm:x∈N.drop nt:=by
   have B:(N.drop nt)[k]? = some x:=by rw[List.getElem?_drop];exact e
   exact f_ B
  simpa using z_.mp h4 _ hm
 .have q:=z_.mp h5 _ F
  rw[e] at q;simpa using q
 .have q:=z_.mp Y _ F
  rw[e] at q;simpa using q
 .have q:=z_.mp h7 _ F
  rw[e] at q;exact jH (by simpa using q)
end L2
namespace PySem.W
open PySem PySem.Calls PyProof.Rows
def KasT.All {α:Type} (n:Nat) (P:α->Prop):KasT α->Prop
 | .ret a=>P a
 | .ask i j k=>i < n/\j < n/\∀b,(k b).All n P
theorem KasT.All.bind {α β:Type} {n:Nat} {P:α->Prop} {R:β->Prop} {f:α->KasT β} : ∀{t:KasT α},t.All n P->(∀a,P a->(f a).All n R)->(t.bind f).All n R
 | .ret a,h,hf=>hf a h
 | .ask i j k,h,hf=>⟨h.1,h.2.1,λb=>KasT.All.bind (h.2.2 b) hf⟩
theorem KasT.All.wp {α:Type} {n:Nat} {P:α->Prop} {Q:α->Shared->Prop} {s:Shared} {cmp:Nat->Nat->(Bool->Shared->Prop)->Shared->Prop}
  (F : ∀i j C,i < n->j < n->(∀b,C b s)->cmp i j C s) (B : ∀a,P a->Q a s) : ∀{t:KasT α},t.All n P->t.kasWp cmp Q s
 | .ret a,h=>B a h
 | .ask i j k,h=>F i j _ h.1 h.2.1 λb=>KasT.All.wp F B (h.2.2 b)
def cP (n:Nat) (p:Array Nat):Prop:=p.toList.Perm (range n)
theorem cP.lt {p:Array Nat} (h:cP n p) (hn:0 < n) (i:Nat):p.getD i 0 < n:=by
 by_cases hi:i < p.size
 .have e:p.getD i 0=p[i]:=by simp[Array.getD,hi]
  rw[e];have:p[i]∈p.toList:=by simp
  exact Kf.mp (h.mem_iff.mp this)
 .have e:p.getD i 0=0:=by simp[Array.getD,hi]
  rw[e];exact hn
theorem cP.rev {p:Array Nat} (h:cP n p) (i j:Nat):cP n (kas_rev p i j):=(Array.perm_iff_toList_perm.mp (mirror_perm p i j _)).trans h
theorem cP.bub {p:Array Nat} (h:cP n p) (i j:Nat):cP n (bubble p i j):=(Array.perm_iff_toList_perm.mp (bubble_perm p i j)).trans h
section
variable (hn:0 < n)
include hn
theorem jW {p:Array Nat} (h:cP n p) : ∀(f m:Nat),(kas_asc p f m).All n λ_=>True
 | 0,m=>trivial
 | f+1,m=>⟨h.lt hn _,h.lt hn _,λb=>by cases b <;> simp <;> first | trivial | exact jW h f (m+1)⟩
theorem gg : ∀(f:Nat) (p:Array Nat) (m q:Nat),cP n p->(kas_desc f p m q).All n λr=>cP n r.1
 | 0,p,m,q,h=>h
 | f + 1,p,m,q,h=>by
  refine⟨h.lt hn _,h.lt hn _,λb=>?_⟩
  cases b with
  | true =>
   simp only[if_true]
   split
   .exact gg f _ _ _ (h.rev _ _)
   .exact gg f _ _ _ h
  | false =>
   simp only[g_,if_false];refine⟨h.lt hn _,h.lt hn _,λd=>?_⟩
   cases d with
   | true=>simp only[if_true];exact h
   | false=>simp only[g_,if_false];exact gg f _ _ _ h
theorem kN {p:Array Nat} {m:Nat} (h:cP n p):(kas_tail3 m k p).All n λr=>cP n r.2 :=
 (jW hn (h.rev 0 m) _ _).bind λ_ _=>h.rev 0 m
theorem iz {p:Array Nat} {m:Nat} (h:cP n p):(kas_descPart m k p).All n λr=>cP n r.2:=by
 refine(gg hn _ p _ _ h).bind λr B=>?_
 split
 .exact kN hn (cP.rev B _ _)
 .exact kN hn B
theorem rL {p:Array Nat} (h:cP n p):(kas_count k p).All n λr=>cP n r.2:=by
 refine(jW hn h _ _).bind λm _=>?_
 split
 .exact h
 .split
  .refine⟨h.lt hn _,h.lt hn _,λb=>?_⟩
   cases b with
   | true=>simp only[if_true];exact h
   | false=>simp only[g_,if_false];exact iz hn (h.rev _ _)
  .exact iz hn h
theorem ij {p:Array Nat} {k:Nat} (h:cP n p) : ∀(f l r:Nat),(kas_place p k f l r).All n λ_=>True
 | 0,l,r=>trivial
 | f + 1,l,r=>by
  unfold kas_place
  split
  .trivial
  .refine⟨h.lt hn _,h.lt hn _,λb=>?_⟩
   cases b with
   | true=>simp only[if_true];exact ij h f _ _
   | false=>simp only[g_,if_false];exact ij h f _ _
theorem oO : ∀(f:Nat) (p:Array Nat) (k:Nat),cP n p->(kas_bin f p k).All n (cP n)
 | 0,p,k,h=>h
 | f+1,p,k,h=>(ij hn h _ _ _).bind λl _=>oO f _ _ (h.bub _ _)
theorem tY:(kas_sort n).All n (cP n):=by
 refine(rL hn (p:=List.toArray (range n)) (by show(range n).toArray.toList.Perm _;simp)).bind λr B=>?_
 split
 .exact oO hn _ _ _ B
 .exact B
end
theorem vH {vs:List Value} {p:Array Nat} (h:cP vs.length p):(p.toList.map λi=>vs.getD i n_).Perm vs:=by
 have e:((range vs.length).map λi=>vs.getD i n_)=vs:=by
  apply List.ext_getElem?
  intro i
  by_cases hi:i < vs.length
  .simp[hi]
  .simp[hi]
 have:=h.map λi=>vs.getD i n_
 rwa [e] at this
theorem qj {vs:List Value} {κ:SortKind} {P:PySem.Fin->Shared->Prop} (ho:s.heap.get? a=some (za "list" vs.toArray n)) (ad:vs.length < 64)
  (hk:2<=vs.length->∀(h':Heap) (Q:SortKind->Shared->Prop),(∀b o,b≠a->s.heap.get? b=some o->h'.get? b=some o)->Q κ { s with heap:=h' }->wpAny (model prog w) A (keyKind' vs.toArray) Q (λ_ _=>False) { s with heap:=h' })
  (hc : ∀(h':Heap) (x y:Value) (Q:Bool->Shared->Prop),(∀b o,b≠a->s.heap.get? b=some o->h'.get? b=some o)->x∈vs->y∈vs->(∀b,Q b { s with heap:=h' })->wpAny (model prog w) A (keyLt' κ x y) Q (λ_ _=>False) { s with heap:=h' })
  (h : ∀(Z:Array Value),Z.toList.Perm vs->P (.done (.ret .none)) { s with heap:=sortedHeap s.heap a vs Z }) :
  wpAny (model prog w) A (Builtin.«list.sort» ⟨[.ref a],[]⟩) P E s:=by
 rw[list_sort_plain];have ha:a < s.heap.objs.size:=e9 ho
 refine a_ (listItems_at ho rfl ?_)
 refine a_ (listUpdate_at ho rfl ?_ (by rw[j6,Ja];omega) (x5 _))
 obtain⟨e1,Y⟩ : ∃e1,(s.heap.update a (p8 λ_=>(#[]:Array Value))).get? a=some (za "list" #[] e1):=⟨_,get?_update_seq ho (λ_ => #[])⟩
 refine a_ (seqEpoch_at Y rfl ?_)
 refine a_ (wpAny_newTuple ?_ (by show vs.length<=_;rw[Ja];omega))
 refine a_ (wpAny_newList ?_ (x5 _))
 refine o_ ?_
 have B:(((s.heap.update a (p8 λ_=>(#[]:Array Value))).push (za "tuple" vs.toArray 0)).push (za "list" #[] 0)).get? a=some (za "list" #[] e1):=by
  rw[Heap.get?_push_ne _ _ _ (by rw[size_push',Is];exact j_ (G_ ha)),Heap.get?_push_ne _ _ _ (by rw[Is];exact j_ ha)]
  exact Y
 have hold : ∀b o,b≠a->s.heap.get? b=some o->(((s.heap.update a (p8 λ_=>(#[]:Array Value))).push (za "tuple" vs.toArray 0)).push (za "list" #[] 0)).get? b=some o:=λb o hb e =>
  d_ _ (d_ _ (by rw[Heap.get?_update_ne _ _ _ _ hb];exact e))
 show wpAny (model prog w) A _ P E { s with heap:=((s.heap.update a (p8 λ_=>(#[]:Array Value))).push (za "tuple" vs.toArray 0)).push (za "list" #[] 0) }
 dsimp only
 by_cases h2:vs.toArray.size < 2
 .rw[if_pos h2,if_pos h2]
  refine a_ (e7 ?_)
  rw[StateT.run_pure];refine a_ (e7 ?_)
  dsimp only;refine a_ (seqEpoch_at B rfl ?_)
  refine a_ (listUpdate_at B rfl ?_ (hsz2:=by rw[Array.size_map];show(pairsOf vs).size<=_;rw[pairsOf_size,Ja];omega))
  simp only[bne_self_eq_false,g_,if_false];refine e7 (h _ ?_)
  have e:(Array.map (λ(x:Value × Value)=>x.2) (vs.toArray.zip vs.toArray)).toList=vs:=by
   rw[Array.toList_map,Array.toList_zip];exact List.map_snd_zip (hH _)
  show(Array.map (λ(x:Value × Value)=>x.2) (vs.toArray.zip vs.toArray)).toList.Perm vs
  rw[e]
 .rw[if_neg h2,if_neg h2]
  have ab:2<=vs.length:=by rw[j6] at h2;omega
  refine a_ (y2 (hk ab _ (λL s'=>L=κ/\s'={ s with heap:=((s.heap.update a (p8 λ_=>(#[]:Array Value))).push (za "tuple" vs.toArray 0)).push (za "list" #[] 0) }) hold ⟨rfl,rfl⟩) (λL s0 ac=>?_) λ_ _ x=>x.elim)
  obtain⟨rfl,rfl⟩:=ac;refine a_ (y2 (kat_run (ks:=vs) (vs:=vs) (Q:=λF s'=>∃p:Array Nat,p.size=vs.length/\arrOf F=p.map (kas_item (vs.toArray.zip vs.toArray))/\failedOf F=none/\cP vs.length p/\s'={ s with heap:=((s.heap.update a (p8 λ_=>(#[]:Array Value))).push (za "tuple" vs.toArray 0)).push (za "list" #[] 0) })
   (G:=λp s'=>cP vs.length p/\s'={ s with heap:=((s.heap.update a (p8 λ_=>(#[]:Array Value))).push (za "tuple" vs.toArray 0)).push (za "list" #[] 0) })
   rfl ab ad (λp' F s' a1 a2 a3 a4=>⟨p',a1,a2,a3,a4⟩) (KasT.All.wp (n:=vs.length) (P:=cP vs.length) (λi j C hi hj hC=>?_) (λp hp=>⟨hp,rfl⟩) (tY ()))) ?_ λ_ _ e=>e)
  .unfold kas_ask
   have e1:vs.getD i n_∈vs:=by simp[hi]
   have e2:vs.getD j n_∈vs:=by simp[hj]
   exact hc _ _ _ _ hold e1 e2 hC
  .rintro⟨⟨⟩,F⟩ s' ⟨p,hp,har,hf,hperm,rfl⟩
   dsimp only;have aa:=kat_snds (ks:=vs) (vs:=vs) rfl har;have hsz:(List.toArray (p.toList.map λi=>vs.getD i n_)).size=vs.length:=by rw[j6,c_,y8,hp]
   rw[aa];refine a_ (seqEpoch_at B rfl ?_)
   refine a_ (listUpdate_at B rfl ?_ (x5 _) (gt (Ji hsz) (by rw[Ja];omega)))
   rw[hf];simp only[bne_self_eq_false,g_,if_false];exact e7 (h _ (by simpa using vH hperm))
theorem sorted_some {vs:List Value} {κ:SortKind} (hl:s.heap.IsList l vs.toArray) (Z:vs.length < 64)
  (hk:2<=vs.length->∀(h':Heap) (Q:SortKind->Shared->Prop),(∀b o,s.heap.get? b=some o->h'.get? b=some o)->Q κ { s with heap:=h' }->wpAny (model prog w) A.in1.in1 (keyKind' vs.toArray) Q (λ_ _=>False) { s with heap:=h' })
  (hc : ∀(h':Heap) (x y:Value) (Q:Bool->Shared->Prop),(∀b o,s.heap.get? b=some o->h'.get? b=some o)->x∈vs->y∈vs->(∀b,Q b { s with heap:=h' })->wpAny (model prog w) A.in1.in1 (keyLt' κ x y) Q (λ_ _=>False) { s with heap:=h' })
  (h : ∀(B:Array Value),B.toList.Perm vs->Q (.ref (s.heap.objs.size+1)) { s with heap:=sortedAll s.heap vs B }) :
  wpAny (model prog w) A (call (.builtin "sorted") [.ref l]) Q E s:=by
 refine Calls.call_function_entry kind_sorted plain_sorted entry_sorted (args_sorted1 _) ?_
 unfold Builtin.«sorted»;refine a_ (m:=checkCount "sorted" 1 1 _) (e7 ?_)
 refine a_ (collect_list hl ?_ (by rw[Ja];omega))
 refine a_ (wpAny_newList ?_ (by rw[Ja];omega))
 have hsz:((s.heap.push (za "list" #[] 0)).update s.heap.objs.size (p8 (· ++ vs.toArray))).objs.size=s.heap.objs.size+1:=by
  rw[Is,size_push']
 have L:(((s.heap.push (za "list" #[] 0)).update s.heap.objs.size (p8 (· ++ vs.toArray))).push (za "list" vs.toArray 0)).get? (s.heap.objs.size+1)=some (za "list" vs.toArray 0):=by
  rw[<- hsz];exact gr _ rfl
 have keep : ∀b o,s.heap.get? b=some o->(((s.heap.push (za "list" #[] 0)).update s.heap.objs.size (p8 (· ++ vs.toArray))).push (za "list" vs.toArray 0)).get? b=some o:=λb o q=>by
  have F:b < s.heap.objs.size:=e9 q
  rw[Heap.get?_push_ne _ _ _ (by rw[hsz];exact j_ (G_ F)),Heap.get?_update_ne _ _ _ _ (j_ F),Heap.get?_push_ne _ _ _ (j_ F)]
  exact q
 show wpAny _ _ _ _ _ { s with heap:=((s.heap.push (za "list" #[] 0)).update s.heap.objs.size (p8 (· ++ vs.toArray))).push (za "list" vs.toArray 0) }
 rw[hsz];refine a_ (o_ (m8 slot_list_sort ⟨_,L,rfl⟩ entry_list_sort (qj (κ:=κ) L Z (λh2 h' Q hold Y=>hk h2 h' Q (λb o e=>hold b o (j_ (G_ (e9 e))) (keep b o e)) Y)
  (λh' x y Q hold hx hy Y=>hc h' x y Q (λb o e=>hold b o (j_ (G_ (e9 e))) (keep b o e)) hx hy Y) λB a1=>⟨_,rfl,?_⟩) (args_list_sort _)))
 exact e7 ⟨_,rfl,h B a1⟩
end PySem.W
namespace L2
open PySem PySem.Spec PyProof.Rows
def xO (h:Heap) (a:Addr):Prop:=∃o x y z L B F n,h.get? a=some o/\o.cls = .type "tuple" /\ o.data = .seq #[.str x L,.str y B,.int z F] n
theorem xO.keep (r:xO h a) (k : ∀b o,h.get? b=some o->h'.get? b=some o):xO h' a:=by
 obtain⟨o,x,y,z,L,B,F,n,e,c,d⟩:=r;exact⟨o,x,y,z,L,B,F,n,k _ _ e,c,d⟩
theorem DA {Q:Bool->Shared->Prop} (ra:xO s.heap a) (F:xO s.heap b) (h : ∀c,Q c s) :
  wpAny (model prog w) A (keyLt' (tuples' true) (.ref a) (.ref b)) Q E s:=by
 obtain⟨o,x,y,z,t1,t2,t3,n,e,c,d⟩:=ra;obtain⟨o',x',y',z',B,L,Y,n',Z,c',d'⟩:=F;refine PySem.W.kat_lt e d Z d' ?_
 refine kat_cons (wpAny_eqBool_str (kat_go (λ_=>kat_yes ?_) (λ_=>kat_no ?_)))
 .refine kat_cons (wpAny_eqBool_str (kat_go (λ_=>kat_yes ?_) (λ_=>kat_no ?_)))
  .refine kat_cons (wpAny_eqBool_int (kat_go (λ_=>kat_yes (PySem.W.kat_nil (h _))) (λ_=>kat_no ?_)))
   exact kat_one _ _ (lt_int (h _))
  .exact kat_one _ _ (PyProof.Rows.lt_str (h _))
 .exact oneLt_str (h _)
theorem sV {h:Heap} : ∀{as:List Addr},(∀a∈as,xO h a)->∃fs:List Value,fs.length=as.length/\PySem.W.KatTups h (as.map g9) fs/\∀f∈fs,∃x t,f = .str x t
 | [],_=>⟨[],rfl,PySem.W.KatTups.nil,λf B=>by simp at B⟩
 | a :: as,hr=>by
  obtain⟨fs,hl,Y,B⟩:=sV (as:=as) λb Z=>hr b (j7 _ Z)
  obtain⟨o,x,y,z,L,t2,t3,n,e,c,d⟩:=hr a k7;refine⟨.str x L :: fs,by simp[hl],PySem.W.KatTups.cons e c d rfl Y,λf F=>?_⟩
  rcases i6.mp F with q | q
  .exact⟨x,L,q⟩
  .exact B f q
def adr:Value->Addr | .ref a=>a | _=>0
theorem zU {as:List Addr} (h:us.Perm (as.map g9)) : ∃bs:List Addr,us=bs.map g9/\bs.Perm as:=by
 refine⟨us.map adr,?_,?_⟩
 .rw[l_]
  have : ∀u∈us,(g9 ∘ adr) u=u:=λu hu=>by
   obtain⟨a,_,e⟩:=g7.mp (h.mem_iff.mp hu);rw[<- e];rfl
  rw[m9 this];simp
 .have:=h.map adr
  rw[l_] at this;have e:(adr ∘ g9)=id:=by funext a;rfl
  rwa [e,map_id] at this
theorem vg : ∀(as:List Addr),bj (as.map V.ref) (as.map g9)
 | []=>.nil
 | a :: as=>.cons rfl (vg as)
theorem oX : ∀{as:List Addr} {us:List Value},bj (as.map V.ref) us->us=as.map g9
 | [],us,r=>by cases r;rfl
 | a :: as,us,r=>by
  cases r with
  | cons B F =>
   have e1:_=g9 a:=B
   rw[e1,oX F];rfl
def wJ:List V->Hp->VK->Prop:=λxs H Q=>∃p,xs=[.ref p]/\∃as:List Addr,H p*>(as.map V.ref)/\as.length < 64/\(∀a∈as,∃x y z,H a>>[.str x,.str y,.int z])/\∀(q:Addr) (bs:List Addr),H q=none->bs.Perm as->Q (.ref q) (upd H q (.lst (bs.map V.ref)))
theorem uk:bX X (.builtin "sorted") wJ:=by
 intro pins s σ H xs us Q I r h;obtain⟨p,rfl,as,hp,hl,hr,q⟩:=h;obtain⟨u,rfl,ru⟩:=dv r;cases ru;obtain⟨its,rv,pl,hz⟩:=I.list (SqL.of hp);have L:=oX rv;subst L;have rows : ∀a∈as,xO s.heap a:=λa ha=>by
  obtain⟨x,y,z,e⟩:=hr a ha;obtain⟨ws,ab,⟨o,eo,ec,n,ed⟩,_⟩:=I.tuple (SqT.of e);cases ab with
  | cons r1 r2=>cases r2 with
   | cons r2 r3=>cases r3 with
    | cons r3 r4 =>
     cases r4;obtain⟨t1,rfl⟩:=r1;obtain⟨t2,rfl⟩:=r2;obtain⟨t3,rfl⟩:=r3;exact⟨o,x,y,z,t1,t2,t3,n,eo,ec,ed⟩
 refine PySem.W.sorted_some (κ:=tuples' true) pl.isList (by simpa using hl) (λh2 h' Q' Z hq=>?_) (λh' x y Q' Z hx hy hq=>?_) λF B=>?_
 .obtain⟨fs,hfl,ht,hf⟩:=sV (h:=h') λa ha=>(rows a ha).keep Z
  refine PySem.W.kat_kind (T:=.type "str") ht (by rw[hfl];rw[c_] at h2;omega) (λv hv=>?_) ∅ hq
  obtain⟨x,t,rfl⟩:=hf v hv;exact PySem.W.Looks.of_pure rfl
 .obtain⟨a,ha,rfl⟩:=g7.mp hx
  obtain⟨b,hb,rfl⟩:=g7.mp hy;exact DA ((rows a ha).keep Z) ((rows b hb).keep Z) hq
 .obtain⟨e,he⟩:=sortedAll_at s.heap (as.map g9) F
  obtain⟨bs,aa,Y⟩:=zU B;refine⟨.ref (s.heap.objs.size+1),_,I.laid (a:=s.heap.objs.size+1) (o:=.lst (bs.map V.ref)) (t':=s.toks) (λb o e=>sortedAll_old e) (le_succ _) ⟨?_,F.toList,e,by rw[aa];exact vg bs,?_⟩,rfl,q _ bs (I.hok.fresh (le_succ _)) Y⟩
  .rw[c_,Y.length_eq];exact x8 (aE ())
  .rw[he]
abbrev L3:=Str × Str × Int
def l3V (x:L3):List V:=[.str x.1,.str x.2.1,.int x.2.2]
def dN (H:Hp) (vs:List V) (ls:List L3):Prop:=∃as:List (Addr × L3),vs=as.map (λx=>V.ref x.1)/\ls=as.map (·.2)/\∀x∈as,H x.1>>(l3V x.2)
theorem dN.nil:dN H [] []:=⟨[],rfl,rfl,λx B=>by simp at B⟩
theorem dN.keep {ls:List L3} (h:dN H vs ls) (k : ∀a xs,H a>>xs->H' a>>xs):dN H' vs ls:=by
 obtain⟨as,h1,h2,F⟩:=h;exact⟨as,h1,h2,λx B=>k _ _ (F x B)⟩
theorem dN.snoc {ls:List L3} {t:Addr} {l:L3} (h:dN H vs ls) (B:H t>>(l3V l)):dN H (vs++[.ref t]) (ls++[l]):=by
 obtain⟨as,h1,h2,L⟩:=h;refine⟨as++[(t,l)],by simp[h1],by simp[h2],λx F=>?_⟩
 rcases ja.mp F with z | z
 .exact L x z
 .rw[e_.mp z];exact B
theorem dN.length {H:Hp} {vs:List V} {ls:List L3} (h:dN H vs ls):vs.length=ls.length:=by
 obtain⟨as,h1,h2,B⟩:=h;rw[h1,h2,c_,c_]
def Ic (td ty:TE):TE:=λσ H Q=>td σ H λx H1=>ty σ H1 λy H2=>∃a,x = .ref a/\∃k,y=kV k/\∃o kvs v,H2 a=some (.frz o (.dK kvs))/\bQ kvs k=some v/\Q v H2
theorem xC {o i:Expr} (hu:X.A.units+1 < cLine) (ho:PE X o td) (hi:PE X i ty) (hs:FU i:=by exact λ_ _=>rfl):PE X (.Subscript o i pos) (Ic td ty):=by
 intro pins s σ H Q I h;refine yu PySem.F.slot_dict_getitem.lookup hs (thn (ho pins s σ H _ I h) λu s1 ⟨x,H1,I1,rx,q1⟩=>thn (hi pins s1 σ H1 _ I1 q1) λiv s2 B=>?_)
 obtain⟨y,H2,Y,ry,a,ex,k,Z,ob,kvs,v,hd,hv,q2⟩:=B;subst ex;obtain rfl:u=g9 a:=rx
 have g:ph H2 a y (some v):=.inl ⟨kvs,k,.inr ⟨ob,hd⟩,Z,hv.symm⟩
 exact⟨oF Y g,si hu Y g ry λw' s3 I3 L=>⟨v,H2,I3,L,q2⟩⟩
end L2
namespace PySem
open L2 PyProof.Rows PySem.Calls
def jC:Int:=0xFCA86420
theorem vi {Q:Int->Shared->Prop} (h:Q jC { s with toks:=s.toks+1 }):wpAny (model prog w) A (pyHash .none) Q E s:=by
 have B:s.TypeIs n_ "NoneType" := rfl
 show wpAny _ _ (pyHashByItsType .none) Q E s
 unfold pyHashByItsType;refine a_ ?_
 rw[cRoomFor,if_neg (by rw[show[n_].any Value.onHeap=false from rfl];exact jc)]
 refine e7 (a_ (y3 B Jo.lookup ?_))
 refine wpAny_ite_split (λz=>by cases z) λ_=>?_
 refine a_ (y3 B Jo.lookup ?_)
 refine wpAny_ite_split (λz=>by cases z) λ_=>?_
 refine a_ (wpAny_callSpecialIfBoundUnlessNone?_slot B Jo (m8 Jo B PySem.F.entry_NoneType_hash (show wpAny _ _ (do ret (<- mkInt jC)) _ _ s from wpAny_ret_mkInt ?_) (PySem.F.args_NoneType_hash_1 _)))
 show wpAny _ _ (if (decide (-(2:Int) ^ 63<=jC) && decide (jC < 2 ^ 63))=true then _ else _) Q E _
 rw[if_pos ∅]
 exact e7 h
theorem vX {Q:Bool->Shared->Prop} (h:Q true s):wpAny (model prog w) A (eqBool .none .none) Q E s:=by
 unfold eqBool;refine o_ ?_
 rw[if_pos ∅]
 exact a_ (Jw (e7 h))
def vm:Option Int->Value->Bool
 | none,.none=>true
 | some i,v=>v.isInt i
 | _,_=>false
theorem cm {k:Option Int} {v:Value} (h:vm k v=true):(k=none/\v = .none)\/∃i t,k=some i/\v = .int i t:=by
 cases k with
 | none=>cases v <;> first | exact .inl ⟨rfl,rfl⟩ | cases h
 | some i =>
  obtain⟨t,e⟩:=Value.isInt_shape (show Value.isInt i v=true by cases v <;> first | exact h | cases h)
  exact .inr ⟨i,t,rfl,e⟩
theorem HM {a b:Option Int} {v:Value} {Q:Bool->Shared->Prop} (hu:vm a u=true) (B:vm b v=true) (h:Q (decide (a=b)) s):wpAny (model prog w) A (eqBool u v) Q E s:=by
 rcases cm hu with⟨rfl,rfl⟩ | ⟨i,t,rfl,rfl⟩
 .rcases cm B with⟨rfl,rfl⟩ | ⟨j,u,rfl,rfl⟩
  .exact vX (by simpa using h)
  .exact SeqAt.EqAt.none_int j u _ _ _ _ (by simpa using h)
 .rcases cm B with⟨rfl,rfl⟩ | ⟨j,u,rfl,rfl⟩
  .exact SeqAt.EqAt.int_none i t _ _ _ _ (by simpa using h)
  .refine wpAny_eqBool_int ?_
   have e:(i == j)=decide (some i=some j):=by rw[ow];simp
   rw[e];exact h
def IF:Option Int->Int | none=>jC | some i=>hashInt i
def cA (prog:Program) (w:World):KeyKind prog w (Option Int) where
 is:=vm
 hash:=IF
 inj := λv a b ha L=>by
  rcases cm ha with⟨rfl,rfl⟩ | ⟨i,t,rfl,rfl⟩
  .rcases cm L with⟨rfl,_⟩ | ⟨j,u,rfl,e⟩
   .rfl
   .cases e
  .rcases cm L with⟨rfl,e⟩ | ⟨j,u,rfl,e⟩
   .cases e
   .cases e;rfl
 byValue:=λk v h=>by
  rcases cm h with⟨rfl,rfl⟩ | ⟨i,t,rfl,rfl⟩ <;> rfl
 pyHash:=λF h=>by
  rcases cm F with⟨rfl,rfl⟩ | ⟨i,t,rfl,rfl⟩
  .exact vi h
  .exact wpAny_pyHash_int h
 eqBool:=λhu F h=>HM hu F h
 «strs» := λk x t v h=>absurd (cm h) (λz=>z.elim (λz=>nomatch z.2) λB=>by obtain⟨_,_,_,e⟩:=B;exact(nomatch e))
end PySem
namespace L2
open PySem PySem.Spec PyProof.Rows
def oV:Option Int->V | none=>.non | some i=>.int i
theorem Ch {k:Option Int} (h:bq (oV k) u):(cA P w).is k u=true:=by
 cases k with
 | none=>cases (show u=n_ from h);rfl
 | some i=>obtain⟨t,rfl⟩:=(show ∃t,u=Value.int i t from h);exact intKind_is P w i t
theorem HV {k:Option Int} (h:(cA P w).is k u=true):bq (oV k) u:=by
 rcases cm (show vm k u=true from h) with⟨rfl,rfl⟩ | ⟨i,t,rfl,rfl⟩
 .rfl
 .exact⟨t,rfl⟩
def dL (ks:List (Option Int)):List (Option Int × Value):=ks.map λk=>(k,JR true)
def vI (P:Program) (w:World) (a:Addr) (o:Obj) (ks:List (Option Int)) (h:Heap):Prop:=h.get? a=some o/\(a == G1)=false/\ks.length<=1000/\h.DictOf (cA P w) a (dL ks)
def fb (P:Program) (w:World) (a:Addr) (o:Obj) (ks:List (Option Int)):HO:=.ext (vI P w a o ks)
section
variable {o:Obj}
theorem vI.ok (x:vI P w a o ks h):bA P w H h a (fb P w a o ks) :=
 ⟨x,⟨o,x.1⟩,λh1 h2 z k=>⟨k _ z.1,z.2.1,z.2.2.1,z.2.2.2.at k⟩⟩
def rA (ks:List (Option Int)) (k:Option Int):List (Option Int):=if k∈ks then ks else ks++[k]
theorem uf (ks:List (Option Int)) (k:Option Int):stored (dL ks) k (.bool true)=dL (rA ks k):=by
 unfold stored rA
 by_cases B:k∈ks
 .have e:(dL ks).any (λkv=>decide (kv.1=k))=true:=w_.mpr ⟨(k,.bool true),g7.mpr ⟨k,B,rfl⟩,by simp⟩
  rw[if_pos e,if_pos B];unfold dL;rw[l_]
  apply m9
  intro x _
  show(if x=k then(x,JR true) else(x,JR true))=_
  split <;> rfl
 .have e : ¬ (dL ks).any (λkv=>decide (kv.1=k))=true:=λz=>by
   obtain⟨y,F,e⟩:=w_.mp z;obtain⟨x,L,rfl⟩:=g7.mp F;exact B (of_decide_eq_true e ▸ L)
  rw[if_neg e,if_neg B];unfold dL;rw[k9];rfl
theorem AH (ks:List (Option Int)) (k:Option Int):(rA ks k).length<=ks.length+1:=by unfold rA;split <;> simp
end
section
variable {ie:Expr}
def BE (P:Program) (w:World) (td ty tv:TE):TS:=λD σ H=>tv σ H λv H1=>td σ H1 λx H2=>ty σ H2 λy B=>v = .bl true/\∃a,x = .ref a/\∃k,y=oV k/\∃o ks,B a=some (fb P w a o ks)/\ks.length < 1000/\∀o',D.nx σ (upd B a (fb P w a o' (rA ks k)))
theorem Du (hu:X.A.units+1 < cLine) (ho:PE X oe td) (hi:PE X ie ty) (hv:PE X value tv) (hs:KA value (some (.Subscript oe ie pos')) pos.line X.env=pure false) :
  PS X (.Assign [.Subscript oe ie pos'] value pos) (BE X.prog X.w td ty tv):=by
 intro pins s σ H D I h;refine wpAny_Assign_Subscript (thn (hv pins s σ H _ I h) λr s1 ⟨v,H1,I1,rv,q1⟩=>thn (ho pins s1 σ H1 _ I1 q1) λu s2 ⟨x,H2,I2,rx,q2⟩=>thn (hi pins s2 σ H2 _ I2 q2) λiv s3 B=>?_) hs
 obtain⟨y,H3,Y,ry,ev,a,ex,k,Z,o,ks,ha,hl,q3⟩:=B;subst ex Z ev;obtain rfl:u=g9 a:=rx
 obtain rfl:r=JR true:=rv
 obtain⟨⟨g,hd,hz,dd⟩,_⟩:=(show bA X.prog X.w H3 s3.heap a (fb X.prog X.w a o ks) from Y.hok a _ ha)
 refine wpAny_setItem_pairs (knd:=cA X.prog X.w) (k:=k) (hsz:=by unfold dL;rw[c_];exact gt hz ∅) (Ch ry) dd λh' F L=>?_
 rw[uf] at F;obtain⟨o',es,ep,g',r'⟩:=id F;have aa:=AH ks k;exact⟨σ,_,pO (ob:=fb X.prog X.w a o' (rA ks k)) Y (by rw[ha];exact o6) L ⟨o',g'⟩ (vI.ok ⟨g',hd,(),F⟩),q3 o'⟩
end
def qC (is:List Int):List (Key × V):=is.map λi=>(i_ i,V.bl true)
theorem ym {P:Program} {w:World} : ∀{is:List Int} {es:List DictEntry} {vs:List (Key × Value)},KV (qC is) vs->Pairs (bo P w) es vs->(∀e∈es,∃k,(bo P w).is k e.key=true/\e.hash=(bo P w).hash k) ->
  Pairs (cA P w) es (dL (is.map some))/\∀e∈es,∃k,(cA P w).is k e.key=true/\e.hash=(cA P w).hash k
 | [],es,vs,r,p,_=>by
  unfold qC KV at r;cases r;cases p;exact⟨.nil,λe he=>by simp at he⟩
 | i :: is,es,vs,r,p,hk=>by
  unfold qC KV at r;rw[i9] at r;cases r with
  | @cons p0 q0 ps qs h0 hr =>
   obtain⟨k0,u0⟩:=q0;obtain⟨e0,ru⟩:=h0;dsimp only at e0 ru;subst e0;obtain rfl:u0=JR true:=ru
   cases p with
   | @cons e kv es' kvs' h1 h2 h3 =>
    obtain⟨aa,Y⟩:=ym (is:=is) hr h3 λe he=>hk e (j7 _ he)
    have ab : ∃t,e.key=Value.int i t:=by
     rcases bP (k:=i_ i) (v:=e.key) h1 with⟨j,t,Z,L⟩ | ⟨x,t,Z,L⟩
     .cases Z;exact⟨t,L⟩
     .cases Z
    obtain⟨t,et⟩:=ab;have F:(cA P w).is (some i) e.key=true:=by rw[et];exact intKind_is P w i t
    refine⟨.cons F h2 aa,λe' B=>?_⟩
    rcases i6.mp B with rfl | B
    .obtain⟨k,k1,k2⟩:=hk e' (k7)
     have L:k=i_ i:=(bo P w).inj _ _ _ k1 h1
     subst L;exact⟨some i,F,k2⟩
    .exact Y e' B
def DH (P:Program) (w:World) (te:TE):TE:=λσ H Q=>te σ H λx H1=>∃a,x = .ref a/\∃is:List Int,H1 a<*(qC is)/\is.length<=1000/\∀o,Q x (upd H1 a (fb P w a o (is.map some)))
theorem F4 (Y:PE X e te):PE X e (DH X.prog X.w te):=by
 intro pins s σ H Q I h;refine thn (Y pins s σ H _ I h) λv s1 B=>?_
 obtain⟨x,H1,I1,r1,a,ex,is,ha,hl,q⟩:=B;subst ex;obtain⟨hz,hd,vs,L,o,es,ep,ho,hx,Z,hk,hp,hn⟩:=qQ I1.hok ha;have aa : ∀ob u,X.H₀ a≠some (.frz ob u):=λob u e=>by have:=I1.base.frzs a ob u e;rw[ha] at this;cases this
 obtain⟨p1,p2⟩:=ym L hp λe Y=>hk e (by simpa using Y)
 have F:((dL (is.map some)).map (·.1)).Nodup:=by
  have e1:(dL (is.map some)).map (·.1)=is.map some:=by unfold dL;rw[l_];simp
  have e2 : ∀{is:List Int} {vs:List (Key × Value)},KV (qC is) vs->vs.map (·.1)=is.map i_:=by
   intro is
   induction is with
   | nil=>intro vs r;unfold qC KV at r;cases r;rfl
   | cons i is ih =>
    intro vs r;unfold qC KV at r;rw[i9] at r;cases r with
    | cons h0 hr =>
     rw[i9,i9,ih hr];rw[<- h0.1]
  rw[e2 L] at hn;rw[e1];have F:is.Nodup:=(Gt.mp hn).imp λh z=>h (by rw[z])
  exact Gt.mpr (F.imp λh z=>h (e8 z))
 have nd:vI X.prog X.w a o (is.map some) s1.heap:=⟨ho,hd,by rw[c_];exact hl,o,es,ep,ho,hx,Z,λe Y=>p2 e (by simpa using Y),p1,F⟩
 exact⟨.ref a,_,I1.retag ha (by intro y z;cases z) (by intro y z;cases z) aa (by intro y z;cases z) nd.ok,r1,q o⟩
def ItN (P:Program) (w:World) (a:Addr) (o:Obj) (ks:List (Option Int)):It :=
 ⟨λi H=>H a=some (fb P w a o ks)/\i < ks.length,λi H x H'=>H'=H/\∃k,ks[i]? = some k/\x=oV k,λi H=>H a=some (fb P w a o ks)/\ks.length<=i⟩
theorem Gg (a it:Addr) (o:Obj) (ks:List (Option Int)) (ep:Nat) (ac : ∃es,o.data = .dict es ep):tV P w K tg (ItN P w a o ks) [it] it (λi h=>h.IsKeyIter it a i ks.length ep) where
 mem:=by simp
 obj:=λi h st b L=>by
  obtain rfl:b=it:=by simpa using L
  obtain⟨ob,e,c,d⟩:=st;exact⟨ob,e,λv z=>by rw[d] at z;cases z⟩
 keep:=λi h h' st k=>st.at λob e=>k it (by simp) ob e
 item:=by
  intro X hP hw hK hc i pins s σ H E I hf st ⟨ha,hi⟩;subst hP hw hK;obtain⟨⟨ho,hd,hz,od,es,F,Y,hr⟩,_⟩:=(show bA X.prog X.w H s.heap a (fb X.prog X.w a o ks) from I.hok a _ ha)
  obtain rfl:o=od:=e8 (ho.symm.trans Y)
  obtain⟨af,Z⟩:=ac;obtain rfl:F=ep:=by
   have:=hr.2.1
   rw[Z] at this;cases this;rfl
  have B:(dL ks).length=ks.length:=by unfold dL;simp
  obtain⟨k,hk⟩ : ∃k,ks[i]? = some k:=⟨ks[i],by simp[hi]⟩
  obtain⟨f0,f1,f2,f3,f4,f5⟩:=hf it (by simp)
  have ab:s.heap.IsKeyIter it a i (dL ks).length F:=by rw[B];exact st
  refine wpAny_pyNext_dict_item (knd:=cA X.prog X.w) (k:=k) (v:=.bool true) ab ⟨o,es,ho,hr⟩ (by unfold dL;rw[ei,hk];rfl) λkey h' ad aa sb=>?_
  have I1:Inv X pins σ H { s with heap:=h' }:=I.turned (t':=s.toks) (λb ob L e=>(sb.2 b L).trans e) f0 f1 f3 f4 f5
  rw[B] at aa;obtain⟨ob,e,c,d⟩:=id aa;exact⟨key,rfl,sD (s:={ s with heap:=h' }) e c d ∅ ⟨oV k,H,I1,HV ad,⟨rfl,k,hk,rfl⟩,aa,λb L=>(hf b L).1⟩⟩
 done:=by
  intro X hP hw hK hc i pins s σ H E I hf st ⟨ha,hi⟩;subst hP hw hK;obtain⟨⟨ho,hd,hz,od,es,F,Y,hr⟩,_⟩:=(show bA X.prog X.w H s.heap a (fb X.prog X.w a o ks) from I.hok a _ ha)
  obtain rfl:o=od:=e8 (ho.symm.trans Y)
  obtain⟨af,Z⟩:=ac;obtain rfl:F=ep:=by
   have:=hr.2.1
   rw[Z] at this;cases this;rfl
  have B:(dL ks).length=ks.length:=by unfold dL;simp
  obtain⟨f0,f1,f2,f3,f4,f5⟩:=hf it (by simp)
  have ab:s.heap.IsKeyIter it a i (dL ks).length F:=by rw[B];exact st
  exact wpAny_pyNext_dict_end (knd:=cA X.prog X.w) (I.ok.hd hc) ab ⟨o,es,ho,hr⟩ (FN.mpr ()) λh' eb=>⟨rfl,I.turned (t':=s.toks) (λb ob L e=>eb b ob L e) f0 f1 f3 f4 f5⟩
 self:=λ_ _ _ _ _ st h=>wpAny_pyIter_keyiter st h
theorem BN {o:Obj}:Wlk (ItN P w a o ks) (ks.map oV) (λH=>H a=some (fb P w a o ks)) :=
 ⟨λi H h hi=>⟨h,by simpa using hi⟩,λi H x H' h _ y=>by
  obtain⟨e,k,B,rfl⟩:=y;exact⟨by rw[ei,B];rfl,e⟩,λi H h hi=>⟨h,by simpa using hi⟩⟩
def iN (P:Program) (w:World) (tl:TE):TI:=λσ H R=>tl σ H λx H1=>∃a,x = .ref a/\∃o ks,H1 a=some (fb P w a o ks)/\R (ItN P w a o ks) H1
theorem IE {l:Expr} {tl:TE} (hl:PE X l tl):PI X tg l (iN X.prog X.w tl):=by
 intro pins s σ H R I h;refine thn (hl pins s σ H _ I h) λv F B=>?_
 obtain⟨x,H1,Z,r1,a,e,o,ks,hq,q⟩:=B;subst e;cases r1;obtain⟨⟨ho,hd,hz,od,es,ep,aa,hr⟩,_⟩:=(show bA X.prog X.w H1 F.heap a (fb X.prog X.w a o ks) from Z.hok a _ hq)
 obtain rfl:o=od:=e8 (ho.symm.trans aa)
 refine wpAny_pyIter_dict (knd:=cA X.prog X.w) hd ⟨o,es,ho,hr⟩ ?_
 have L:(dL ks).length=ks.length:=by unfold dL;simp
 have I2:Inv X pins σ H1 { F with heap:=F.heap.push { cls:=.type "dict_keyiterator",data:=.fields #[.ref a,.int 0 0,.int (dL ks).length 0,.int ep 0] } }:=Z.kept (t':=F.toks) λb o e=>d_ _ e
 refine⟨F.heap.objs.size,[F.heap.objs.size],_,_,_,rfl,I2,Gg a _ o ks ep ⟨es,hr.2.1⟩,⟨_,gr _ rfl,rfl,by rw[L];rfl⟩,λb hb=>?_,q⟩
 obtain rfl:b=F.heap.objs.size:=by simpa using hb
 have Y:H1 F.heap.objs.size=none:=Z.hok.fresh (hH _)
 exact⟨Y,(Z.fpOk (hH _) Y).2⟩
def dQ (ps:List (Int × Int × Int)):List (List Key × V):=ps.map λx=>([.inl x.1,.inl x.2.1],.int x.2.2)
def toO:Key->Option Int | .inl i=>some i | .inr _=>none
theorem isO {i j:Int} (x:(Jz (bo P w)).is h [i_ i,i_ j] b):(Jz (cA P w)).is h [some i,some j] b:=by
 obtain⟨o,items,n,h1,h2,Z,L⟩:=(show IsTupleKey (bo P w) h [i_ i,i_ j] b from x)
 refine(show IsTupleKey (cA P w) h [some i,some j] b from⟨o,items,n,h1,h2,Z,?_⟩)
 generalize items.toList=l at L;have F : ∀{i:Int} {v:Value},(bo P w).is (i_ i) v=true->(cA P w).is (some i) v=true:=λ{i v} z=>by
  rcases bP (k:=i_ i) (v:=v) z with⟨j,t,B,Y⟩ | ⟨x,t,B,Y⟩
  .cases B;rw[Y];exact intKind_is P w i t
  .cases B
 cases L with
 | cons k1 r1 =>
  cases r1 with
  | cons k2 r2 =>
   cases r2;exact .cons (F k1) (.cons (F k2) .nil)
theorem BR {ps:List (Int × Int × Int)} (hu:A.units+1 < cLine) (I:Inv X pins σ H s) (ha:H a=some (.dT (dQ ps))) (hb:H b>>[.non,.int v]) (h : ∀s',Inv X pins σ H s'->Q .none s') :
  wpAny (model X.prog X.w) A (call (.builtin "dict.get") [.ref a,.ref b]) Q E s:=by
 obtain⟨z,hd,xs,ag,o,es,ep,ho,hx,aa,he,ab,Z⟩:=oQ I.hok (.inl ha);have ac:s.TypeIs (.ref a) "dict" :=⟨o,ho,hx.1⟩
 have B : ∀q∈xs,∃i j:Int,q.1=[i_ i,i_ j]:=by
  have : ∀{ps:List (Int × Int × Int)} {xs:List (List Key × Addr × Value)},KT H (dQ ps) xs->∀q∈xs,∃i j:Int,q.1=[i_ i,i_ j]:=by
   intro ps
   induction ps with
   | nil=>intro xs r;unfold dQ KT at r;cases r;intro q L;simp at L
   | cons p ps ih =>
    intro xs r;unfold dQ KT at r;rw[i9] at r;cases r with
    | cons h0 hr =>
     intro q L;rcases i6.mp L with rfl | L
     .exact⟨p.1,p.2.1,h0.1.symm⟩
     .exact ih hr q L
  exact this ag
 have dd:s.heap.DictOfH (Jz (cA X.prog X.w)) a (xs.map λq=>(q.1.map toO,q.2)):=by
  refine⟨o,es,ep,ho,hx,aa,?_,λx Y=>?_,?_⟩
  .rw[he,l_]
   apply m9
   intro q L;obtain⟨i,j,e⟩:=B q L;obtain⟨k,ad,u⟩:=q;dsimp only at e;subst e;rfl
  .obtain⟨q,L,rfl⟩:=g7.mp Y
   obtain⟨i,j,e⟩:=B q L;have:=ab q L
   rw[e] at this;dsimp only;rw[e];exact isO this
  .rw[l_]
   rw[List.Nodup,Gt] at Z;rw[List.Nodup,Gt];refine G4 (λ{p q} hp L hne z=>hne ?_) Z
   obtain⟨i,j,e⟩:=B p hp;obtain⟨i',j',e'⟩:=B q L;simp only[Function.comp,e,e',i9,map_nil,toO] at z;rw[e,e'];cases z;rfl
 have key:(Jz (cA X.prog X.w)).is s.heap [none,some v] b:=by
  obtain⟨_,its,r,ot,h1,h2,n,h3⟩:=(show bA X.prog X.w H s.heap b (.tup [.non,.int v]) from I.hok b _ hb)
  refine(show IsTupleKey (cA X.prog X.w) s.heap [none,some v] b from⟨ot,its.toArray,n,h1,h2,h3,?_⟩)
  cases r with
  | cons r1 r2 =>
   cases r2 with
   | cons r3 r4 =>
    cases r4;exact .cons (Ch (k:=none) r1) (.cons (Ch (k:=some v) r3) .nil)
 refine call_meetsIn Ka ac PySem.F.entry_dict_get (PySem.F.args_dict_get_2 _ _) (meetsH_dict_get (Jz (cA X.prog X.w)) a b hd) ⟨Je hu,[none,some v],_,key,dd,?_⟩
 have af:atKey (xs.map λq=>(q.1.map toO,q.2)) [none,some v]=none:=by
  unfold atKey;rw[Option.map_eq_none_iff,List.find?_eq_none];intro x Y e;obtain⟨q,L,rfl⟩:=g7.mp Y;obtain⟨i,j,eq⟩:=B q L;have e:=of_decide_eq_true e;dsimp only at e;rw[eq] at e;cases e
 rw[af];exact h _ (I.tok _)
def lH (ps:List (Int × Int × Int)):Option Int->Int->Option Int
 | none,_=>none
 | some s,v=>(ps.find? λx=>decide (x.1=s/\x.2.1=v)).map λx=>x.2.2
theorem qJ (s v:Int) : ∀ps:List (Int × Int × Int),(bQ (dQ ps) [i_ s,i_ v]).getD .non=oV (lH ps (some s) v)
 | []=>rfl
 | p :: ps=>by
  have B:=qJ s v ps;unfold dQ lH at B ⊢;dsimp only at B ⊢;rw[i9,JO]
  by_cases h:p.1=s/\p.2.1=v
  .rw[decide_eq_true h]
   obtain⟨rfl,rfl⟩:=h;simp[bQ,oV]
  .rw[decide_eq_false h]
   have F:([i_ p.1,i_ p.2.1]:List Key)≠[i_ s,i_ v]:=λz=>h (by cases z;exact⟨rfl,rfl⟩)
   simpa [bQ,F] using B
def CI (td ty:TE):TE:=λσ H Q=>td σ H λx H1=>∃a,x = .ref a/\∃ps,H1 a=some (.dT (dQ ps))/\ty σ H1 λy H2=>H2 a=some (.dT (dQ ps))/\∃b,y = .ref b/\∃st v,H2 b>>[oV st,.int v]/\Q (oV (lH ps st v)) H2
theorem BO (hu:X.A.units+1 < cLine) (ho:PE X oe td) (he:PE X e ty) (m:M1 X oe "get" apos e cpos):PE X (.Call (.Attribute oe "get" apos) [e] [] cpos) (CI td ty):=by
 intro pins s σ H Q I h;refine wpAny_Call_method m.base m.few m.line PySem.F.plainAttrs_dict Ka PySem.F.type_dict_get (thn (ho pins s σ H _ I h) λu s1 B=>?_)
 obtain⟨x,H1,Z,rx,a,ex,ps,d,q1⟩:=B;subst ex;obtain rfl:u=g9 a:=rx
 obtain⟨t1,t2,_⟩:=FT Z (.inr ⟨_,.inl d⟩);refine⟨t1,t2,?_⟩
 rw[m.trees];refine JY rfl (Calls.evalArgs_plain (JS (thn (he pins s1 σ H1 _ Z q1) λiv s2 ⟨y,H2,I2,ry,d2,b,ey,st,v,hb,q2⟩=>J1 ?_)))
 subst ey;obtain rfl:iv=g9 b:=ry
 cases st with
 | none=>exact BR hu I2 d2 hb λs3 Y=>⟨.non,H2,Y,rfl,q2⟩
 | some st=>exact Gr hu I2 (ph.t (k:=[i_ st,i_ v]) d2 hb) rfl λw' s3 Y L=>⟨_,H2,Y,by rw[qJ] at L;exact L,q2⟩
section
variable {ie l:Expr} {tl:TE}
theorem AK (Z:X.prog=P) (F:X.w=w) (hu:X.A.units+1 < cLine) (B:PE X oe td) (hi:PE X ie ty) (Y:PE X value tv) (L:KA value (some (.Subscript oe ie pos')) pos.line X.env=pure false) :
  PS X (.Assign [.Subscript oe ie pos'] value pos) (BE P w td ty tv):=by
 subst Z F;exact Du hu B hi Y L
theorem zo (F:X.prog=P) (B:X.w=w) (L:PE X e te):PE X e (DH P w te):=by
 subst F B;exact F4 L
theorem CT (F:X.prog=P) (B:X.w=w) (hl:PE X l tl):PI X tg l (iN P w tl):=by
 subst F B;exact IE hl
end
theorem DY (hK:X.K=K) (hu:X.A.units+100 < cLine):OpR X (n6 .Eq) (GE K):=by
 subst hK;exact qk hu
end L2
namespace PySem.SeqAt
open AutoSeq1 (wpAny_loadPart')
open MeetsSeq MeetsSeq2 MeetsSeq3 SeqRoads2
def AlikeIn (prog:Program) (w:World) (A:Around) (s:Shared) (y x:Value):Prop:=∀(E:Value->Shared->Prop) (Q:Bool->Shared->Prop),Q true s->wpAny (model prog w) A (eqBool y x) Q E s
end PySem.SeqAt
namespace L2
open PySem PySem.Spec PyProof.Rows
theorem yN (hK:X.K=K) (hu:X.A.units+100 < cLine):OpR X (n6 .NotEq) (GQ K):=by
 subst hK;exact FP hu
noncomputable def fh (i:Nat):TE:=λσ H Q=>match σ[i]? with | some (some v)=>Q v H | _=>False
theorem CU {Q:VK} (h:fh i σ H Q):C9 i σ H Q:=by
 unfold fh at h
 split at h
 .exact⟨_,by assumption,h⟩
 .exact h.elim
theorem pvM (i:Nat) {x:Str} {pos:Pos} (F:X.N[i]? = some x:=by rfl) (L:Vis X.env.scope x:=by first | exact Or.inl rfl | exact Or.inr (Or.inl rfl) | exact Or.inr (Or.inr rfl)) (Y:(x ==("__debug__" : Str))=false:=by decide)
  (B:(x ==("__classdict__" : Str))=false:=by decide):PE X (.Name x pos) (fh i):=λpins s σ H Q I h=>Gf F L Y B pins s σ H Q I (CU h)
end L2
namespace PySem
open Sem (wp)
section
variable {o:Obj} {xs:Array Value} {Q:Option Value->Shared->Prop}
theorem nc (hx:s.heap.get? a=some o) (hc:o.cls = .type "tuple") (B:o.data = .seq xs k) (hd:o.dict=none) (L:G3 (.type "tuple") name=pure none) (Y:(["__module__","__name__","__qualname__","__doc__","__annotations__"]:List Str).contains name=false) (hA:A.handled=none)
  (h : ∀h' tk,(∀b u,s.heap.get? b=some u->h'.get? b=some u)->Q none { s with heap:=h',toks:=tk }) (hsz:name.length+100<=ge:=by size_fits) :
  wpAny (model prog w) A (getAttr? (.ref a) name) Q E s:=by
 obtain⟨c,ab,dat,sl⟩:=o;simp only at hc B hd;subst hc B hd;obtain⟨hp,g,d,tk,os⟩:=s;have hT : ∀Z,(⟨hp,g,d,Z,os⟩:Shared).TypeIs (.ref a) "tuple" := λ_=>⟨_,hx,rfl⟩
 have f1:=sub_AttributeError;have f3:=F.slot_tuple_getattribute.lookup;have f4:=F.slot_tuple_getattribute.bind (.ref a);have f5:=am_tuple_getattr_none;unfold getAttr? getAttrBy? getAttrBy
 repeat (any_goals (first | assumption | exact hT _ | ((with_reducible show wpAny _ _ (call (Value.builtin "tuple.__getattribute__") _ _) _ _ _);refine call_meets F.slot_tuple_getattribute (hT _) am_entry_tuple_getattribute (F.args_tuple_getattribute_2 _ _) (meets_getattribute_miss_tuple a xs k sl name _ L Y hsz) ⟨hx,hA,λh' Z e aa=>?_⟩) | wp_step))
 obtain⟨t',u',he⟩:=aa.there
 show wpAny _ _ (getattributeRaised _ _ _ _ _ _ _) _ _ _
 unfold getattributeRaised
 repeat (any_goals (first | assumption | wp_step))
 exact h _ _ aa.keeps
theorem pv (hx:s.heap.get? a=some o) (hc:o.cls = .type "list") (B:o.data = .seq xs k) (hd:o.dict=none) (L:G3 (.type "list") name=pure none) (Y:(["__module__","__name__","__qualname__","__doc__","__annotations__"]:List Str).contains name=false) (hA:A.handled=none)
  (h : ∀h' tk,(∀b u,s.heap.get? b=some u->h'.get? b=some u)->Q none { s with heap:=h',toks:=tk }) (hsz:name.length+100<=ge:=by size_fits) :
  wpAny (model prog w) A (getAttr? (.ref a) name) Q E s:=by
 obtain⟨c,ab,dat,sl⟩:=o;simp only at hc B hd;subst hc B hd;obtain⟨hp,g,d,tk,os⟩:=s;have hT : ∀Z,(⟨hp,g,d,Z,os⟩:Shared).TypeIs (.ref a) "list" := λ_=>⟨_,hx,rfl⟩
 have f1:=sub_AttributeError;have f3:=F.slot_list_getattribute.lookup;have f4:=F.slot_list_getattribute.bind (.ref a);have f5:=am_list_getattr_none;unfold getAttr? getAttrBy? getAttrBy
 repeat (any_goals (first | assumption | exact hT _ | ((with_reducible show wpAny _ _ (call (Value.builtin "list.__getattribute__") _ _) _ _ _);refine call_meets F.slot_list_getattribute (hT _) am_entry_list_getattribute (F.args_list_getattribute_2 _ _) (meets_getattribute_miss_list a xs k sl name _ L Y hsz) ⟨hx,hA,λh' Z e aa=>?_⟩) | wp_step))
 obtain⟨t',u',he⟩:=aa.there
 show wpAny _ _ (getattributeRaised _ _ _ _ _ _ _) _ _ _
 unfold getattributeRaised
 repeat (any_goals (first | assumption | wp_step))
 exact h _ _ aa.keeps
end
namespace F
theorem entry_dict_update_loop:entryFor table "dict.update.loop" = some Builtin.«dict.update.loop» := entryFor_of_tree (by kernel_rfl)
theorem plain_dict_update_loop:plainId "dict.update.loop" = true:=by decide+kernel
theorem lk_tuple_keys:G3 (.type "tuple") "keys" = pure none:=by rw[x0,p6];kernel_rfl
theorem lk_list_keys:G3 (.type "list") "keys" = pure none:=by rw[x0,p6];kernel_rfl
end F
section
variable {K:Type} [DecidableEq K] {knd:KeyKind prog w K} {A:Around} {R:Result->Shared->Prop} {I:Addr} {fp wr:List Addr} {G:Array GenState->Array GenState->Prop} {n:Nat} {P:Nat->Value->Prop} {St:Nat->Shared->Prop}
theorem gL (W:WalksS prog w A.in1 I fp wr G n P St) (D:Addr) (ah:D∉fp) (h0:Heap) (key:Nat->K) (val:Nat->Value) (kv:Nat->List (K × Value))
  (ab : ∀i v,i < n->P i v->∃q o k0 m,v = .ref q/\q∉D :: wr/\h0.get? q=some o/\o.cls = .type "tuple" /\ o.data = .seq #[k0,val i] m/\knd.is (key i) k0=true)
  (ap : ∀i,i < n->kv (i+1)=stored (kv i) (key i) (val i)) (hsz : ∀i,i<=n->(kv i).length<=ge) :
  ∀ (k i:Nat) (s:Shared) (tok:Tok),n - i=k->i<=n->St i s->s.heap.DictOf knd D (kv i)->(∀b o,b∉D :: wr->h0.get? b=some o->s.heap.get? b=some o) ->
   (∀s',Moved (D :: wr) G s s'->s'.heap.DictOf knd D (kv n)->R (.ok (.ret .none)) s') ->
   JA (model prog w) A (.builtin "dict.update.loop" ⟨[.ref D,.ref I,.int i tok,.none],[]⟩) R s:=by
 have ad:D∉wr:=λh=>ah (W.sub _ h)
 have B : ∀b∈wr,b∈D :: wr:=λb Y=>j7 _ Y
 intro k
 induction k with
 | zero =>
  intro i s tok hk hi aa hD Z hR;have an:i=n:=()
  subst an;refine JU F.entry_dict_update_loop ?_
  rw[G5 F.plain_dict_update_loop _]
  show wpAny _ A.in1 (Jr (.ref I) >>= _) _ _ s
  refine a_ (W.done s _ _ aa λs' hm=>?_)
  show wpAny _ A.in1 (do Builtin.Dict.addKeywords D [];ret n_) _ _ s'
  refine a_ (e7 (e7 (hR s' (hm.mono B) ?_)))
  obtain⟨o,es,ep,ho,rest⟩:=hD;exact⟨o,es,ep,hm.heap D _ ad ho,rest⟩
 | succ k ih =>
  intro i s tok hk hi aa hD Z hR;have L:i < n:=()
  refine JU F.entry_dict_update_loop ?_
  rw[G5 F.plain_dict_update_loop _]
  show wpAny _ A.in1 (Jr (.ref I) >>= _) _ _ s
  refine a_ (W.item i s _ _ L aa λv s' hP af hm=>?_)
  obtain⟨q,o,k0,m,rfl,hq,hg,hc,hd,ao⟩:=ab i v L hP;have aq:s'.heap.DictOf knd D (kv i):=by
   obtain⟨o,es,ep,ho,rest⟩:=hD;exact⟨o,es,ep,hm.heap D _ ad ho,rest⟩
  have aj:s'.heap.get? q=some o:=hm.heap q o (λz=>hq (B _ z)) (Z q o hq hg)
  obtain⟨c,ar,dat,sl⟩:=o;simp only at hc hd;subst hc hd;have hT:s'.TypeIs (.ref q) "tuple" :=⟨_,aj,rfl⟩
  dsimp only;refine a_ (o_ (a_ ?_))
  refine wpAny_tryCatch ?_
  unfold Builtin.Dict.pairItems;refine a_ (J_ hT ?_)
  rw[if_pos ∅]
  refine a_ (u_ aj rfl ?_)
  refine e7 ?_
  show wpAny _ _ (holding [k0,val i] (dictSet D k0 (val i))) _ _ s'
  refine o_ (wpAny_dictSet_pairs ao aq (λh' am ac=>?_) (hsz i hi))
  refine e7 ⟨Jl F.plain_dict_update_loop _,ih (i+1) _ _ () L (W.frame _ s' _ _ af (le_succ _) λb Y o e=>?_) (by rw[ap i L];exact am) (λb o Y e=>?_) λak ag ai=>?_⟩
  .rw[ac.2 b (λh:b=D=>ah (by rw[<- h];exact Y))];exact e
  .rw[ac.2 b (λh:b=D=>Y (by rw[h];exact k7))]
   exact hm.heap b o (λz=>Y (B _ z)) (Z b o Y e)
  .refine hR ak (Moved.trans W.gtrans ((hm.mono B).then_heap (le_succ _) λb o Y e=>?_) ag) ai
   rw[ac.2 b (λh:b=D=>Y (by rw[h];exact k7))];exact e
theorem call_dict_pairs {o:Obj} {T:String} {m:Nat} {key:Nat->K} {val:Nat->Value} {kv:Nat->List (K × Value)}
  (ai:T = "tuple" \/ T = "list") (hh:A.handled=none) (hl:s.heap.get? l=some o) (hc:o.cls = .type T) (B:o.data = .seq items m) (hd:o.dict=none)
  (af : ∀i v,items[i]? = some v->∃q o k0 m,v = .ref q/\s.heap.get? q=some o/\o.cls = .type "tuple" /\ o.data = .seq #[k0,val i] m/\knd.is (key i) k0=true)
  (h0:kv 0=[]) (ap : ∀i,i < items.size->kv (i+1)=stored (kv i) (key i) (val i)) (hsz : ∀i,i<=items.size->(kv i).length<=ge)
  (h : ∀h' tk,h'.DictOf knd s.heap.objs.size (kv items.size)->(∀b o,s.heap.get? b=some o->h'.get? b=some o)->Q (.ref s.heap.objs.size) { s with heap:=h',toks:=tk }) :
  wpAny (model prog w) A (call (.type "dict") [.ref l]) Q E s:=by
 refine callType_codes (Q₁:=λobj s₁=>obj = .ref s.heap.objs.size/\s₁={ s with heap:=s.heap.push { cls:=.type "dict",data:=.dict #[] } }) F.kt_called_dict (F.kt_typeCall_dict_1 _) F.entry_dict_init (kt_code_dict_new _ ⟨rfl,rfl⟩) ?_
 rintro obj s₁ ⟨rfl,rfl⟩
 have ab:(s.heap.push { cls:=.type "dict",data:=.dict #[] }).DictOf knd s.heap.objs.size []:=Heap.DictOf.new s.heap
 refine⟨ab.typeIs,F.args_dict_init_2 _ _,?_⟩
 unfold Builtin.«dict.__init__»;refine a_ ?_
 unfold Builtin.Dict.selfAndRest;refine a_ (wpAny_notOrdered_dict ab.typeIs ?_)
 show wpAny _ _ (pure (s.heap.objs.size,[g9 l])) _ _ _
 refine e7 ?_
 show wpAny _ _ (Builtin.Dict.updateFrom "dict.__init__" s.heap.objs.size (.ref l) [] .none) _ _ _
 unfold Builtin.Dict.updateFrom;have L:(s.heap.push { cls:=.type "dict",data:=.dict #[] }).get? l=some o:=d_ _ hl
 have aj:Shared.TypeIs { s with heap:=s.heap.push { cls:=.type "dict",data:=.dict #[] } } (.ref l) T:=⟨_,L,hc⟩
 refine a_ (J_ aj ?_)
 have ad : ∀(h1:Heap) (Y:Nat),(∀b u,(s.heap.push { cls:=.type "dict",data:=.dict #[] }).get? b=some u->h1.get? b=some u) ->
   ∀(TI:Obj) (St:Nat->Heap->Prop),Walks prog w A.in1.in1 h1.objs.size [h1.objs.size,l] [h1.objs.size] items.size (λi v=>items[i]? = some v) St->St 0 (h1.push TI) ->
   JA (model prog w) A.in1 (.builtin "dict.update.loop" ⟨[.ref s.heap.objs.size,.ref h1.objs.size,w4 0,.none],[]⟩) (wants (λr ah=>r=n_/\Q (g9 s.heap.objs.size) ah) E) { s with heap:=h1.push TI,toks:=Y }:=by
  intro h1 Y Z TI St W an;obtain⟨od,_,_,ak,_⟩:=ab;have aa:s.heap.objs.size < h1.objs.size:=e9 (Z _ _ ak)
  have ao:l < s.heap.objs.size:=e9 hl
  have am:s.heap.objs.size∉[h1.objs.size,l]:=by
   simp only[i6,e_,m4,or_false,not_or];exact⟨j_ aa,pc ao⟩
  have hold : ∀b o,s.heap.get? b=some o->(h1.push TI).get? b=some o:=λb o e=>d_ _ (Z b o (d_ _ e))
  refine gL (knd:=knd) W.toS s.heap.objs.size am s.heap key val kv (λi v hi hv=>?_) ap hsz (items.size - 0) 0 _ 0 rfl (x5 _) an ?_ (λb o _ e=>hold b o e) λs' hm hD=>?_
  .obtain⟨q,o,k0,m,rfl,hg,r⟩:=af i v hv
   have hq:=e9 hg;exact⟨q,o,k0,m,rfl,by simp only[i6,e_,m4,or_false,not_or];exact⟨j_ hq,j_ (lt_trans hq aa)⟩,hg,r⟩
  .rw[h0]
   obtain⟨o,es,ep,ho,rest⟩:=(Heap.DictOf.new (knd:=knd) s.heap);exact⟨o,es,ep,d_ _ (Z _ _ ho),rest⟩
  .obtain⟨h',g',d',tk',os'⟩:=s'
   have eg:g'=s.gens:=hm.gens
   have ed:d'=s.drawn:=hm.drawn
   have eo:os'=s.os:=hm.os
   subst eg;subst ed;subst eo;refine⟨rfl,h h' tk' hD λb o e=>hm.heap b o ?_ (hold b o e)⟩
   have hq:=e9 e;simp only[i6,e_,m4,or_false,not_or];exact⟨j_ hq,j_ (lt_trans hq aa)⟩
 have ac:A.in1.in1.handled=none:=by simp[hh]
 rcases ai with rfl | rfl
 .rw[if_pos ∅]
  refine a_ (nc L hc B hd F.lk_tuple_keys (by decide+kernel) ac (λh1 Y Z=>?_))
  rw[if_pos (show(isNone (none:Option Value))=true from rfl)]
  refine a_ (Jw ?_)
  have ht:h1.IsTuple l items:=⟨o,Z _ _ L,hc,m,B⟩
  refine a_ (v9 ht ?_)
  have ag:l≠h1.objs.size:=j_ (e9 (Z _ _ L))
  refine e7 ⟨Jl F.plain_dict_update_loop _,ad h1 Y Z _ _ (Walks.tuple ac _ l ag items) ⟨⟨_,gr _ rfl,rfl,rfl⟩,?_⟩⟩
  exact⟨o,d_ _ (Z _ _ L),hc,m,B⟩
 .rw[if_pos ∅]
  refine a_ (pv L hc B hd F.lk_list_keys (by decide+kernel) ac (λh1 Y Z=>?_))
  rw[if_pos (show(isNone (none:Option Value))=true from rfl)]
  refine a_ (Jw ?_)
  have ht:h1.IsList l items:=⟨o,Z _ _ L,hc,m,B⟩
  refine a_ (Js ht ?_)
  have ag:l≠h1.objs.size:=j_ (e9 (Z _ _ L))
  refine e7 ⟨Jl F.plain_dict_update_loop _,ad h1 Y Z _ _ (Walks.list ac _ l ag items) ⟨⟨_,gr _ rfl,rfl,rfl⟩,?_⟩⟩
  exact⟨o,d_ _ (Z _ _ L),hc,m,B⟩
end
end PySem
namespace L2
open PySem PySem.Spec PyProof.Rows
def ZTup (H:Hp) (p:Addr) (ys:List V):Prop:=∃o:Obj,o.dict=none/\H p=some (.frz o (.tup ys))
def Hz (H:Hp) (ys:List V) (B:List (Key × V)):Prop:=∃as:List (Addr × Key × V),ys=as.map (λx=>V.ref x.1)/\as.map (·.2)=B/\∀x∈as,H x.1>>[kV x.2.1,x.2.2]
def Bs:List V->Hp->VK->Prop:=λxs H Q=>∃p,xs=[.ref p]/\∃ys B,(ZTup H p ys\/H p*>ys)/\Hz H ys B/\B.length<=ge/\∀d,H d=none->Q (.ref d) (upd H d (.dK (eJ [] B)))
theorem qi {pins:List (Addr × Obj)} {σ:St} {H:Hp} {s:Shared} (I:Inv X pins σ H s) : ∀as:List (Addr × Key × V),(∀x∈as,H x.1>>[kV x.2.1,x.2.2]) ->
  ∃B:List (Key × Value),KV (as.map (·.2)) B/\∀(i:Nat) (x:Addr × Key × V),as[i]? = some x->∃(o:Obj) (F:Value) (m:Nat) (r:Value),B[i]? = some (x.2.1,r)/\s.heap.get? x.1=some o/\o.cls = .type "tuple" /\ o.data = .seq #[F,r] m/\(bo X.prog X.w).is x.2.1 F=true
 | [],_=>⟨[],.nil,λi x h=>by simp at h⟩
 | y :: as,h=>by
  obtain⟨B,h1,h2⟩:=qi I as λx Z=>h x (j7 _ Z)
  obtain⟨its,r,⟨o,ho,hc,m,L⟩,_⟩:=I.tuple (.of (h y k7));obtain⟨u,v,rfl,Y,r2⟩:=pf r;refine⟨(y.2.1,v) :: B,.cons ⟨rfl,r2⟩ h1,λi x e=>?_⟩
  cases i with
  | zero =>
   simp at e
   subst e;exact⟨o,u,m,v,rfl,ho,hc,L,oK Y⟩
  | succ i=>exact h2 i x (by simpa using e)
theorem vY (B:List (Key × Value)) (i:Nat) (x:Key × Value) (h:B[i]? = some x):merged [] (B.take (i+1))=stored (merged [] (B.take i)) x.1 x.2:=by
 rw[i7,h];unfold merged;rw[J4];rfl
theorem xJ (hc:X.calm=true):bX X (.type "dict") Bs:=by
 intro pins s σ H xs us Q I r h;obtain⟨p,rfl,ys,af,hz,⟨as,rfl,rfl,hp⟩,hl,q⟩:=h;obtain⟨u,rfl,rx⟩:=dv r;cases rx;obtain⟨B,kv,ac⟩:=qi I as hp;have ag:as.length=B.length:=by have:=Paired.length kv;simpa using this
 obtain⟨its,o,T,m,rv,ho,hT,ad,F,aa⟩ : ∃(its:List Value) (o:Obj) (T:String) (m:Nat),bj (as.map λx=>V.ref x.1) its/\s.heap.get? p=some o/\(T = "tuple" \/ T = "list")/\o.cls = .type T/\o.data = .seq its.toArray m/\o.dict=none:=by
  rcases hz with⟨o,hd,e⟩ | e
  .obtain⟨h1,_,its,r,o',h2,h3,m,h4⟩:=(show bA X.prog X.w H s.heap p (.frz o (.tup _)) from I.hok p _ e)
   rw[h1] at h2;cases h2;exact⟨its,o,"tuple",m,r,h1,.inl rfl,h3,h4,hd⟩
  .obtain⟨_,its,m,r,h1⟩:=(show bA X.prog X.w H s.heap p (.lst _) from I.hok p _ e)
   exact⟨its,_,"list",m,r,h1,.inr rfl,rfl,rfl,rfl⟩
 have Y:its.toArray.size=B.length:=by have:=rv.length;simp at this ⊢;omega
 refine PySem.call_dict_pairs (knd:=bo X.prog X.w) (key:=λi=>((B[i]?).map (·.1)).getD (i_ 0)) (val:=λi=>((B[i]?).map (·.2)).getD .none) (kv:=λi=>merged [] (B.take i)) hT (I.ok.hd hc) ho ad F aa (λi v hv=>?_) rfl (λi hi=>?_) (λi hi=>?_) λh' tk dd kp=>?_
 .have hi:i < its.length:=by
   have:=(Array.getElem?_eq_some_iff.mp hv).1
   simpa using this
  have L:i < as.length:=by have:=rv.length;simp at this;omega
  obtain⟨w',hw,ab⟩:=rv.get (i:=i) (x:=V.ref (as[i].1)) (by simp[L])
  have ev:v=w':=by
   rw[Jg,hw] at hv;exact(e8 hv).symm
  subst ev;cases ab;obtain⟨o',k0,m',rr,e1,e2,e3,e4,e5⟩:=ac i as[i] (by simp[L])
  refine⟨_,o',k0,m',rfl,e2,e3,?_,?_⟩
  .simp only[e1,Jj,getD_some];exact e4
  .simp only[e1,Jj,getD_some];exact e5
 .have hi':i < B.length:=()
  have e:B[i]? = some B[i]:=by simp[hi']
  rw[vY B i _ e];simp only[e,Jj,getD_some]
 .have h1:(merged [] (B.take i)).length<=(B.take i).length:=by
   have hg : ∀(ms ks:List (Key × Value)),(merged ks ms).length<=ks.length+ms.length:=by
    intro ms
    induction ms with
    | nil=>intro ks;simp[merged]
    | cons y ms ih =>
     intro ks;have h1:=ih (stored ks y.1 y.2);have h2:(stored ks y.1 y.2).length<=ks.length+1:=by unfold stored;split <;> simp
     show(merged (stored ks y.1 y.2) ms).length<=_
     simp only[u6];omega
   simpa using hg (B.take i) []
  have h2:(B.take i).length<=B.length:=by simp;omega
  simp at hl
  omega
 .rw[Y,ki] at dd
  have Z:=hZ (as.map (·.2)) [];simp at hl Z
  refine⟨.ref s.heap.objs.size,_,I.laid (a:=s.heap.objs.size) (o:=.dK (eJ [] (as.map (·.2)))) (t':=tk) kp (hH _) ⟨(),beq_eq_false_iff_ne.mpr (tj (j_ I.big)),_,KV.merge kv .nil,dd⟩,rfl,q _ (I.hok.fresh (hH _))⟩
theorem uU (I:Inv X pins σ H s) (hu:X.A.units+10 < cLine) {d1 d2:Addr} {kvs:List (Key × V)} (h1:H d1<*kvs) (h2:H d2<*kvs) (hp : ∀p∈kvs,de p.2=true):SeqAt.AlikeIn X.prog X.w X.A.in1 s (.ref d1) (.ref d2):=by
 intro E Q' hq;unfold eqBool;refine o_ ?_
 refine wpAny_ite_split (λ_=>a_ (Jw (e7 hq))) (λ_=>a_ ?_)
 obtain⟨z,aa,vs,F,dd⟩:=qQ I.hok h1;obtain⟨z2,Y,ab,B,Z⟩:=qQ I.hok h2;have hn:(vs.map (·.1)).Nodup:=let ⟨_,_,_,_,_,_,_,_,hn⟩:=dd;hn
 rw[<- F.keys] at hn;refine PySem.W.keq_eq (r:=true) aa Y dd Z (by show X.A.units+1 < cLine;omega) (λ_=>zL B F λp L=>⟨jK hn L,hp p L⟩) ?_
 rw[<- F.length,<- B.length,beq_self_eq_true];exact x6 hq
def lp (m:Nat) (x:Nat × Nat):Nat × Nat:=((x.1 * 5+1+x.2 / 32) % (m+1),x.2 / 32)
section
variable {t:SetTable}
theorem GX {P:Nat->Prop} [DecidablePred P] : ∀n,P n->∃k,k<=n/\P k/\∀m,m < k->¬ P m
 | 0,h=>⟨0,hH _,h,λm z=>absurd z (Nat.not_lt_zero _)⟩
 | n + 1,h=>by
  by_cases B : ∃k,k<=n/\P k
  .obtain⟨k,hk,hp⟩:=B
   obtain⟨l,hl,hp,F⟩:=GX k hp;exact⟨l,(),hp,F⟩
  .exact⟨n+1,hH _,h,λm F hp=>B ⟨m,(),hp⟩⟩
end
section
variable {t u:TS}
abbrev cS (x:Str) (j:Nat) (p:Pos):Expr:=.Constant (.str x) j p
abbrev l3 (a:Str) (F:Nat) (Z:Pos) (b:Str) (jb:Nat) (Y:Pos) (c:Str) (B:Nat) (L lp:Pos):Expr:=.List [cS a F Z,cS b jb Y,cS c B L] lp
end
end L2
namespace PySem
noncomputable instance decPD:DecidableEq Kp:=λa b=>Classical.propDecidable (a=b)
end PySem
namespace L2
open PySem PySem.Spec PyProof.Rows
section
variable {g:TG}
theorem rP {Q:VK}
  (aD:X.calm=true) (S:me X scope N nt js) (hi:PI X tg iter wi)
  (hg : ∀{cl C fp s H xe},PG (dm X scope N cl C fp s H xe) tg g) (aK:Cr g nt)
  (hc : ∀{cl C fp s H xe},PTs (dm X scope N cl C fp s H xe) ifs tc)
  (he : ∀{cl C fp s H xe},PE (dm X scope N cl C fp s H xe) elt te)
  (hs : ∀x,foldedSetIterable iter X.env x=pure x) (I:Inv X pins σ H s) (h:yR nt js wi g tc te σ H Q)
  (aJ : ∀{cl C fp F H2 xe H3 s4 D},Inv X pins σ H2 F->(∀b∈fp,pX X pins H2 b)->F.heap.objs.size < C->Inv (dm X scope N cl C fp F H2 xe) [] (cI nt js σ) H3 s4->Q (.ref D) H3 ->
   compPost (model X.prog X.w) X.A X.xe use Qf (.ref D) C (.ok .next) s4) :
  wpAny (model X.prog X.w) X.A (comprehension (.ListComp elt [⟨tg,iter,ifs,0⟩] scope pos) scope X.env pos' (newList []) false (eval iter X.env) use) Qf X.xe s:=by
 obtain⟨cl,a8,aF,_,a9⟩:=kU (env:=X.env) scope.names [] (λx hx hk=>I.ok.has x.1 (S.free x hx hk))
 have aG : ∀x c,cl.lookup x=some c->X.env.cells.lookup x=some c:=λx c e=>(aF x c e).elim (λz=>by simp at z) λz=>z
 have aw:closureFor scope X.env=pure cl:=by
  unfold closureFor;simp only[];rw[a8];rfl
 refine wpAny_comprehension_free rfl hs aw S.kind S.loc (thn (hi pins s σ H _ I h) λv s1 h1=>thn h1 λaT F h2=>?_)
 obtain⟨it,fp,tn,J,H2,e,I2,T,a0,f2,q2⟩:=h2;subst e;have Z:H2 F.heap.objs.size=none:=I2.hok.fresh (hH _)
 obtain⟨W,⟨m0,w0⟩,aB⟩:=q2 F.heap.objs.size Z;refine w6 (gj (λB=>?_))
 dsimp only at B ⊢;generalize hG:F.heap.push { cls:=.type "list",dict:=none,data:=.seq ([]:List Value).toArray }=G at B ⊢;have aN:G.objs.size=F.heap.objs.size+1:=by rw[<- hG,m_]
 have af:=cellsFrom_ok scope.names (G.push { cls:=.type "dict",data:=.dict #[] }) (G.objs.size+1) [] ⟨λ_ _ hm=>(nomatch hm),List.Pairwise.nil⟩ (by rw[m_];exact hH _)
 rw[m_] at af;have kp : ∀b o,G.get? b=some o->(pushCells (G.push { cls:=.type "dict",data:=.dict #[] }) scope.names).get? b=some o:=λb o e=>pushCells_keeps _ _ _ _ (d_ _ e)
 generalize aQ:pushCells (G.push { cls:=.type "dict",data:=.dict #[] }) scope.names=ad at B af kp ⊢;have aa : ∀b o,F.heap.get? b=some o->ad.get? b=some o:=λb o e=>kp b o (hG ▸ d_ _ e)
 have aH:HOk X.prog X.w (upd H2 F.heap.objs.size (.lst [])) ad:=I2.hok.laid aa (hH _) ⟨x5 _,[],0,.nil,kp _ _ (hG ▸ gr _ rfl)⟩
 have ac : ∀b∈fp,b < F.heap.objs.size:=λb L=>by
  obtain⟨o,e,_⟩:=T.obj _ _ a0 b L;exact e9 e
 have aM : ∀c,G.objs.size<=c->(upd H2 F.heap.objs.size (.lst [])) c=none:=λc hc=>by
  rw[ah (pc ())]
  exact I2.hok.fresh ()
 have az:=λxe H3 s4=>@aJ (nl (G.objs.size+1) scope.names cl) G.objs.size fp F H2 xe H3 s4 F.heap.objs.size I2 f2 (by rw[aN];exact Jd _)
 generalize aS:compPost (model X.prog X.w) X.A X.xe use Qf (.ref F.heap.objs.size) G.objs.size=RR at az
 let Y:=dm X scope N (nl (G.objs.size+1) scope.names cl) G.objs.size fp F H2 (notedBy (model X.prog X.w) X.A (compEnvC scope (nl (G.objs.size+1) scope.names cl) G.objs.size X.env) λe s'=>RR (.error e) s')
 have ag : ∀{H':Hp},(∀b∈fp,H' b=none)->∀b∈fp,pX Y [] H' b:=λ{H'} hn b L=>by
  obtain⟨f0,f1,aO,f3,f4,f5⟩:=f2 b L;have h1:=ac b L;refine⟨hn b L,j_ (h_ h1 (by show _<=G.objs.size;omega)),λz=>?_,.inl L,λx c e=>?_,λp hp=>absurd (show p∈([]:List (Addr × Obj)) from hp) (by simp)⟩
  .rcases i6.mp (I2.stkSub b z) with q | q
   .exact f1 q
   .exact aO q
  .have e:(nl (G.objs.size+1) scope.names cl).lookup x=some c:=e
   rw[bL] at e;rcases qX e with q | q
   .have:=(af.empty x c (mem_of_lookup q)).2
    exact pc (h_ h1 ())
   .exact f4 x c (aG x c q.2)
 have ay:JA (model X.prog X.w) X.A (.compLoop (.ListComp elt [⟨tg,iter,ifs,0⟩] scope pos) 0 (.ref it) (.ref F.heap.objs.size) (compEnvC scope (nl (G.objs.size+1) scope.names cl) G.objs.size X.env)) RR { F with heap:=ad,toks:=F.toks }:=by
  refine tx (λn s'=>∃i ys H',Inv Y [] (cI nt js σ) H' s'/\tn i s'.heap/\(∀b∈fp,H' b=none)/\W i n ys H') ?_ m0
   ⟨0,[],_,uT S I2 f2 aG a9 (λx c hm=>af.empty x c hm) af.apart aM ac () aa (λb o e=>by rw[ah (ao e Z)];exact e) (λb n L=>by rw[ah (j_ L)];exact n) aH B (λ_=>rfl),T.keep _ _ _ a0 λb L o e=>aa b o e,λb L=>by rw[ah (j_ (ac b L))];exact(f2 b L).1,w0⟩
  rintro n s3 ⟨i,ys,H3,J3,aC,aA,w3⟩
  rcases aB i n ys H3 w3 with⟨aE,qn⟩ | ⟨go,NN,hN,step⟩
  .refine thn (T.done Y rfl rfl rfl aD i [] s3 (cI nt js σ) H3 _ J3 (ag aA) aC aE) λr s4 ar=>?_
   obtain⟨hr,I4⟩:=ar;subst hr;exact az _ _ _ I4 qn
  .refine thn (T.item Y rfl rfl rfl aD i [] s3 (cI nt js σ) H3 _ J3 (ag aA) aC go) λr s4 ax=>?_
   obtain⟨u,hr,h4⟩:=ax;subst hr;refine thn h4 λ_ s5 aj=>?_
   obtain⟨x,H5,I5,r5,y5,a7,aI⟩:=aj;have g5:=aK x (cI nt js σ) H5 _ qV (step x H5 y5);refine thn (hg _ s5 _ H5 x u _ (I5.pinned (ag aI) (T.obj _ _ a7)) r5 g5) λ_ s6 ai=>?_
   obtain⟨am,H6,I6,aP,q6⟩:=ai;refine thn (hc _ s6 am H6 _ I6 q6) λok s7 an=>?_
   obtain⟨H7,I7,q7⟩:=an;have ab : ∀{s8:Shared} {H8:Hp} {ak:List V},Inv Y ([]++qP fp s5.heap) am H8 s8->NN ak H8 ->
     ∃m,m < n/\∃i ys H',Inv Y [] (cI nt js σ) H' s8/\tn i s8.heap/\(∀b∈fp,H' b=none)/\W i m ys H':=λ{s8 H8 ak} I8 n8=>by
    obtain⟨m',hm,w8⟩:=hN ak H8 n8;have k8:=λb L o e=>I8.pin (b,o) (m7 _ (m7 _ (lf L e)))
    refine⟨m',hm,i+1,ak,H8,(I8.unpinned).wk aP,T.keep _ _ _ a7 λb L o e=>(k8 b L o e).1,λb L=>?_,w8⟩
    obtain⟨o,e,d⟩:=T.obj _ _ a7 b L;exact(k8 b L o e).2.1
   cases ok with
   | false =>
    rw[if_neg jc] at q7 ⊢;exact ab I7 q7
   | true =>
    rw[if_pos rfl] at q7 ⊢;refine thn (he _ s7 am H7 _ I7 q7) λy s8 ap=>?_
    obtain⟨yv,H8,I8,r8,aR,aL,q8⟩:=ap;refine thn (sK (X:=Y) _ s8 am H8 (.ref F.heap.objs.size) [yv] (.ref F.heap.objs.size) [y] (λ_ H9=>NN (ys++[yv]) H9) I8 rfl (.cons r8 .nil) ⟨_,ys,yv,rfl,rfl,aR,aL,q8⟩) λv9 s9 aq=>?_
    obtain⟨x9,H9,I9,r9,q9⟩:=aq;exact ab I9 q9
 subst aS;exact codeAny_compStart_list ay (T.self _ 0 _ _ _ (T.keep _ _ _ a0 λb L o e=>aa b o e) ay)
theorem ba (S:me X scope N nt js) (hi:PI X tg iter wi)
  (hg : ∀{cl C fp s H xe},PG (dm X scope N cl C fp s H xe) tg g) (ad:Cr g nt)
  (hc : ∀{cl C fp s H xe},PTs (dm X scope N cl C fp s H xe) ifs tc)
  (he : ∀{cl C fp s H xe},PE (dm X scope N cl C fp s H xe) elt te)
  (hs : ∀x,foldedSetIterable iter X.env x=pure x:=by intro _;rfl) (ab:X.calm=true:=by exact rfl) :
  PE X (.ListComp elt [⟨tg,iter,ifs,0⟩] scope pos) (yR nt js wi g tc te):=by
 intro pins s σ H Q I h;rw[eval_ListComp];refine rP ab S hi hg ad hc he hs I h λ{cl C fp s2 H2 xe H3 s4 D} I2 f2 hC I4 qn=>?_
 obtain⟨mC,ac,_⟩:=id I4.loc;refine⟨mC,ac,λF aa=>?_⟩
 have B : ∀b o,b≠C->s4.heap.get? b=some o->F.get? b=some o:=λb o L e=>aa.extBut b o L e
 have lC : ∀{b o},s2.heap.get? b=some o->b≠C:=λe=>j_ (lt_trans (e9 e) hC)
 have un:Un (frs X.stack) fp H2 H3 s2.heap F:=by
  have u:=I4.base;refine⟨λb o e n L Y=>B b o (lC e) (u.keep b o e n L Y),λb o e n L Y=>?_,u.free,λb o e Y=>?_,u.tups,u.frzs,u.tbls⟩
  .obtain⟨sl,e1⟩:=u.slot b o e n L Y
   exact⟨sl,B b _ (lC e) e1⟩
  .obtain⟨o',e1⟩:=u.there b o e Y
   exact⟨o',B b _ (lC e) e1⟩
 have Z:HOk X.prog X.w H3 F:=λb u e=>(I4.hok b u e).stay (λc v hc q=>B c v (by
   have cf:H3 C=none:=I4.free
   rintro rfl
   rcases hc with z | z
   .rw[z] at cf;rw[cf] at e;cases e
   .rw[cf] at z;cases z) q) (λ_ q=>q) λ_ _ q=>q
 exact⟨.ref D,H3,I2.call' (s':={ s4 with heap:=F }) I4.os un Z I4.bare (λb L=>by
  obtain⟨f0,f1,af,f3,f4,f5⟩:=f2 b L;exact⟨f3,f1,f4,f5⟩),rfl,qn⟩
theorem fG (i:Nat) {y:Str} {py F:Pos} (S:me X scope N nt js) (hi:PI X tg iter wi)
  (hg : ∀{cl C fp s H xe},PG (dm X scope N cl C fp s H xe) tg g) (ah:Cr g nt)
  (hc : ∀{cl C fp s H xe},PTs (dm X scope N cl C fp s H xe) ifs tc)
  (he : ∀{cl C fp s H xe},PE (dm X scope N cl C fp s H xe) elt te)
  (hs : ∀x,foldedSetIterable iter X.env x=pure x:=by intro _;rfl) (ab:X.calm=true:=by exact rfl) (hN:X.N.Nodup:=by assumption) (ai:X.N[i]? = some y:=by exact rfl) (hy:Loc X.env.scope y:=by first | exact Or.inl rfl | exact Or.inr rfl)
  (ac:KA (.ListComp elt [⟨tg,iter,ifs,0⟩] scope pos) (some (.Name y py)) F.line X.env=pure true:=by rfl)
  (hf:X.fn y=true\/X.env.scope.names.lookup y=some .local:=by first | exact .inl rfl | exact .inr rfl | assumption) :
  PS X (.Assign [.Name y py] (.ListComp elt [⟨tg,iter,ifs,0⟩] scope pos) F) (zy (yR nt js wi g tc te) (gb i)):=by
 intro pins s σ H D I h;rw[exec_Assign_Name_used _ _ _ _ ac];refine a_ (wpAny_standAt (a_ ?_))
 show wpAny _ X.A (do let _ <- comprehension (.ListComp elt [⟨tg,iter,ifs,0⟩] scope pos) scope X.env _ (newList []) false (eval iter X.env) (some (assign (.Name y py) X.env))) _ _ s
 refine a_ (y2 (rP (Qf:=λ_ s'=>SP X pins D .next s') ab S hi hg ah hc he hs I h λ{cl C fp s2 H2 xe H3 s4 D'} I2 f2 hC I4 qn=>?_) (λ_ s' hq=>e7 (e7 hq)) λ_ _ e=>e)
 obtain⟨mC,af,_⟩:=id I4.loc;have I5:Inv X pins σ H3 s4:=I2.call' (s':=s4) I4.os I4.base I4.hok I4.bare (λb hb=>by
  obtain⟨f0,f1,ak,f3,f4,f5⟩:=f2 b hb;exact⟨f3,f1,f4,f5⟩)
 show wpAny _ X.A (assign (.Name y py) X.env (.ref D')) _ _ s4
 have aa:C≠X.env.locals:=pc (lt_trans I2.lt hC)
 have Y : ∀x c,X.env.cells.lookup x=some c->c≠C:=λx c e z=>by
  obtain⟨v,q⟩:=I2.cell x c e;exact p9 _ (lt_trans (z ▸ q.lt) hC)
 refine wpAny_assign_Name (sA I5 hN ai hy (v:=.ref D') rfl (λs6 I6 B=>?_) hf)
 obtain⟨ad,sb,ag⟩:=B;have L:C≠ad:=by
  rcases ag with z | z
  .rw[z];exact aa
  .exact λe=>Y _ _ z e.symm
 refine⟨mC,af.sameBut sb L,λaj Z=>⟨_,H3,Inv.turned (t':=s6.toks) (it:=C) I6 (λb o hb e=>Z.extBut b o hb e) I4.free aa (.inr (gt I2.sz (x8 hC))) Y (λp hp z=>?_),qn⟩⟩
 exact p9 _ (lt_trans (z ▸ e9 (I2.pin p hp).1) hC)
end
end L2
namespace PySem.SeqAt
open AutoSeq1 (wpAny_loadPart')
open MeetsSeq MeetsSeq2 MeetsSeq3 SeqRoads2
theorem vS (la lb:Addr) (xs ys:Array Value) (nx ny:Nat) (dx dy:Option Addr) (sx sy:Array (Option Value)) (F:xs.size=ys.size) (m:Nat) :
  ∀ i : Nat,xs.size - i=m->MeetsIn prog w (Builtin.«list.__eq__.loop» ⟨[.ref la,.ref lb,w4 i,w4 3],[]⟩)
   (λA R s=>s.heap.get? la=some ⟨.type "list",dx,.seq xs nx,sx⟩/\s.heap.get? lb=some ⟨.type "list",dy,.seq ys ny,sy⟩ /\
    (∀j (q1:j < xs.size) (q2:j < ys.size),AlikeIn prog w A.in1 s xs[j] ys[j])/\R (.ok (.ret (.bool false))) s):=by
 induction m with
 | zero =>
  intro i hm A R s hh;obtain⟨h0,g0,d0,t0,o0⟩:=s;obtain⟨ha,B,L,Z⟩:=hh
  wp_walk using wpAny_loadPart' ha,wpAny_loadPart' B
  have Y:xs[((i:Nat):Int).toNat]? = none:=by simp;omega
  have n2:ys[((i:Nat):Int).toNat]? = none:=by simp;omega
  rw[Y,n2]
  wp_walk using wpAny_loadPart' ha,wpAny_loadPart' B
  show R (.ok (.ret (.bool (xs.size != ys.size)))) _
  rw[F];simpa using Z
 | succ m ih =>
  intro i hm A R s hh;obtain⟨h0,g0,d0,t0,o0⟩:=s;obtain⟨ha,B,L,Z⟩:=hh
  wp_walk using wpAny_loadPart' ha,wpAny_loadPart' B
  have l1:i < xs.size:=()
  have l2:i < ys.size:=()
  have Y:xs[((i:Nat):Int).toNat]? = some xs[i]:=by simp[l1]
  have n2:ys[((i:Nat):Int).toNat]? = some ys[i]:=by simp[l2]
  have ci:((i:Int)+1)=((i+1:Nat):Int):=by push_cast;rfl
  rw[Y,n2];refine a_ (L i l1 l2 _ _ ?_)
  wp_walk
  rw[ci];refine⟨Jl plain_eq_loop _,JU entry_eq_loop ?_⟩
  rw[G5 plain_eq_loop _];exact ih (i+1) () A R _ ⟨ha,B,L,Z⟩
theorem wb (L F:Addr) (xs ys:Array Value) (nx ny:Nat) (dx dy:Option Addr) (Y sy:Array (Option Value)) (B:xs.size=ys.size) :
  MeetsIn prog w (Builtin.«list.__ne__» ⟨[.ref L,.ref F],[]⟩)
   (λA R s=>s.heap.get? L=some ⟨.type "list",dx,.seq xs nx,Y⟩/\s.heap.get? F=some ⟨.type "list",dy,.seq ys ny,sy⟩ /\
    (∀j (q1:j < xs.size) (q2:j < ys.size),AlikeIn prog w A.in1 s xs[j] ys[j])/\R (.ok (.ret (.bool false))) s):=by
 intro A R s hh;obtain⟨h0,g0,d0,t0,o0⟩:=s;obtain⟨ha,Z,hj,hR⟩:=hh;have fs:=AutoSeq1.sub_list_list;have hz : ¬ (xs.size != ys.size)=true:=by simp[B]
 wp_walk using wpAny_loadPart' ha,wpAny_loadPart' Z
 refine⟨Jl plain_eq_loop _,JU entry_eq_loop ?_⟩
 rw[G5 plain_eq_loop _];exact vS L F xs ys nx ny dx dy Y sy B _ 0 rfl A R _ ⟨ha,Z,hj,hR⟩
theorem ne_listIn {Z Y:Addr} {xs:Array Value} (ha:s.heap.IsList Z xs) (hb:s.heap.IsList Y ys) (B:xs.size=ys.size) (hu:A.units < cLine)
  (hj : ∀j (q1:j < xs.size) (q2:j < ys.size),AlikeIn prog w A.in1 s xs[j] ys[j]) (h:Q (.bool false) s):wpAny (model prog w) A (n6 .NotEq (.ref Z) (.ref Y)) Q E s:=by
 obtain⟨⟨c1,d1,e1,s1⟩,L,k1,n1,m1⟩:=ha;obtain⟨⟨c2,d2,e2,s2⟩,o2,k2,n2,m2⟩:=hb;simp only at k1 m1 k2 m2;subst k1 m1 k2 m2;refine wpAny_richCompare_same_room (op:=.NotEq) ⟨_,L,rfl⟩ ⟨_,o2,rfl⟩ F.slot_list_ne ?_ hu
 exact call_meetsIn F.slot_list_ne ⟨_,L,rfl⟩ F.entry_list_ne (F.args_list_ne_2 _ _) (wb Z Y xs ys n1 n2 d1 d2 s1 s2 B) ⟨L,o2,hj,(λx=>nomatch x),h⟩
end PySem.SeqAt
namespace L2
open PySem PySem.Spec PyProof.Rows
def Hf:R2:=λx y H Q=>∃a,x = .ref a/\∃c,y = .ref c/\∃L e1,H a*>[.ref L,.ref e1]/\∃F e2,H c*>[.ref F,.ref e2]/\∃kvs,H L<*kvs/\H F<*kvs/\(∀p∈kvs,de p.2=true)/\∃B,H e1<*B/\H e2<*B/\(∀p∈B,de p.2=true)/\Q (.bl false) H
theorem Ea (hu:X.A.units+10 < cLine):OpR X (n6 .NotEq) Hf:=by
 intro pins s σ H x y v u Q I rx ry h;obtain⟨a,rfl,c,rfl,d1,n1,ha,d2,n2,hc,kvs,h1,h2,hp,aa,Y,h4,F,q⟩:=h;cases rx;cases ry;obtain⟨ia,ra,pa,_⟩:=I.list (SqL.of ha);obtain⟨ib,Z,pb,_⟩:=I.list (SqL.of hc);obtain⟨u1,u2,rfl,e1,e2⟩:=pf ra;obtain⟨w1,w2,rfl,f1,f2⟩:=pf Z;cases e1;cases e2;cases f1;cases f2;refine SeqAt.ne_listIn pa.isList pb.isList rfl () (λj B L=>?_) ⟨.bl false,H,I,rfl,q⟩
 match j,B,L with
 | 0,_,_=>exact uU I hu h1 h2 hp
 | 1,_,_=>exact uU I hu Y h4 F
 | j+2,B,_=>exact absurd B (by simp)
def zg:RM:=λp vs H Q=>vs=[]/\∃xs,H p*>xs/\Q .non (upd H p (.lst []))
theorem AU:MtL X "list.clear" zg:=λpins s σ H x vs v us Q I L F B=>by obtain⟨p,e,e2,xs,h,q⟩:=B;exact(Bx pins s σ H x vs v us Q I L F ⟨p,xs,e,e2,h,q⟩)
end L2
namespace Lw
open PySem L2
local macro_rules | `(tactic| ctx_has c) => `(tactic| exact ⟨rfl, rfl, rfl, by decide +kernel, rfl, by decide +kernel, by decide +kernel⟩)
local macro_rules | `(tactic| ctx_has z $S:ident) => do
  let i:=Lean.mkIdent
  let nd:=i `nd
  let hu:=i `hu
  let L:=i `L
  let vs:=i `vs
  let H:=i `H
  let Q:=i `Q
  let E:=i `E
  let h:=i `h
  let f:=i `f
  let cdv:=i `cdv
  let A:=i `A
  let outer:=i `outer
  let s:=i `s
  let hr:=i `hr
  `(tactic| (have $nd:ident:=aA.nd $S;refine($L).ok $S (λ$vs $H $Q $E $h=>?_) (λ$f $cdv $A $outer $s $H $vs $Q $E $hr $h=>?_);rotate_left;have $hu:ident:=ED $hr;rotate_left))
local macro_rules
 | `(tactic| ctx_has v $ids*) => do
  let ns := "true_and fh xj cxK Il Cp C1 FS GC EO Gv Option.join_some wL AV FW IsB ER Gd C2 oy AY GK EJ B0 zy gb C9 tC tOp tUn rV tB Gq tOr Gx BS E6 AO xm tCB rT kM yl DR DE tDG sDP Hj Hk rI0 rI rU rEq rNe Ek D9 Dh Do Dy Di CJ AI rIL rIT rIS rSL rSQ rST Dj iL iT tML tMS xU pL rCT EU Dv CQ CP xN xB xF uy tK Bb xV ue iZ qN A9 A5 CF BM xf ipM GJ iE iV iD xz tDI Gu vz qK BB IT IH IU IJ Ir dY qO qB AN rCL Ay C0 wU Bn rCS Cw pW AC qf HO.dK.injEq HO.lst.injEq HO.tup.injEq HO.ins.injEq BG CN tSl lG wK L2.jt List.map_cons List.map_nil List.length_cons List.length_nil List.replicate List.cons_append List.nil_append List.append_nil List.getElem?_cons_zero List.getElem?_cons_succ List.set_cons_zero List.set_cons_succ Option.some.injEq V.int.injEq V.ref.injEq V.str.injEq V.bl.injEq V.ty.injEq List.cons.injEq and_assoc and_true and_self exists_eq_left exists_eq_left' exists_eq_right exists_eq_right' exists_and_left exists_eq exists_eq' reduceCtorEq false_and and_false false_or or_false exists_false decide_eq_true_eq String.reduceEq String.reduceBEq Bool.or_true Bool.true_or Bool.or_false Bool.false_or or_true true_or if_true if_false Bool.not_eq_true' Nat.reduceAdd Nat.reduceSub Nat.zero_add List.map List.append_eq List.set Nat.add_zero".splitOn " "
  let xs : Array Lean.Ident := (ns.map fun x => Lean.mkIdent x.toName).toArray ++ ids
  let s ← `(tactic| simp only [$[$xs:ident],*])
  let d : Lean.TSyntax `tactic := ⟨((s.raw.setKind `Lean.Parser.Tactic.dsimp).setArg 0 (Lean.mkAtom "dsimp")).modifyArg 4 fun o => o.modifyArg 0 fun a => a.modifyArg 1 fun l => Lean.mkNullNode (l.getArgs.extract 0 (2 * ns.length - 1))⟩
  `(tactic| ((try $d:tactic); (try $s:tactic)))
 | `(tactic| kpf_say ($H:ident, $q:ident, $hq:ident, $hh:ident, $ss:ident) al $G:ident $o) => `(tactic| (refine ⟨by decide, λ$q $hq => ?_⟩; have $hh : upd $H $q $o $q = some $o := ae; have $ss : au $H (upd $H $q $o) := au.upd0 $hq; generalize upd $H $q $o = $G at $hh:ident $ss:ident ⊢))
local macro_rules | `(tactic| ctx_has o) => `(tactic| first | exact Or.inl rfl | exact Or.inr rfl)
local macro_rules | `(tactic| ctx_has m) => `(tactic| first | decide | omega)
variable {P:Program} {w:World} {K:fx} {mg:Str->Option Value} {base:Heap}
abbrev dD:Stmt:=top 2
abbrev ly:Stmt:=top 3
abbrev iM:Stmt:=top 5
abbrev bD:Stmt:=bf (top 7) 0
abbrev eU:Stmt:=bf (top 9) 0
abbrev dj:Stmt:=bf (top 9) 2
abbrev cR:Stmt:=bf (top 9) 3
abbrev fM:Stmt:=bf (top 11) 0
abbrev cY:Stmt:=bf (top 11) 2
abbrev eN:Stmt:=bf (top 11) 3
abbrev fU:Stmt:=bf (top 11) 4
abbrev ft:Stmt:=bf (top 11) 5
abbrev gv:Stmt:=bf (top 13) 0
abbrev dP:Stmt:=bf (top 13) 2
abbrev eX:Stmt:=bf (top 13) 3
abbrev eS:Stmt:=bf (top 13) 4
abbrev dZ:Stmt:=bf (top 13) 5
abbrev jl:Stmt:=top 15
abbrev lc:Stmt:=top 16
abbrev gx:Stmt:=bf (top 17) 0
abbrev eI:Stmt:=bf (top 17) 2
abbrev fN:Stmt:=bf (top 17) 3
abbrev fP:Stmt:=bf (top 17) 4
abbrev gD:Stmt:=bf (top 17) 5
abbrev fS:Stmt:=bf (top 17) 6
abbrev fk:Stmt:=bf (top 19) 0
abbrev dH:Stmt:=bf (top 19) 2
abbrev eh:Stmt:=bf (top 19) 3
abbrev fA:Stmt:=bf (top 19) 4
abbrev eQ:Stmt:=bf (top 19) 5
abbrev da:Stmt:=top 21
abbrev eY:Stmt:=bf (top 22) 0
abbrev ff:Stmt:=bf (top 22) 2
abbrev eL:Stmt:=bf (top 22) 3
abbrev fO:Stmt:=top 24
abbrev fQ:Stmt:=bf (top 25) 0
abbrev cK:Stmt:=bf (top 25) 2
abbrev bN:Stmt:=bf (top 25) 3
abbrev fV:Stmt:=bf (top 25) 4
abbrev oa:Stmt:=top 27
abbrev jg:Stmt:=top 29
abbrev jU:Stmt:=top 30
abbrev iU:Stmt:=top 31
abbrev iH:Stmt:=top 32
abbrev nv:Stmt:=top 33
abbrev kB:Stmt:=top 34
abbrev iI:Stmt:=top 35
abbrev dI:Stmt:=top 36
abbrev lA:Stmt:=top 37
abbrev jB:Stmt:=top 38
abbrev gQ:Stmt:=top 40
abbrev jD:Stmt:=top 41
abbrev gh:Stmt:=top 42
abbrev jT:Stmt:=top 43
abbrev gc:Stmt:=top 44
abbrev jQ:Stmt:=top 45
abbrev hV:Stmt:=top 46
abbrev gK:Stmt:=top 47
abbrev gW:Stmt:=top 48
abbrev iS:Stmt:=top 49
abbrev fH:Stmt:=top 50
abbrev cp:Stmt:=top 51
abbrev fW:Stmt:=top 52
abbrev cj:Stmt:=top 53
abbrev jn:Stmt:=top 54
abbrev gI:Stmt:=top 55
abbrev ke:Stmt:=top 56
abbrev rQ:Stmt:=top 57
theorem mf:aA ["wish"] ["wish"] (ak dD):=by ctx_has c
theorem vf:aA ["wish","own","inner"] ["wish"] (ak ly):=by ctx_has c
theorem rO:aA ["number","low","high"] ["number","low","high"] (ak iM):=by ctx_has c
theorem bU:aA ["self","wish"] ["self","wish"] (ak bD):=by ctx_has c
theorem kP:aA ["self","wish"] ["self","wish"] (ak eU):=by ctx_has c
theorem kW:aA ["self","rooms","least","cell","enough"] ["self","rooms"] (ak dj):=by ctx_has c
theorem kH:aA ["self","rooms","pairs"] ["self","rooms"] (ak cR):=by ctx_has c
theorem mR:aA ["self","wish"] ["self","wish"] (ak fM):=by ctx_has c
theorem qb:aA ["self","rooms"] ["self","rooms"] (ak cY):=by ctx_has c
theorem uA:aA ["self","rooms"] ["self","rooms"] (ak eN):=by ctx_has c
theorem nL:aA ["self","rooms"] ["self","rooms"] (ak fU):=by ctx_has c
theorem lQ:aA ["self","rooms"] ["self","rooms"] (ak ft):=by ctx_has c
theorem pC:aA ["self","wish","step"] ["self","wish"] (ak gv):=by ctx_has c
theorem jG:aA ["self","states","room","behind","state","value"] ["self","states","room"] (ak dP):=by ctx_has c
theorem kY:aA ["self","rooms","states","cell"] ["self","rooms"] (ak eX):=by ctx_has c
theorem pA:aA ["self","rooms"] ["self","rooms"] (ak eS):=by ctx_has c
theorem mZ:aA ["self","rooms"] ["self","rooms"] (ak dZ):=by ctx_has c
theorem wo:aA ["term","rooms"] ["term","rooms"] (ak jl):=by ctx_has c
theorem wH:aA ["terms","rooms","spans","term","parts"] ["terms","rooms"] (ak lc):=by ctx_has c
theorem pF:aA ["self","wish"] ["self","wish"] (ak gx):=by ctx_has c
theorem kF:aA ["self","reached","behind","may_rise_to_low","may_fall_to_high"] ["self","reached","behind"] (ak eI):=by ctx_has c
theorem nM:aA ["self","reached","parts","behind","further","part","earlier"] ["self","reached","parts","behind"] (ak fN):=by ctx_has c
theorem mO:aA ["self","rooms","spans","reached","number","term"] ["self","rooms"] (ak fP):=by ctx_has c
theorem px:aA ["self","rooms"] ["self","rooms"] (ak gD):=by ctx_has c
theorem nF:aA ["self","rooms","span"] ["self","rooms"] (ak fS):=by ctx_has c
theorem lZ:aA ["self","wish"] ["self","wish"] (ak fk):=by ctx_has c
theorem lV:aA ["self","row","rooms"] ["self","row","rooms"] (ak dH):=by ctx_has c
theorem nV:aA ["self","rooms"] ["self","rooms"] (ak eh):=by ctx_has c
theorem lU:aA ["self","rooms"] ["self","rooms"] (ak fA):=by ctx_has c
theorem lB:aA ["self","rooms","fillings","cell"] ["self","rooms"] (ak eQ):=by ctx_has c
theorem jR:aA ["cell","rooms","holders","tried","value"] ["cell","rooms","holders","tried"] (ak da):=by ctx_has c
theorem kT:aA ["self","wish"] ["self","wish"] (ak eY):=by ctx_has c
theorem kX:aA ["self","rooms","holders","cell"] ["self","rooms"] (ak ff):=by ctx_has c
theorem kI:aA ["self","rooms","seen","cell","value"] ["self","rooms"] (ak eL):=by ctx_has c
theorem mM:aA ["wish"] ["wish"] (ak fO):=by ctx_has c
theorem nN:aA ["self","wish"] ["self","wish"] (ak fQ):=by ctx_has c
theorem jy:aA ["self","rooms"] ["self","rooms"] (ak cK):=by ctx_has c
theorem gf:aA ["self","rooms"] ["self","rooms"] (ak bN):=by ctx_has c
theorem mX:aA ["self","rooms"] ["self","rooms"] (ak fV):=by ctx_has c
theorem yb:aA ["wish"] ["wish"] (ak oa):=by ctx_has c
theorem vM:aA ["cells","rooms"] ["cells","rooms"] (ak jg):=by ctx_has c
theorem uq:aA ["rooms","cell","room","changed"] ["rooms","cell","room"] (ak jU):=by ctx_has c
theorem uN:aA ["value","room","first_room"] ["value","room","first_room"] (ak iU):=by ctx_has c
theorem rH:aA ["asked","cell","first","rooms","whole","widest","value","wider"] ["asked","cell","first","rooms"] (ak iH):=by ctx_has c
theorem xL:aA ["asked","cells","first","rooms","widest","cell"] ["asked","cells","first","rooms"] (ak nv):=by ctx_has c
theorem yf:aA ["cell","first","rooms"] ["cell","first","rooms"] (ak kB):=by ctx_has c
theorem qZ:aA ["cells","first","rooms","literals","cell"] ["cells","first","rooms"] (ak iI):=by ctx_has c
theorem mr:aA ["asked","cell","value","first","rooms","others","widest"] ["asked","cell","value","first","rooms"] (ak dI):=by ctx_has c
theorem vd:aA ["asked","first","now","cells","rooms","told","cell","value","alone"] ["asked","first","now"] (ak lA):=by ctx_has c
theorem uo:aA ["wish","first","now"] ["wish","first","now"] (ak jB):=by ctx_has c
theorem uv:aA ["_law_script","_law_start","_law_cells","_law_number","_law_cell"] ["_law_script","_law_start"] (ak gQ):=by ctx_has c
theorem tQ:aA ["_law_deal_here","_law_many","_law_number","_law_one","_law_other"] ["_law_deal_here","_law_many"] (ak jD):=by ctx_has c
theorem rN:aA ["_law_deal_here","_law_many","_law_letters","_law_names_here","_law_k","_law_word","_law_place"] ["_law_deal_here","_law_many"] (ak gh):=by ctx_has c
theorem tT:aA ["_law_deal_here","_law_value","_law_pool_here","_law_k"] ["_law_deal_here"] (ak jT):=by ctx_has c
theorem ro:aA ["_law_deal_here","_law_names_here","_law_pool_here","_law_most","_law_rooms_here","_law_name","_law_some_here"] ["_law_deal_here","_law_names_here","_law_pool_here","_law_most"] (ak gc):=by ctx_has c
theorem sZ:aA ["_law_deal_here","_law_things","_law_least","_law_left","_law_found","_law_k"] ["_law_deal_here","_law_things","_law_least"] (ak jQ):=by ctx_has c
theorem pS:aA ["_law_deal_here","_law_low","_law_high","_law_one","_law_other"] ["_law_deal_here","_law_low","_law_high"] (ak hV):=by ctx_has c
theorem vV:aA ["_law_deal_here","_law_some_here","_law_rooms_here","_law_terms","_law_low","_law_high","_law_name","_law_a"] ["_law_deal_here","_law_some_here","_law_rooms_here"] (ak gK):=by ctx_has c
theorem tF:aA ["_law_deal_here","_law_some_here","_law_pool_here","_law_rows_here","_law_k","_law_row"] ["_law_deal_here","_law_some_here","_law_pool_here"] (ak gW):=by ctx_has c
theorem wG:aA ["_law_deal_here","_law_some_here","_law_pool_here","_law_many","_law_steps","_law_state","_law_value","_law_ends"] ["_law_deal_here","_law_some_here","_law_pool_here"] (ak iS):=by ctx_has c
theorem uw:aA ["_law_deal_here","_law_names_here","_law_rooms_here","_law_pool_here","_law_sorts","_law_sort","_law_some_here","_law_low","_law_rest","_law_inner"] ["_law_deal_here","_law_names_here","_law_rooms_here","_law_pool_here","_law_sorts"] (ak fH):=by ctx_has c
theorem lW:aA ["_law_wish_here","_law_filling","_law_total","_law_values","_law_state","_law_value","_law_after"] ["_law_wish_here","_law_filling"] (ak cp):=by ctx_has c
theorem nX:aA ["_law_names_here","_law_rooms_here","_law_fillings_here","_law_name","_law_more","_law_filling","_law_value","_law_other"] ["_law_names_here","_law_rooms_here"] (ak fW):=by ctx_has c
theorem iA:aA ["_law_wish_here"] ["_law_wish_here"] (ak cj):=by ctx_has c
theorem vo:aA ["_law_deal_here","_law_rooms_here","_law_found","_law_name","_law_some_here"] ["_law_deal_here","_law_rooms_here"] (ak jn):=by ctx_has c
theorem wx:aA ["_law_wish_here","_law_now_here","_law_names_here","_law_there","_law_filling","_law_due_here","_law_name"] ["_law_wish_here","_law_now_here"] (ak gI):=by ctx_has c
theorem tR:aA ["_law_found","_law_due_here","_law_k"] ["_law_found","_law_due_here"] (ak ke):=by ctx_has c
theorem A1:aA ["_law_script","_law_deal_here","_law_names_here","_law_pool_here","_law_first","_law_wish_here","_law_now_here","_law_due_here","_law_handed","_law_found"] ["_law_script"] (ak rQ):=by ctx_has c
structure Txt (w:World) (K:fx) (mg:Str->Option Value):Prop where
 b_len:mg "len" = none
 b_max:mg "max" = none
 b_min:mg "min" = none
 b_sum:mg "sum" = none
 b_list:mg "list" = none
 b_reversed:mg "reversed" = none
 b_range:mg "range" = none
 b_isinstance:mg "isinstance" = none
 b_all:mg "all" = none
 b_any:mg "any" = none
 b_sorted:mg "sorted" = none
 b_dict:mg "dict" = none
 b_tuple:mg "tuple" = none
 b_bool:mg "bool" = none
 b_zip:mg "zip" = none
 b_set:mg "set" = none
 b_int:mg "int" = none
 b_enumerate:mg "enumerate" = none
 at_Unlike:mg "Unlike" = some (.ref (ap mg "Unlike"))
 cl_Unlike:Cls K (ap mg "Unlike")
 no_Unlike_wish:aP K (ap mg "Unlike") "wish"
 no_Unlike_cells:aP K (ap mg "Unlike") "cells"
 at_Many:mg "Many" = some (.ref (ap mg "Many"))
 cl_Many:Cls K (ap mg "Many")
 no_Many_wish:aP K (ap mg "Many") "wish"
 no_Many_among:aP K (ap mg "Many") "among"
 no_Many_cells:aP K (ap mg "Many") "cells"
 no_Many_low:aP K (ap mg "Many") "low"
 no_Many_high:aP K (ap mg "Many") "high"
 at_Sum:mg "Sum" = some (.ref (ap mg "Sum"))
 cl_Sum:Cls K (ap mg "Sum")
 no_Sum_wish:aP K (ap mg "Sum") "wish"
 no_Sum_terms:aP K (ap mg "Sum") "terms"
 no_Sum_low:aP K (ap mg "Sum") "low"
 no_Sum_high:aP K (ap mg "Sum") "high"
 at_Table:mg "Table" = some (.ref (ap mg "Table"))
 cl_Table:Cls K (ap mg "Table")
 no_Table_wish:aP K (ap mg "Table") "wish"
 no_Table_cells:aP K (ap mg "Table") "cells"
 no_Table_rows:aP K (ap mg "Table") "rows"
 at_Way:mg "Way" = some (.ref (ap mg "Way"))
 cl_Way:Cls K (ap mg "Way")
 no_Way_wish:aP K (ap mg "Way") "wish"
 no_Way_cells:aP K (ap mg "Way") "cells"
 no_Way_ends:aP K (ap mg "Way") "ends"
 no_Way_leads:aP K (ap mg "Way") "leads"
 at_Behind:mg "Behind" = some (.ref (ap mg "Behind"))
 cl_Behind:Cls K (ap mg "Behind")
 no_Behind_wish:aP K (ap mg "Behind") "wish"
 no_Behind_cells:aP K (ap mg "Behind") "cells"
 no_Behind_gap:aP K (ap mg "Behind") "gap"
 at_Same:mg "Same" = some (.ref (ap mg "Same"))
 cl_Same:Cls K (ap mg "Same")
 no_Same_wish:aP K (ap mg "Same") "wish"
 no_Same_cell:aP K (ap mg "Same") "cell"
 no_Same_among:aP K (ap mg "Same") "among"
 no_Same_inner:aP K (ap mg "Same") "inner"
 at_Wish:mg "Wish" = some (.ref (ap mg "Wish"))
def bC (m B n:Int) (l:Addr):List (Key × V):=[(fy "mixed",.int m),(fy "seed",.int B),(fy "number",.int n),(fy "left",.ref l)]
structure aN (H:Hp) (d l:Addr):Prop where
 ex : ∃(m sd n:Int) (xs:List Int),H d<*(bC m sd n l)/\H l*>(xs.map V.int)/\0<=n/\(∀x∈xs,0<=x)/\0<=sd/\sd < 2147483648/\xs.length<=63
def But (d l:Addr) (H H':Hp):Prop:=∀b o,b≠d->b≠l->H b=some o->H' b=some o
theorem Gi : ¬ ((fy (b_ "mixed"):Key)=fy (b_ "seed")):=by decide+kernel
theorem GH : ¬ ((fy (b_ "mixed"):Key)=fy (b_ "number")):=by decide+kernel
theorem HQ : ¬ ((fy (b_ "mixed"):Key)=fy (b_ "left")):=by decide+kernel
theorem CY : ¬ ((fy (b_ "seed"):Key)=fy (b_ "number")):=by decide+kernel
theorem EW : ¬ ((fy (b_ "seed"):Key)=fy (b_ "left")):=by decide+kernel
theorem GI : ¬ ((fy (b_ "number"):Key)=fy (b_ "left")):=by decide+kernel
theorem sT (m B n:Int) (l:Addr):bQ (bC m B n l) (fy "mixed")=some (.int m):=by unfold bC;rw[bB rfl]
theorem wA (m B n:Int) (l:Addr):bQ (bC m B n l) (fy "seed")=some (.int B):=by unfold bC;rw[aW Gi,bB rfl]
theorem lu (m B n:Int) (l:Addr):bQ (bC m B n l) (fy "number")=some (.int n):=by unfold bC;rw[aW GH,aW CY,bB rfl]
theorem uV (m B n:Int) (l:Addr):bQ (bC m B n l) (fy "left")=some (.ref l):=by unfold bC;rw[aW HQ,aW EW,aW GI,bB rfl]
theorem pY (m B n y:Int) (l:Addr):bm (bC m B n l) (fy "number") (.int y)=bC m B y l:=by
 unfold bm;rw[gF,lu];simp only[isSome_some,if_true,bC,i9,map_nil,if_neg GH,if_neg CY,if_neg (tj GI)]
theorem Bm (m B n y:Int) (l:Addr):bm (bC m B n l) (fy "seed") (.int y)=bC m y n l:=by
 unfold bm;rw[gF,wA];simp only[isSome_some,if_true,bC,i9,map_nil,if_neg Gi,if_neg (tj CY),if_neg (tj EW)]
theorem vL (m B n:Int) (l:Addr):(bC m B n l).length < ge:=by show 4 < ge;decide
theorem fB {i j:Int} (B:0<=i) (h1:i < 4294967296):Ag i j:=.inl ⟨(),()⟩
def xu:Sp:=λvs H Q _=>∃(d l:Addr) (m:Int),vs=[.ref d,.int m]/\aN H d l/\0 < m/\m < 18446744073709551616/\∀(r:Int) (H':Hp),0<=r->r < m->aN H' d l->But d l H H'->Q (.int r) H'
theorem yi (m B n:Int) (l:Addr):eJ [] (bC m B n l)=bC m B n l:=by
 have e1:bm ([]:List (Key × V)) (fy (b_ "mixed")) (.int m)=[(fy (b_ "mixed"),.int m)]:=eV _ eT
 have e2:bm [((fy (b_ "mixed"):Key),V.int m)] (fy (b_ "seed")) (.int B)=[(fy (b_ "mixed"),.int m),(fy (b_ "seed"),.int B)]:=eV _ (by rw[aW Gi,eT])
 have L:bm [((fy (b_ "mixed"):Key),V.int m),(fy (b_ "seed"),.int B)] (fy (b_ "number")) (.int n)=[(fy (b_ "mixed"),.int m),(fy (b_ "seed"),.int B),(fy (b_ "number"),.int n)]:=eV _ (by rw[aW GH,aW CY,eT])
 have F:bm [((fy (b_ "mixed"):Key),V.int m),(fy (b_ "seed"),.int B),(fy (b_ "number"),.int n)] (fy (b_ "left")) (.ref l)=bC m B n l:=eV _ (by rw[aW HQ,aW EW,aW GI,eT])
 show bm (bm (bm (bm ([]:List (Key × V)) (fy (b_ "mixed")) (.int m)) (fy (b_ "seed")) (.int B)) (fy (b_ "number")) (.int n)) (fy (b_ "left")) (.ref l)=_
 rw[e1,e2,L,F]
theorem uY (ns:List Int) (lo hi:Option Int) : ∃ms:List Int,gM (ns.map V.int) lo hi=ms.map V.int/\ms.length<=ns.length:=by
 unfold gM;refine⟨(ns.drop (HT.sIx (ns.map V.int).length 0 lo)).take (HT.sIx (ns.map V.int).length (ns.map V.int).length hi - HT.sIx (ns.map V.int).length 0 lo),by simp[map_take,map_drop],?_⟩
 rw[IZ,length_drop];omega
theorem Cb {x:V} (h:(ms.map V.int)[i]? = some x) : ∃v,x = .int v:=by
 rw[ei] at h;cases e:ms[i]? with
 | none=>rw[e] at h;cases h
 | some z=>rw[e] at h;exact⟨z,(e8 h).symm⟩
def GG (K:fx):Sp:=λvs H Q _=>∃(a:Addr) (ns:List Int) (st:Int),vs=[.ref a,.int st]/\SqL K H a (ns.map V.int)/\ns.length<=63/\0<=st/\st<=63/\∀(d l:Addr) (H':Hp),H d=none->H l=none->aN H' d l->au H H'->Q (.ref d) H'
theorem br {Q:VK} {E:XK} (D:aN H d l) (B:0 < m) (F:m < 18446744073709551616) (h : ∀(r:Int) (H':Hp),0<=r->r < m->aN H' d l->But d l H H'->Q (.int r) H'):xu [.ref d,.int m] H Q E:=⟨d,l,m,rfl,D,B,F,h⟩
theorem But.refl (H:Hp):But d l H H:=λ_ _ _ _ e=>e
theorem But.trans (a:But d l H H1) (b:But d l H1 H2):But d l H H2:=λc o h1 h2 e=>b c o h1 h2 (a c o h1 h2 e)
theorem But.new (a:But d l H H1) (hp:H1 p=none):But d l H (upd H1 p o):=λc u h1 h2 e=>by
 have e1:=a c u h1 h2 e;rw[ah (ao e1 hp)];exact e1
theorem But.same (a:But d l H H1) (s:au H1 H2):But d l H H2:=λc u h1 h2 e=>s c u (a c u h1 h2 e)
theorem aN.ne (D:aN H d l) (hp:H p=none):p≠d/\p≠l:=by
 obtain⟨m,F,n,xs,B,hl,_⟩:=D.ex;exact⟨(ao B hp).symm,(ao hl hp).symm⟩
theorem aN.same (D:aN H d l) (s:au H H'):aN H' d l:=by
 obtain⟨m,B,n,xs,F,hl,r⟩:=D.ex;exact⟨m,B,n,xs,s _ _ F,s _ _ hl,r⟩
theorem aN.new (D:aN H d l) (hp:H p=none):aN (upd H p o) d l:=D.same (au.upd0 hp)
theorem aN.put (D:aN H d l) (h1:p≠d) (h2:p≠l):aN (upd H p o) d l:=by
 obtain⟨m,B,n,xs,F,hl,r⟩:=D.ex;exact⟨m,B,n,xs,by rw[ah h1.symm];exact F,by rw[ah h2.symm];exact hl,r⟩
theorem But.put (a:But d l H H1) (hp:H p=none):But d l H (upd H1 p o):=λc u h1 h2 e=>by
 rw[ah (ao e hp)];exact a c u h1 h2 e
theorem But.free (a:But d l H H1) (D:aN H1 d l) (hp:H1 p=none):H p=none:=by
 obtain⟨h1,h2⟩:=D.ne hp;cases e:H p with
 | none=>rfl
 | some o=>rw[a p o h1 h2 e] at hp;cases hp
theorem yz {xs:List α} {i:Int} (B:0<=i) (h1:i < (xs.length:Int)) : ∃v,atI xs i=some v/\v∈xs:=by
 obtain⟨n,rfl⟩:=x4 B;have hn:n < xs.length:=()
 exact⟨xs[n],cg (by simp[hn]),v_ hn⟩
theorem lY {Q:VK} {E:XK} (D:aN H d l) (hp:H p=none) (L:0 < m) (Y:m < 18446744073709551616) (hm:m=(vs.length:Int)) (h : ∀(r:Int) (v:V) (H':Hp),v∈vs->atI vs r=some v->aN H' d l->But d l H H'->H' p*>vs->Q (.int r) H'):xu [.ref d,.int m] (upd H p (.lst vs)) Q E :=
 br (D.new hp) L Y λr H' r0 r1 F B=>by
  obtain⟨v,e,Z⟩:=yz (xs:=vs) r0 ()
  exact h r v H' Z e F (((But.refl H).new hp).trans B) (B p _ (D.ne hp).1 (D.ne hp).2 ae)
abbrev Dz0:=Fn P w K mg base "_law_draw" 1 ["_law_deal_here","_law_many"] (xu)
theorem tU (T:Txt w K mg) (L:FnL K mg "_law_draw" jD ["_law_deal_here","_law_many"]) : @Dz0 P w K mg base:=by
 ctx_has z tQ <;> obtain⟨d,l,m,rfl,D,m0,m1,k⟩:=h
 .rfl
 refine⟨_,(af (qY PassesOwn.never (PW.pt (wO (aG bM (bx hu (pvM 0) aJ) aj) (wO (aG oB (aF bO T.b_len (ac (bx hu (pvM 0) aJ) ag)) aj) (zd (aG bM (bx hu (pvM 0) aJ) aj))))) (ai (gV hu (pvM 0) aJ (A6 PySem.F.slot_list_pop PySem.F.type_list_pop Gc (bx hu (pvM 0) aJ)) rfl)))
  (af (aB 2 (bx hu (pvM 0) aJ))
  (af (bg (aG oB (pvM 2) aj) (af (gV hu (pvM 0) aJ (aR A3 (pvM 2) (pvM 1)) rfl)
  (ai (az (aR iJ (pvM 2) (pvM 1))))) aM)
  (af (aB 3 (aR iJ (aR bu (aR ig (bx hu (pvM 0) aJ) aj) aj) aj))
  (af (gV hu (pvM 0) aJ (aR iJ (aR bu (aR ig (pvM 3) aj) aj) aj) rfl)
  (af (aB 4 (aR iJ (aR ig (bx hu (pvM 0) aJ) (bx hu (pvM 0) aJ)) aj))
  (ai (az (aR iJ (aR bu (aR ig (aR iJ (aR ig (pvM 3) (pvM 3)) aj) aj) (pvM 4)) (pvM 1)))))))))),?_⟩
 obtain⟨Y,sd,n,xs,hd,hl,n0,hx,s0,s1,Z⟩:=D.ex;have dl:d≠l:=aU hd hl (by intro z;cases z)
 refine pV (λμ σ H'=>∃(n:Int) (xs:List Int),σ=[-d,some (.int m),none,none,none]/\H' d<*(bC Y sd n l)/\H' l*>(xs.map V.int)/\0<=n/\(∀x∈xs,0<=x)/\xs.length<=63/\But d l H H'/\μ=xs.length)
  (λσ H'=>∃(n:Int) (xs:List Int),σ=[-d,some (.int m),none,none,none]/\H' d<*(bC Y sd n l)/\H' l*>(xs.map V.int)/\0<=n/\(∀x∈xs,0<=x)/\xs.length<=63/\But d l H H')
  ⟨_,n,xs,rfl,hd,hl,n0,hx,Z,λb o _ _ e=>e,rfl⟩ ?_ ?_
 .rintro R hR μ σ H1 ⟨n1,xs1,rfl,hd1,hl1,n01,hx1,hlen1,bt,rfl⟩
  have hr:=hR _ _ ⟨n1,xs1,rfl,hd1,hl1,n01,hx1,hlen1,bt⟩;ctx_has v hd1 hl1 lu uV sT
  refine cO (λh1=>?_) (λ_=>hr)
  refine cO (λh2=>?_) (λ_=>hr)
  refine cO (λh3=>?_) (λ_=>hr)
  rcases Ki xs1 with rfl | ⟨ys,z,rfl⟩
  .simp at h2
  refine⟨λσ' H'=>σ'=[-d,some (.int m),none,none,none]/\H'=upd (upd H1 l (.lst (ys.map V.int))) d (.dK (bC Y sd z l)),?_,V.int z,by simp,bC Y sd n1 l,by rw[ah dl];exact hd1,vL _ _ _ _,by rw[pY];simp⟩
  rintro _ _ ⟨rfl,rfl⟩
  refine⟨ys.length,by simp,rfl,z,ae,ys,by rw[ah dl.symm,ae],hx1 z (by simp),λx hx=>hx1 x (by simp[hx]),by simp at hlen1;omega,λb o h1 h2 e=>?_,rfl⟩
  rw[ah h1,ah h2];exact bt b o h1 h2 e
 .rintro σ H1 ⟨n1,xs1,rfl,hd1,hl1,n01,hx1,hlen1,bt⟩
  ctx_has v hd1 hl1 lu uV sT wA vL pY Bm ae
  have ab : ∀(r B n':Int),0<=r->r < m->0<=n'->0<=B->B < 2147483648->Q (.int r) (upd H1 d (HO.dK (bC Y B n' l))):=λr B n' r0 r1 ad h0 h1 =>
   k r _ r0 r1 ⟨Y,B,n',xs1,ae,by rw[ah dl.symm];exact hl1,ad,hx1,h0,h1,hlen1⟩ λb o h1 h2 e=>by rw[ah h1];exact bt b o h1 h2 e
  refine cO (λh1=>?_) (λh1=>?_)
  .exact⟨⟨m0,m1⟩,m0,ab _ _ _ (Int.emod_nonneg _ ()) (Int.emod_lt_of_pos _ m0) (Int.ediv_nonneg () ()) s0 s1⟩
  .generalize hone:(sd * 48271+7919) % 2147483647=one
   have o0:0<=one:=()
   have o1:one < 2147483647:=()
   generalize ak:(one * 40692+104729) % 2147483399=aa;have p0:0<=aa:=()
   have p1:aa < 2147483399:=()
   have q0:=Int.emod_nonneg (one * one) (show(2147483629:Int)≠0 by decide)
   have q1:=Int.emod_lt_of_pos (one * one) (show(0:Int) < 2147483629 by decide)
   exact⟨fB s0 (),∅,fB o0 (),∅,fB p0 (),∅,fB o0 (),∅,fB q0 (),m0,
    ab _ _ _ (Int.emod_nonneg _ ()) (Int.emod_lt_of_pos _ m0) n01 p0 ()⟩
abbrev Dz1:=Fn P w K mg base "_law_deal" 1 ["_law_script","_law_start"] (GG K)
theorem tZ (T:Txt w K mg) (L:FnL K mg "_law_deal" gQ ["_law_script","_law_start"]) : @Dz1 P w K mg base:=by
 ctx_has z uv <;> obtain⟨a,ns,st,rfl,hS,aw,a7,a0,k⟩:=h
 .rfl
 refine⟨_,(af (fG 2 (N:=["_law_cell"]) (nt:=1) (js:=[]) (aH ["_law_script","_law_start","_law_cells","_law_number","_law_cell"] (ak gQ).names) (fX K (cW Hc (pvM 0) (dF (pvM 1)) (dF aj))) (ay 0) aQ bR (aF (sP rfl) T.b_max (ac (pvM 0) (ac (aR jJ aj (pvM 0)) ag))))
  (af (aB 3 (aR bu aj (pvM 1)))
  (af (bp (fX K (pvM 2)) (ay 4) (ai (aB 3 (aR iJ (aR bu (aR ig (pvM 3) aj) (pvM 4)) aj))))
  (ai (az (tN (io aJ (aR iJ (aF (qv rfl) T.b_sum (ac (cW Hc (pvM 0) fe (dF aj)) ag)) aj) (io aJ (pvM 3) (io aJ aj (io aJ (qW rfl rfl T.b_list rfl T.b_reversed (pvM 2)) tG)))) rfl rfl (by nofun) ∅)))))),?_⟩
 ctx_has v
 refine⟨_,hS,λp hp=>⟨_,ae,λD hD=>?_⟩⟩
 have pD:D≠p:=by rintro rfl;rw[ae] at hD;cases hD
 obtain⟨ms,aq,ax⟩:=uY ns (some st) (some 63);rw[aq] at hD ⊢;rw[ah pD] at hD;refine cM ck (λi ys H2=>∃cs:List Int,ys=cs.map V.int/\cs.length=i/\(∀x∈cs,0<=x)/\H2 p*>(ms.map V.int)/\H2 D*>ys/\au H H2)
  ⟨[],rfl,rfl,by simp,by rw[ah pD.symm,ae],ae,(au.upd0 hp).upd_new (by rw[ah pD];exact hD)⟩ (λi ys H2 ab=>by obtain⟨_,_,_,_,h,_⟩:=ab;exact(.of h)) ?_ ?_
 .rintro i x ys H2 hi F ⟨cs,rfl,rfl,hc,h1,h2,sm⟩
  obtain⟨v,rfl⟩:=Cb F;ctx_has v h2
  have hi:cs.length < 63:=by simp at hi;omega
  refine⟨by simp;exact aE (),cs++[if 0 - v > v then 0 - v else v],by simp,by simp,λx F=>?_,by rw[ah pD.symm];exact h1,ae,λb o e=>?_⟩
  .rcases ja.mp F with q | q
   .exact hc x q
   .rw[e_.mp q];split <;> omega
  .rw[ah (ao e hD)];exact sm b o e
 .rintro ys H2 ⟨cs,rfl,hc,hpos,h1,h2,sm⟩
  have ar:cs.length<=63:=by simp at hc;omega
  ctx_has v h2
  refine bS ck (λi σ H3=>∃(z:Int) (v:Option V),σ=[-a,some (.int st),-D,some (.int z),v]/\0<=z/\z < 2147483648/\H3=H2)
   ⟨_,_,rfl,(),(),rfl⟩ (λi σ H3 aa=>by obtain⟨_,_,_,_,_,h⟩:=aa;exact(by rw[h];exact .of h2)) ?_ ?_
  .rintro i x σ H3 hi F ⟨z,v,rfl,z0,z1,rfl⟩
   obtain⟨y,rfl⟩:=Cb F;ctx_has v
   exact⟨fB z0 (),∅,(),()⟩
  .rintro σ H3 ⟨z,v,rfl,z0,z1,rfl⟩
   ctx_has v h2 C2
   intro d hd;refine⟨_,(sm.upd_new hd).seq hS,λp2 Z=>?_⟩
   have Y:p2≠d:=by rintro rfl;rw[ae] at Z;cases Z
   have B:H3 p2=none:=by rwa [ah Y] at Z
   obtain⟨xs,am,_⟩:=uY ns none (some 1);rw[am];have ap:D≠p2:=ao h2 B
   have an:D≠d:=ao h2 hd
   refine⟨xs,.of ae,∅,_,by rw[ah ap,ah an];exact h2,λl hl=>?_⟩
   have l1:l≠p2:=by rintro rfl;rw[ae] at hl;cases hl
   have l2:l≠d:=by rintro rfl;rw[ah Y.symm,ae] at hl;cases hl
   have ad:H3 l=none:=by rwa [ah l1,ah l2] at hl
   refine⟨by rw[ah l2.symm,ah Y.symm,ae],bC (xs.sum % 2) z 0 l,rfl,by show 4<=15;decide,?_⟩
   rw[yi];refine k d l _ (sm.free hd) (sm.free ad) ⟨_,z,0,cs.reverse,ae,by rw[ah l2,ae,List.map_reverse],(),λx F=>hpos x (List.mem_reverse.mp F),z0,z1,by simpa using ar⟩ λb o e=>?_
   have e3:=sm b o e;rw[ah (ao e3 hd),ah (ao e3 ad),ah (ao e3 B),ah (ao e3 hd)];exact e3
def C6:Sp:=λvs H Q _=>∃(d l:Addr) (m:Int),vs=[.ref d,.int m]/\aN H d l/\0<=m/\m<=20/\∀(p:Addr) (ws:List Str) (H':Hp),H p=none->hE ws->ws.length=m.toNat->H' p*>(ws.map V.str)->aN H' d l->But d l H H'->Q (.ref p) H'
theorem BH {B:Str} (Y:fL B) {P:Str->Prop} (h:P (qL B)):B.length<=ge/\∃c,atI B.cps.toList 0=some c/\∃i rest,JL (b_ "abcdefghijklmnopqrstuvwxyz") { cps := #[c] } 0 (b_ "abcdefghijklmnopqrstuvwxyz").length 1=i :: rest/\(0:Int) < 26 /\
  (b_ "abcdefghijklmnopqrstuvwxyz").length<=ge/\∃c,atI (b_ "abcdefghijklmnopqrstuvwxyz").cps.toList (((i:Nat)+1:Int) % 26)=some c/\B.length<=ge/\(Str.mk #[c]).length+(H_ B (some 1) none).length<=ge/\P ((Str.mk #[c])++H_ B (some 1) none):=by
 obtain⟨c,cs,e,hc,aa,hl⟩:=Y.cons;have F:B.length<=ge:=x8 (aE (gt Y.le ∅))
 have hs:=Kc B (some 1) none;have hw:=Y.le;refine⟨F,c,by rw[e];exact vh _ _,_,_,rK hc,∅,pe,_,qe () (),F,x8 (aE (by show 1+_<=1000;omega)),?_⟩
 have Z:=hc;simp only[dC,k_,decide_eq_true_eq] at Z;have L:B.length=cs.length+1:=by rw[<- mh,e];rfl
 have key:(Str.mk #[97+((((c - 97:Nat):Int)+1) % 26).toNat])++H_ B (some 1) none=qL B:=by
  apply DO
  rw[li,ni,e,L];have e1:97+((((c - 97:Nat):Int)+1) % 26).toNat=wM c:=by unfold wM;omega
  have e2:HT.sIx (cs.length+1) 0 (some 1)=1:=by
   show(if (1:Int) < 0 then((1:Int)+((cs.length+1:Nat):Int)).toNat else min (1:Int).toNat (cs.length+1))=1
   rw[if_neg ∅]
   show min 1 (cs.length+1)=1
   omega
  rw[e1,e2,HT.sIx_none];simp[qL,e,Ec]
 rw[key];exact h
theorem jL {Dn:pI} {Z Y L:Option V} {wd:Str} (hw:fL wd) (ag:ws.length<=20) (hp:H p*>(ws.map V.str))
  (ac : ∀(B:Str) (H':Hp),fL B->B∉ws->B∉fT->au H H'->Dn.nx [-d,Z,some (.str (b_ "abcdefghijklmnopqrstuvwxyz")),-p,Y,some (.str B),L] H') :
  wY
   (tOr (rV (tOp (Ay false) (fh 5) (fh 3)))
    (rV (tOp (Ay false) (fh 5) (DR (kM (tC (V.str "in")) (kM (tC (V.str "from")) (kM (tC (V.str "to")) (kM (tC (V.str "end")) yl))))))))
   (zy (tOp rCS (tOp rIS (fh 2) (tOp (rI (λx j=>0 < j) λi j=>V.int (i % j)) (tOp (rI0 λi j=>V.int (i+j)) (tMS pL (fh 2) (kM (tOp rIS (fh 5) (tC (V.int 0))) yl)) (tC (V.int 1))) (tC (V.int 26))))
     (tSl Dj (fh 5) (wK (tC (V.int 1))) lG)) (gb 5))
   Dn [-d,Z,some (.str (b_ "abcdefghijklmnopqrstuvwxyz")),-p,Y,some (.str wd),L] H:=by
 obtain⟨ad,h0⟩:=At hw (F:=ws++fT) (by simp[fT];omega)
 refine pV (λμ σ H'=>∃B:Str,σ=[-d,Z,some (.str (b_ "abcdefghijklmnopqrstuvwxyz")),-p,Y,some (.str B),L]/\fL B/\qz μ B∉ws++fT/\au H H')
  (λσ H'=>∃B:Str,σ=[-d,Z,some (.str (b_ "abcdefghijklmnopqrstuvwxyz")),-p,Y,some (.str B),L]/\fL B/\B∉ws/\B∉fT/\au H H')
  ⟨ad,wd,rfl,hw,h0,au.refl _⟩ ?_ ?_
 .rintro R hR μ σ H1 ⟨w1,rfl,n1,f1,sm⟩
  have af:=sm _ _ hp;have step : ∀H2,au H H2->w1∈ws++fT->∀ σ' H',(σ'=[-d,Z,some (.str (b_ "abcdefghijklmnopqrstuvwxyz")),-p,Y,some (.str (qL w1)),L]/\H'=H2)->∃m',m' < μ/\∃B:Str,σ'=[-d,Z,some (.str (b_ "abcdefghijklmnopqrstuvwxyz")),-p,Y,some (.str B),L]/\fL B/\qz m' B∉ws++fT/\au H H':=λH2 aa ab=>by
   rintro _ _ ⟨rfl,rfl⟩
   cases μ with
   | zero=>exact absurd ab f1
   | succ μ=>exact⟨μ,Jd _,qL w1,rfl,Eu n1,f1,aa⟩
  ctx_has v af
  refine⟨rfl,zJ _,?_⟩
  rw[vK];refine cO (λh=>?_) (λh=>?_)
  .exact⟨_,step H1 sm (k4 _ (by simpa using h)),BH n1 (P:=λz=>[some (V.ref d),Z,some (.str (b_ "abcdefghijklmnopqrstuvwxyz")),-p,Y,some (.str z),L]=[some (V.ref d),Z,some (.str (b_ "abcdefghijklmnopqrstuvwxyz")),-p,Y,some (.str (qL w1)),L]/\H1=H1) ⟨rfl,rfl⟩⟩
  .refine⟨∅,λq hq=>⟨_,ae,rfl,by decide+kernel,?_⟩⟩
   have aa:au H (upd H1 q (.lst (fT.map V.str))):=sm.upd_new hq
   show(if inV (V.str w1) (fT.map V.str)=true then _ else _)
   rw[vK];refine cO (λh2=>?_) (λh2=>?_)
   .exact⟨_,step _ aa (m7 _ (by simpa using h2)),BH n1 (P:=λz=>[some (V.ref d),Z,some (.str (b_ "abcdefghijklmnopqrstuvwxyz")),-p,Y,some (.str z),L]=[some (V.ref d),Z,some (.str (b_ "abcdefghijklmnopqrstuvwxyz")),-p,Y,some (.str (qL w1)),L]/\_=_) ⟨rfl,rfl⟩⟩
   .exact hR _ _ ⟨w1,rfl,n1,by simpa using h,by simpa using h2,aa⟩
 .rintro σ H1 ⟨w1,rfl,n1,f1,f2,sm⟩
  exact ac w1 H1 n1 f1 f2 sm
abbrev Dz2:=Fn P w K mg base "_law_names" 2 ["_law_deal_here","_law_many"] (C6)
theorem re (T:Txt w K mg) (L:FnL K mg "_law_names" gh ["_law_deal_here","_law_many"]) (Fa : @Dz0 P w K mg base) : @Dz2 P w K mg base:=by
 ctx_has z rN <;> obtain⟨d,l,m,rfl,D,m0,m1,k⟩:=h
 .rfl
 refine⟨_,(af (aB 2 aJ)
  (af (aB 3 (bG ag))
  (af (bp (dE rfl T.b_range (ac (pvM 1) ag)) (ay 4) (af (aB 5 (Ev PySem.F.slot_str_join PySem.F.type_str_join DD aJ (ac (ba (N:=["_law_j","_law_letters","_law_deal_here"]) (nt:=1) (js:=[2,0]) (aH ["_law_deal_here","_law_many","_law_letters","_law_names_here","_law_k","_law_word","_law_place"] (ak gh).names) (dE rfl T.b_range (ac (aR bu aj (aw Fa (ac (pvM 0) (ac aj ag)))) ag)) (ay 0) aQ bR (aC DZ (pvM 1) (aw Fa (ac (pvM 2) (ac aj ag))))) ag)))
  (af (bg (PW.pt (wO (aG oB (pvM 4) aj) (zd (aG bM (aw Fa (ac (pvM 0) (ac aj ag))) aj)))) (af (aB 6 (aw Fa (ac (pvM 0) (ac (aF Ai T.b_len (ac (aC fI (pvM 3) (oY jO aj)) ag)) ag))))
  (ai (aB 5 (aR uE (aR uE (cW xw (aC fI (pvM 3) (oY jO aj)) fe (dF (pvM 6))) (aC DZ (pvM 5) aj)) (cW xw (aC fI (pvM 3) (oY jO aj)) (dF (aR bu (pvM 6) aj)) fe))))) aM)
  (af (qY PassesOwn.never (PW.pt (kJ (aG CV (pvM 5) (pvM 3)) (jM (aG CV (pvM 5) (bG (ac aJ (ac aJ (ac aJ (ac aJ ag))))))))) (ai (aB 5 (aR uE (aC DZ (pvM 2) (aR iJ (aR bu (Ev PySem.F.slot_str_index PySem.F.type_str_index AX (pvM 2) (ac (aC DZ (pvM 5) aj) ag)) aj) aj)) (cW xw (pvM 5) (dF aj) fe)))))
  (ai (bW (gN o7 o8 db (pvM 3) (ac (pvM 5) ag))))))))
  (ai (az (pvM 3)))))),?_⟩
 ctx_has v
 refine⟨∅,λp hp=>⟨(),(),?_⟩⟩
 have Y:=D.ne hp;refine bS cZ (λi σ H'=>∃(ws:List Str) (vk vw vp:Option V),σ=[-d,some (.int m),some (.str (b_ "abcdefghijklmnopqrstuvwxyz")),-p,vk,vw,vp]/\hE ws/\ws.length=i/\H' p*>(ws.map V.str)/\aN H' d l/\But d l H H')
  ⟨[],_,_,_,rfl,.nil,rfl,ae,D.new hp,(But.refl H).new hp⟩ (λ_ _ _ _=>o6) ?_ ?_
 .rintro i x σ H2 hi hx ⟨ws,vk,vw,vp,rfl,ok,hlen,h2,D2,B2⟩
  rw[aV] at hi;rw[jA hi] at hx;obtain rfl:=e8 hx
  ctx_has v
  refine br D2 ∅ ∅ λr H3 r0 r1 D3 B3=>?_
  ctx_has v
  refine⟨(),(),λq hq=>?_⟩
  have h3:=B3 p _ Y.1 Y.2 h2;have nq:=D3.ne hq;have ar:p≠q:=ao h3 hq
  refine cM cZ (λj ys H4=>∃cs:List Nat,ys=cs.map (λc=>V.str ⟨#[c]⟩)/\cs.length=j/\(∀c∈cs,dC c=true)/\H4 q*>ys/\H4 p*>(ws.map V.str)/\aN H4 d l/\But d l H H4)
   ⟨[],rfl,rfl,by simp,ae,by rw[ah ar];exact h3,D3.new hq,(B2.trans B3).new hq⟩ (λ_ _ _ _=>o6) ?_ ?_
  .rintro j x ys H4 hj hx ⟨cs,rfl,hcl,hcs,h4,h4p,D4,B4⟩
   ctx_has v
   rw[aV] at hj;refine br D4 ∅ ∅ λr5 H5 aq ax D5 B5=>?_
   have h5:=B5 q _ nq.1 nq.2 h4;have a7:=B5 p _ Y.1 Y.2 h4p;refine⟨r5,rfl,pe,_,qe aq ax,h5,by simp;exact aE (),cs++[97+r5.toNat],by simp,by simp;omega,λc hc=>?_,ae,by rw[ah ar];exact a7,D5.put nq.1 nq.2,(B4.trans B5).put (B2.free D2 ((B3.free D3 hq)))⟩
   rcases ja.mp hc with z | z
   .exact hcs c z
   .rw[e_.mp z]
    unfold dC;rw[k_,decide_eq_true_eq,decide_eq_true_eq];omega
  .rintro ys H4 ⟨cs,rfl,hcl,hcs,h4,h4p,D4,B4⟩
   rw[aV] at hcl;ctx_has v
   refine⟨cs.map λc=>⟨#[c]⟩,by rw[h4];simp,by rw[A8,show(b_ "").length=0 by decide+kernel];omega,?_⟩
   have hj:=yh cs;generalize Txt.join (b_ "") (cs.map λc=>Str.mk #[c])=wd at hj ⊢
   obtain⟨c0,cs',rfl⟩ : ∃c0 cs',cs=c0 :: cs':=by
    cases cs with
    | nil=>simp at hcl;omega
    | cons a b=>exact⟨a,b,rfl⟩
   have am:fL wd:=.of hj (hcs c0 (by simp)) (λx hx=>hcs x (by simp[hx])) (by simp at hcl;omega)
   have aa : ∀{w:Str},fL w->w.length<=ge:=λh=>x8 (aE (gt h.le ∅))
   have ab:ws.length<=20:=()
   have ad : ∀(B:Str) (H5 Z:Hp),aN H5 d l->But d l H H5->au H5 Z->fL B->B∉ws->B∉fT->∃an,hE an/\an.length=i+1/\upd Z p (HO.lst (ws.map V.str++[V.str B])) p=some (HO.lst (an.map V.str))/\aN (upd Z p (HO.lst (ws.map V.str++[V.str B]))) d l/\But d l H (upd Z p (HO.lst (ws.map V.str++[V.str B]))) :=
    λB H5 Z D5 B5 sm n f1 f2=>⟨ws++[B],ok.snoc n f1 f2,by simp[hlen],by rw[ae];simp,(D5.same sm).put Y.1 Y.2,(B5.same sm).put hp⟩
   refine cO (λh=>?_) (λh=>?_)
   .refine br D4 ∅ ∅ λr5 H5 aq ax D5 B5=>?_
    ctx_has v
    have h5:=B5 p _ Y.1 Y.2 h4p;refine cO (λh6=>?_) (λh6=>?_)
    .rcases Ki ws with rfl | ⟨ws0,z,rfl⟩
     .simp at hlen;omega
     have nz:fL z:=ok.nm z (by simp)
     refine⟨_,h5,_,by rw[JC,k9];exact qp _ _,z,rfl,aa nz,?_⟩
     refine br D5 (by have:=nz.pos;omega) (by have:=nz.le;omega) λr7 H7 a8 a0 D7 B7=>?_
     have h7:=B7 p _ Y.1 Y.2 h5;ctx_has v h7
     have ap:atI (List.map V.str (ws0.concat z)) (-1)=some (V.str z):=by rw[JC,k9];exact qp _ _
     have l1:=Kc z none (some r7);have l2:=Kc z (some (r7+1)) none;have l3:=nz.le;refine⟨_,ap,z,rfl,aa nz,aa am,c0,by rw[hj];exact vh _ _,x8 (aE (by show _+1<=1000;omega)),_,ap,z,rfl,aa nz,x8 (aE (by rw[qS];show _+1+_<=1000;omega)),?_⟩
     refine jL (Eb nz (hcs c0 (by simp)) a8 a0) ab h7 λB H8 n f1 f2 sm=>?_
     have h8:=sm _ _ h7;ctx_has v h8
     exact⟨by simp only[c_];exact aE (),ad B H7 H8 D7 ((B4.trans B5).trans B7) sm n f1 f2⟩
    .refine jL am ab h5 λB Z n f1 f2 sm=>?_
     have h6:=sm _ _ h5;ctx_has v h6
     exact⟨by simp;exact aE (),ad B H5 Z D5 (B4.trans B5) sm n f1 f2⟩
   .refine jL am ab h4p λB Z n f1 f2 sm=>?_
    have h6:=sm _ _ h4p;ctx_has v h6
    exact⟨by simp;exact aE (),ad B H4 Z D4 B4 sm n f1 f2⟩
 .rintro σ H2 ⟨ws,vk,vw,vp,rfl,ok,hlen,h2,D2,B2⟩
  ctx_has v
  rw[aV] at hlen;exact k p ws H2 hp ok hlen h2 D2 B2
def gy (p:Addr) (H H':Hp):Prop:=∀b o,b≠p->H b=some o->H' b=some o
def aX (H:Hp) (kvs:List (Key × V)) (cs:List Str) (rm:Str->List Int):Prop:=∀c∈cs,∃a,bQ kvs (fy c)=some (.ref a)/\H a>>((rm c).map V.int)
structure fi (H H':Hp):Prop where
 tup : ∀a vs,H a>>vs->H' a>>vs
 ins : ∀a C dx fs,H a=some (.ins C dx fs)->H' a=some (.ins C dx fs)
 dt : ∀a ks,H a=some (.dT ks)->H' a=some (.dT ks)
theorem au.keepTI (s:au H H'):fi H H':=⟨λa vs e=>s _ _ e,λa C dx fs e=>s _ _ e,λa ks e=>s _ _ e⟩
theorem But.keepTI (B:But d l H H') (D:aN H d l):fi H H':=by
 obtain⟨m,L,n,xs,F,hl,_⟩:=D.ex;exact⟨λa vs e=>B a _ (aU e F (by intro z;cases z)) (aU e hl (by intro z;cases z)) e,λa C dx fs e=>B a _ (aU e F (by intro z;cases z)) (aU e hl (by intro z;cases z)) e,λa ks e=>B a _ (aU e F (by intro z;cases z)) (aU e hl (by intro z;cases z)) e⟩
theorem ko {k:Key} {v:V} (h : ∀x∈kvs,de x.2=true) (F:de v=true) : ∀x∈bm kvs k v,de x.2=true:=by
 intro x B;unfold bm at B
 split at B
 .obtain⟨y,hy,rfl⟩:=g7.mp B
  split
  .exact F
  .exact h y hy
 .rcases ja.mp B with q | q
  .exact h x q
  .rw[e_.mp q];exact F
theorem aX.same (h:aX H kvs cs rm) (s : ∀a vs,H a>>vs->H' a>>vs):aX H' kvs cs rm:=λc B=>by
 obtain⟨a,e1,e2⟩:=h c B;exact⟨a,e1,s _ _ e2⟩
def bY {α:Type} (f:Str->α) (c:Str) (v:α):Str->α:=λx=>if x=c then v else f x
def okF (rm:Str->List Int) (cs:List Str) (g:Str->Int):Prop:=∀c∈cs,g c∈rm c
def cD (H:Hp) (x:V) (cs:List Str) (g:Str->Int):Prop:=∃a kvs,x = .ref a/\H a<*kvs/\(∀c∈cs,bQ kvs (fy c)=some (.int (g c)))/\kvs.length<=cs.length/\∀x∈kvs,de x.2=true
theorem cD.keep {x:V} (h:cD H x cs g) (k : ∀a kvs,H a<*kvs->H' a<*kvs):cD H' x cs g:=by
 obtain⟨a,kvs,e,h1,h2⟩:=h;exact⟨a,kvs,e,k _ _ h1,h2⟩
structure yY (H:Hp) (xs:List V) (cs:List Str) (rm:Str->List Int):Prop where
 sound : ∀x∈xs,∃g,okF rm cs g/\cD H x cs g
 comp : ∀g,okF rm cs g->∃x∈xs,cD H x cs g
def Db:Sp:=λvs H Q _=>∃(a r:Addr) (cs:List Str) (kvs:List (Key × V)) (rm:Str->List Int),vs=[.ref a,.ref r]/\H a*>(cs.map V.str)/\H r<*kvs/\aX H kvs cs rm/\cs.Nodup/\cs.length<=5/\(∀c∈cs,(rm c).length<=4) /\
 ∀(p:Addr) (xs:List V) (H':Hp),H p=none->H' p*>xs->yY H' xs cs rm->xs.length<=1024->au H H'->Q (.ref p) H'
theorem Hl (h:i<=5):4 ^ i<=1024:=gt (Nat.pow_le_pow_right ∅ h) ∅
theorem be (g:Str->α) (c:Str) (v:α):bY g c v c=v:=by unfold bY;rw[if_pos rfl]
theorem bZ (g:Str->α) {c x:Str} (v:α) (h:x≠c):bY g c v x=g x:=by unfold bY;rw[if_neg h]
theorem zx (g:Str->α) (c:Str):bY g c (g c)=g:=by
 funext x
 by_cases h:x=c
 .subst h;rw[be]
 .rw[bZ _ _ h]
theorem cD.put {q:Addr} (h : ∀x∈cs,bQ kvs (fy x)=some (.int (g x))) (B:kvs.length<=cs.length/\∀x∈kvs,de x.2=true) (Y:c∉cs) (F:H' q<*(bm kvs (fy c) (.int v))):cD H' (.ref q) (cs++[c]) (bY g c v):=by
 refine⟨q,_,rfl,F,λx L=>?_,gt (cQ _ _ _) (by have:=B.1;simp;omega),ko B.2 rfl⟩
 rw[jV]
 by_cases e:x=c
 .subst e;rw[if_pos rfl,be]
 .rw[if_neg (λz=>e (Kq z)),bZ _ _ e]
  rcases ja.mp L with z | z
  .exact h x z
  .exact absurd (e_.mp z) e
def iQ (kvs:List (Key × V)) (cs:List Str):Prop:=(kvs.map (·.1)).Nodup/\∀x∈kvs,∃c∈cs,x.1=fy c
theorem iQ.put {v:V} (h:iQ kvs cs) (hc:c∈cs') (sub : ∀x∈cs,x∈cs'):iQ (bm kvs (fy c) v) cs':=by
 unfold bm
 by_cases ha:(kvs.any λkv=>decide (kv.1=fy c))=true
 .rw[if_pos ha]
  have e:(kvs.map λkv=>if kv.1=fy c then(kv.1,v) else kv).map (·.1)=kvs.map (·.1):=by
   rw[l_];refine m9 λy _=>?_
   show(if y.1=fy c then(y.1,v) else y).1=y.1
   split <;> rfl
  refine⟨by rw[e];exact h.1,λx Y=>?_⟩
  have Z:x.1∈kvs.map (·.1):=by rw[<- e];exact g7.mpr ⟨x,Y,rfl⟩
  obtain⟨y,hy,F⟩:=g7.mp Z;obtain⟨B,h1,h2⟩:=h.2 y hy;exact⟨B,sub B h1,by rw[<- F];exact h2⟩
 .rw[if_neg ha]
  refine⟨?_,λx Y=>?_⟩
  .rw[k9]
   refine rb.mpr ⟨h.1,by simp,λa L b hb e=>?_⟩
   obtain⟨y,hy,F⟩:=g7.mp L;have aa:b=fy c:=by simpa using hb
   exact ha (w_.mpr ⟨y,hy,by simp[F,e,aa]⟩)
  .rcases ja.mp Y with q | q
   .obtain⟨B,h1,h2⟩:=h.2 x q
    exact⟨B,sub B h1,h2⟩
   .rw[e_.mp q];exact⟨c,hc,rfl⟩
def yX:Sp:=λvs H Q _=>∃(d l:Addr),vs=[.ref d]/\aN H d l/\∀(p:Addr) (ns:List Int) (H':Hp),H p=none->ns.length=5->ns.Pairwise (· < ·)->(∀x∈ns,-1000000<=x/\x<=1000000)->H' p*>(ns.map V.int)->aN H' d l->But d l H H'->Q (.ref p) H'
def Br:Sp:=λvs H Q _=>∃(d l a p:Addr) (ws:List Str) (ns:List Int) (m:Int),vs=[.ref d,.ref a,.ref p,.int m]/\aN H d l/\(a≠d/\a≠l)/\(p≠d/\p≠l)/\H a*>(ws.map V.str)/\ws.length<=45/\H p*>(ns.map V.int)/\ns.length=5/\ns.Pairwise (· < ·)/\1<=m/\m<=20 /\
 ∀(r:Addr) (kvs:List (Key × V)) (rm:Str->List Int) (H':Hp),H r=none->H' r<*kvs->aX H' kvs ws rm->(∀c∈ws,rm c≠[]/\((rm c).length:Int)<=m/\(rm c).Pairwise (· < ·)/\∀v∈rm c,v∈ns)->(∀x∈kvs,de x.2=true)->(kvs.length<=2 * ws.length/\iQ kvs ws)->aN H' d l->But d l H H'->Q (.ref r) H'
def Ge:Sp:=λvs H Q _=>∃(d l a:Addr) (m:Int) (xs:List V),vs=[.ref d,.ref a,.int m]/\aN H d l/\GM H a xs/\0<=m/\m<=xs.length/\xs.length<=60 /\
 ∀(p:Addr) (B rest:List V) (H':Hp),H p=none->(B++rest).Perm xs->m<=B.length->H' p>>B->aN H' d l->But d l H H'->Q (.ref p) H'
theorem lay_ints : ∀ns:List Int,q_ (ns.map y_)=true
 | []=>rfl
 | n :: ns=>by
  rw[i9];unfold q_;rw[lay_ints ns];rfl
theorem depth_ints : ∀ns:List Int,Jh (ns.map y_)=0
 | []=>rfl
 | n :: ns=>by
  rw[i9];unfold Jh;rw[depth_ints ns];rfl
theorem oE (ns:List Int):y4 (.list (ns.map y_)) (.list [])=decide (ns=[]):=by
 cases ns with
 | nil=>rfl
 | cons n ns=>simp[y4,Jn]
theorem aX.putG {t:Addr} (h:aX H kvs cs rm) (s : ∀a vs,H a>>vs->H' a>>vs) (B:H' t>>(ns.map V.int)) (sub : ∀x∈cs',x=c\/x∈cs) :
  aX H' (bm kvs (fy c) (.ref t)) cs' (bY rm c ns):=λx F=>by
 by_cases e:x=c
 .subst e
  exact⟨t,by rw[jV,if_pos rfl],by unfold bY;rw[if_pos rfl];exact B⟩
 .obtain⟨a,e1,e2⟩:=h x ((sub x F).resolve_left e)
  exact⟨a,by rw[jV,if_neg (λz=>e (Kq z))];exact e1,by unfold bY;rw[if_neg e];exact s _ _ e2⟩
theorem qG (f:α->V) (B:V->α) (hi : ∀x,B (f x)=x) {F rest:List V} {xs:List α} (h:(F++rest).Perm (xs.map f)) : ∃ys zs:List α,F=ys.map f/\(ys++zs).Perm xs:=by
 refine⟨F.map B,rest.map B,?_,?_⟩
 .rw[l_]
  have : ∀v∈F,f (B v)=v:=λv L=>by
   obtain⟨x,_,rfl⟩:=g7.mp (h.mem_iff.mp (k4 _ L));rw[hi]
  conv=>lhs;rw[<- map_id F]
  exact m9 λv L=>(this v L).symm
 .have:=h.map B
  rw[k9,l_] at this;have e:xs.map (B ∘ f)=xs:=by
   conv=>rhs;rw[<- map_id xs]
   exact m9 λx _=>hi x
  rw[e] at this;exact this
def IS:V->Str | .str s=>s | _ => ""
def DV:V->Int | .int i=>i | _=>0
theorem ua (T:Txt w K mg) (L:FnL K mg "_law_pool" jT ["_law_deal_here"]) (Fa : @Dz0 P w K mg base):Fn P w K mg base "_law_pool" 2 ["_law_deal_here"] (yX):=by
 ctx_has z tT <;> obtain⟨d,l,rfl,D,k⟩:=h
 .rfl
 refine⟨_,(af (aB 1 (aR jJ (aw Fa (ac (pvM 0) (ac aj ag))) aj))
  (af (bg (aG bM (aw Fa (ac (pvM 0) (ac aj ag))) aj) (ai (aB 1 (aR jJ (aw Fa (ac (pvM 0) (ac aj ag))) aj))) aM)
  (af (aB 2 (bG ag))
  (af (bp (dE rfl T.b_range (ac aj ag)) (ay 3) (af (bW (gN o7 o8 db (pvM 2) (ac (pvM 1) ag)))
  (ai (aB 1 (aR bu (aR bu (pvM 1) aj) (aC fI (bG (ac aj (ac (aw Fa (ac (pvM 0) (ac aj ag))) (ac aj ag)))) (aw Fa (ac (pvM 0) (ac aj ag)))))))))
  (ai (az (pvM 2))))))),?_⟩
 ctx_has v
 refine br D ∅ ∅ λr H1 r0 r1 D1 B1=>?_
 ctx_has v
 refine br D1 ∅ ∅ λr2 H2 am an D2 Z=>?_
 ctx_has v
 refine cO (λh=>?_) (λh=>?_)
 .refine br D2 ∅ ∅ λr3 H3 aa ah D3 B3=>?_
  have B3:=(B1.trans Z).trans B3;refine⟨_,rfl,∅,λp hp=>?_⟩
  have Y:=D3.ne hp;have fp:H p=none:=B3.free D3 hp
  refine⟨∅,∅,?_⟩
  refine bS cZ (λi σ H'=>∃(ns:List Int) (B:Int) (vk:Option V),σ=[-d,some (.int B),-p,vk]/\ns.length=i/\ns.Pairwise (· < ·)/\(∀x∈ns,x < B/\-1000000<=x/\x<=1000000)/\-999500<=B/\B<=999500+98 * (i:Int)/\H' p*>(ns.map V.int)/\aN H' d l/\But d l H H')
   ⟨[],_,_,rfl,rfl,.nil,by simp,(),(),ae,D3.new hp,B3.new hp⟩ (λ_ _ _ _=>o6) ?_ ?_
  .rintro i x σ H2 hi hx ⟨ns,B,vk,rfl,hlen,hpw,hall,lo0,lo1,h2,D2,Z⟩
   rw[aV] at hi;have ak:i < 5:=hi
   ctx_has v h2
   refine⟨by rw[c_];exact aE (),?_⟩
   refine br (D2.put Y.1 Y.2) ∅ ∅ λr3 H3 aa ah D3 B3=>?_
   refine⟨∅,λp2 ad=>?_⟩
   refine lY D3 ad ∅ ∅ rfl λr5 v H5 hv ha D5 B5 h5=>?_
   have ab:=B5 p _ Y.1 Y.2 (B3 p _ Y.1 Y.2 ae);obtain⟨y,rfl,y0,y1⟩ : ∃y:Int,v = .int y/\0<=y/\y<=97:=by
    simp only[i6,m4,or_false] at hv;rcases hv with rfl | rfl | rfl
    .exact⟨0,rfl,∅,∅⟩
    .exact⟨r3,rfl,aa,()⟩
    .exact⟨97,rfl,∅,∅⟩
   ctx_has v h5 ha
   refine⟨ns++[B],by simp;omega,?_,λz hz=>?_,(),(),by rw[ab];simp,D5,((Z.put fp).trans B3).trans B5⟩
   .rw[List.pairwise_append]
    exact⟨hpw,List.pairwise_singleton _ _,λx hx y hy=>by rw[e_.mp hy];exact(hall x hx).1⟩
   .rcases ja.mp hz with q | q
    .have:=hall z q;omega
    .rw[e_.mp q];omega
  .rintro σ H2 ⟨ns,B,vk,rfl,hlen,hpw,hall,lo0,lo1,h2,D2,Z⟩
   rw[aV] at hlen;ctx_has v
   exact k p ns H2 fp hlen hpw (λx hx=>(hall x hx).2) h2 D2 Z
 .have Z:=B1.trans Z
  refine⟨∅,λp hp=>?_⟩
  have Y:=D2.ne hp;have fp:H p=none:=Z.free D2 hp
  refine⟨∅,∅,?_⟩
  refine bS cZ (λi σ H'=>∃(ns:List Int) (B:Int) (vk:Option V),σ=[-d,some (.int B),-p,vk]/\ns.length=i/\ns.Pairwise (· < ·)/\(∀x∈ns,x < B/\-1000000<=x/\x<=1000000)/\-999500<=B/\B<=999500+98 * (i:Int)/\H' p*>(ns.map V.int)/\aN H' d l/\But d l H H')
   ⟨[],_,_,rfl,rfl,.nil,by simp,(),(),ae,D2.new hp,Z.new hp⟩ (λ_ _ _ _=>o6) ?_ ?_
  .rintro i x σ H2 hi hx ⟨ns,B,vk,rfl,hlen,hpw,hall,lo0,lo1,h2,D2,Z⟩
   rw[aV] at hi;have ak:i < 5:=hi
   ctx_has v h2
   refine⟨by rw[c_];exact aE (),?_⟩
   refine br (D2.put Y.1 Y.2) ∅ ∅ λr3 H3 aa ah D3 B3=>?_
   refine⟨∅,λp2 ad=>?_⟩
   refine lY D3 ad ∅ ∅ rfl λr5 v H5 hv ha D5 B5 h5=>?_
   have ab:=B5 p _ Y.1 Y.2 (B3 p _ Y.1 Y.2 ae);obtain⟨y,rfl,y0,y1⟩ : ∃y:Int,v = .int y/\0<=y/\y<=97:=by
    simp only[i6,m4,or_false] at hv;rcases hv with rfl | rfl | rfl
    .exact⟨0,rfl,∅,∅⟩
    .exact⟨r3,rfl,aa,()⟩
    .exact⟨97,rfl,∅,∅⟩
   ctx_has v h5 ha
   refine⟨ns++[B],by simp;omega,?_,λz hz=>?_,(),(),by rw[ab];simp,D5,((Z.put fp).trans B3).trans B5⟩
   .rw[List.pairwise_append]
    exact⟨hpw,List.pairwise_singleton _ _,λx hx y hy=>by rw[e_.mp hy];exact(hall x hx).1⟩
   .rcases ja.mp hz with q | q
    .have:=hall z q;omega
    .rw[e_.mp q];omega
  .rintro σ H2 ⟨ns,B,vk,rfl,hlen,hpw,hall,lo0,lo1,h2,D2,Z⟩
   rw[aV] at hlen;ctx_has v
   exact k p ns H2 fp hlen hpw (λx hx=>(hall x hx).2) h2 D2 Z
abbrev Dz3:=Fn P w K mg base "_law_rooms" 2 ["_law_deal_here","_law_names_here","_law_pool_here","_law_most"] (Br)
theorem rM (T : Txt w K mg) (L:FnL K mg "_law_rooms" gc ["_law_deal_here","_law_names_here","_law_pool_here","_law_most"]) (Fa : @Dz0 P w K mg base) : @Dz3 P w K mg base:=by
  ctx_has z ro <;> obtain⟨d,l,a,p,ws,ns,m,rfl,D,na,np,ha,bx,hp,b0,bi,m0,m1,k⟩:=h
  . rfl
  refine⟨_,(af (aB 4 fF)
    (af (bp (fX K (pvM 1)) (ay 5) (af (fG 6 (N:=["_law_value","_law_deal_here"]) (nt:=1) (js:=[0]) (aH ["_law_deal_here","_law_names_here","_law_pool_here","_law_most","_law_rooms_here","_law_name","_law_some_here"] (ak gc).names) (fX K (pvM 2)) (ay 0) aQ (dn (aG bM (aw Fa (ac (pvM 1) (ac aj ag))) aj)) (pvM 0))
    (af (gV hu (pvM 4) (pvM 5) (aY cq T.b_tuple (ac (cW IO (pvM 6) fe (dF (pvM 3))) ag)) rfl)
    (ai (bg (aG (qk (pR hr)) (pvM 6) (bG ag)) (ai (gV hu (pvM 4) (pvM 5) (bT (ac (aC fI (pvM 2) (aw Fa (ac (pvM 0) (ac aj ag)))) ag)) rfl)) aM)))))
    (ai (az (pvM 4))))),?_⟩
  ctx_has v
  intro q hq;have nq:=D.ne hq;have aq:a≠q:=ao ha hq
  have pq:p≠q:=ao hp hq
  refine⟨_,by rw[ah aq];exact ha,?_⟩
  refine bS ck (λi σ H'=>∃(kvs:List (Key × V)) (rm:Str->List Int) (v5 v6:Option V),σ=[-d,-a,-p,some (.int m),-q,v5,v6]/\H' q<*kvs/\aX H' kvs (ws.take i) rm /\
      (∀c∈ws.take i,rm c≠[]/\((rm c).length:Int)<=m/\(rm c).Pairwise (· < ·)/\∀v∈rm c,v∈ns)/\(∀x∈kvs,de x.2=true)/\(kvs.length<=2 * i/\iQ kvs (ws.take i))/\H' a*>(ws.map V.str)/\H' p*>(ns.map V.int)/\aN H' d l/\But d l H H')
    ⟨[],λ_=>[],_,_,rfl,ae,λc hc=>by simp at hc,λc hc=>by simp at hc,by simp,⟨x5 _,by simp,λx F=>by simp at F⟩,by rw[ah aq];exact ha,by rw[ah pq];exact hp,D.new hq,(But.refl H).new hq⟩ (λi σ H' bd=>by obtain⟨_,_,_,_,_,_,_,_,_,_,h,_⟩:=bd;exact(.of h)) ?_ ?_
  . rintro i x σ H2 hi F ⟨kvs,rm,v5,v6,rfl,h2,a8,ad,aF,⟨aS,a0⟩,bb,am,D2,B2⟩
    rw[c_] at hi;obtain⟨c,bv,rfl⟩ : ∃c,ws[i]? = some c/\V.str c=x:=by
      rw[ei] at F;cases e:ws[i]? with
      | none=>rw[e] at F;cases F
      | some nm=>rw[e] at F;exact⟨nm,rfl,e8 F⟩
    have aL:ws.take (i+1)=ws.take i++[c]:=by rw[i7,bv];rfl
    have an : ∀x∈ws.take (i+1),x=c\/x∈ws.take i:=λx F=>by
      rw[aL] at F;rcases ja.mp F with z | z
      . exact .inr z
      . exact .inl (e_.mp z)
    ctx_has v am
    intro g hg;have ng:=D2.ne hg;have fg:H g=none:=B2.free D2 hg
    refine cM ck (λj ys Y=>∃B:List Int,ys=B.map V.int/\B.Sublist (ns.take j)/\Y g*>ys/\Y p*>(ns.map V.int)/\(∀b o,b≠d->b≠l->H2 b=some o->Y b=some o)/\aN Y d l)
      ⟨[],rfl,by simp,ae,by rw[ah (ao am hg)];exact am,λb o _ _ e=>by rw[ah (ao e hg)];exact e,D2.new hg⟩ (λj ys Y bc=>by obtain⟨_,_,_,_,h,_⟩:=bc;exact(.of h)) ?_ ?_
    . rintro j y ys Y hj hy ⟨B,rfl,Z,a7,aO,k5,D5⟩
      rw[c_] at hj;obtain⟨z,hz,rfl⟩ : ∃z,ns[j]? = some z/\V.int z=y:=by
        rw[ei] at hy;cases e:ns[j]? with
        | none=>rw[e] at hy;cases hy
        | some nm=>rw[e] at hy;exact⟨nm,rfl,e8 hy⟩
      have en:ns.take (j+1)=ns.take j++[z]:=by rw[i7,hz];rfl
      have b2:B.length<=5:=gt Z.length_le (by simp;omega)
      ctx_has v
      refine br D5 ∅ ∅ λr6 H6 bw b3 D6 B6=>?_
      have ab:=B6 g _ ng.1 ng.2 a7;have aa:=B6 p _ np.1 np.2 aO;ctx_has v
      refine cO (λbk=>?_) (λbk=>?_)
      . refine⟨ab,by rw[c_];exact aE (),B++[z],by simp,by rw[en];exact Z.append_right [z],ae,by rw[ah (ao am hg)];exact aa,λb o h1 h2 e=>by rw[ah (ao e hg)];exact B6 b o h1 h2 (k5 b o h1 h2 e),D6.put ng.1 ng.2⟩
      . exact⟨B,rfl,by rw[en];exact Z.trans (List.sublist_append_left _ _),ab,aa,λb o h1 h2 e=>B6 b o h1 h2 (k5 b o h1 h2 e),D6⟩
    . rintro ys Y ⟨B,rfl,Z,a7,aO,k5,D5⟩
      rw[c_] at Z;rw[ki] at Z;ctx_has v a7
      intro u bq;refine⟨_,ae,λt ht=>?_⟩
      obtain⟨mn,rfl⟩:=x4 (show 0<=m by omega)
      rw[yq] at ht ⊢;have ut:u≠t:=by rintro rfl;rw[ae] at ht;cases ht
      have bh:Y t=none:=by rwa [ah ut.symm] at ht
      have s5:au Y (upd (upd Y u (.lst ((B.take mn).map V.int))) t (.tup ((B.take mn).map V.int))):=(au.upd0 bq).upd_new ht
      have bf:=k5 q _ nq.1 nq.2 h2;have bs:=k5 a _ na.1 na.2 bb;refine⟨kvs,s5 _ _ bf,aE (),?_⟩
      have tq:t≠q:=(ao bf bh).symm
      have aV : ∀b vs,H2 b>>vs->upd (upd (upd Y u (.lst ((B.take mn).map V.int))) t (.tup ((B.take mn).map V.int))) q (.dK (bm kvs (fy c) (.ref t))) b>>vs:=λb vs e=>by
        obtain⟨m',sd,n',bo,aD,aP,_⟩:=D2.ex;rw[ah (aU e h2 (by intro z;cases z))]
        exact s5 _ _ (k5 b _ (aU e aD (by intro z;cases z)) (aU e aP (by intro z;cases z)) e)
      have aJ : ∀b o,b≠q->Y b=some o->upd (upd (upd Y u (.lst ((B.take mn).map V.int))) t (.tup ((B.take mn).map V.int))) q (.dK (bm kvs (fy c) (.ref t))) b=some o:=λb o hb e=>by rw[ah hb];exact s5 _ _ e
      have gq:g≠q:=(ao h2 hg).symm
      have ab:=aJ g _ gq a7;have aI:=aJ a _ aq bs;have aa:=aJ p _ pq aO;have D6:=(D5.same s5).put (o:=.dK (bm kvs (fy c) (.ref t))) nq.1 nq.2;have B5:But d l H Y:=λb o h1 h2 e=>k5 b o h1 h2 (B2 b o h1 h2 e)
      have B6:=(B5.same s5).put (o:=.dK (bm kvs (fy c) (.ref t))) hq;have r6:aX (upd (upd (upd Y u (.lst ((B.take mn).map V.int))) t (.tup ((B.take mn).map V.int))) q (.dK (bm kvs (fy c) (.ref t)))) (bm kvs (fy c) (.ref t)) (ws.take (i+1)) (bY rm c (B.take mn)):=a8.putG aV (by rw[ah tq];exact ae) an
      have ap:upd (upd (upd Y u (.lst ((B.take mn).map V.int))) t (.tup ((B.take mn).map V.int))) q (.dK (bm kvs (fy c) (.ref t))) q<*(bm kvs (fy c) (.ref t)):=ae
      have bu:=cQ kvs (fy c) (.ref t);have aR : ∀x∈ws.take i,x∈ws.take (i+1):=λx F=>by rw[aL];exact k4 _ F
      have a9:c∈ws.take (i+1):=by rw[aL];simp
      have ar:iQ (bm kvs (fy c) (V.ref t)) (ws.take (i+1)):=a0.put a9 aR
      have aK:=ko (k:=fy c) (v:=V.ref t) aF rfl;generalize bz:upd (upd (upd Y u (.lst ((B.take mn).map V.int))) t (.tup ((B.take mn).map V.int))) q (.dK (bm kvs (fy c) (.ref t)))=H6 at ab aI aa D6 B6 r6 ap ⊢;generalize bm kvs (fy c) (.ref t)=aZ at r6 ap bu ar aK ⊢;refine⟨∅,λe0 aA=>?_⟩
      have s7:au H6 (upd H6 e0 (.lst [])):=au.upd0 aA
      refine⟨.list (B.map y_),.list [],.lst (.of (s7 _ _ ab)) (fR.ints B),.lst (.of ae) .nil,by unfold JB;exact lay_ints B,rfl,by unfold Kd;rw[depth_ints];decide,?_⟩
      rw[oE];have D7:=D6.new (o:=.lst []) aA;have B7:=B6.new (o:=.lst []) aA;refine⟨_,rfl,cO (λba=>?_) (λba=>?_)⟩
      . refine br D7 ∅ ∅ λr8 H8 be b1 D8 B8=>?_
        obtain⟨z,aW,bj⟩:=yz (xs:=ns) be ()
        have bn:atI (ns.map V.int) r8=some (V.int z):=by
          obtain⟨n,rfl⟩:=x4 be;have hn:n < ns.length:=()
          have e1:ns[n]? = some z:=by
            have:=cg (xs:=ns) (j:=n) (v:=ns[n]) (by simp)
            rw[this] at aW;rw[<- aW];simp
          exact cg (by rw[ei,e1];rfl)
        refine⟨r8,rfl,_,B8 p _ np.1 np.2 (s7 _ _ aa),_,bn,∅,λt2 ax=>?_⟩
        have aT:=B8 q _ nq.1 nq.2 (s7 _ _ ap);have q2:t2≠q:=(ao aT ax).symm
        have s9:au H8 (upd H8 t2 (.tup [V.int z])):=au.upd0 ax
        refine⟨aZ,s9 _ _ aT,aE (),?_⟩
        have kt : ∀b vs,H6 b>>vs->upd (upd H8 t2 (.tup [V.int z])) q (.dK (bm aZ (fy c) (.ref t2))) b>>vs:=λb vs e=>by
          rw[ah (aU e ap (by intro z;cases z))]
          obtain⟨m',sd,n',bo,aD,aP,_⟩:=D6.ex;exact s9 _ _ (B8 b _ (aU e aD (by intro z;cases z)) (aU e aP (by intro z;cases z)) (s7 _ _ e))
        refine⟨_,ae,bY (bY rm c (B.take mn)) c [z],r6.putG (ns:=[z]) kt (by rw[ah q2];exact ae) (λx F=>.inr F),λx F=>?_,ko aK rfl,gt (cQ _ _ _) (),ar.put a9 λ_ h=>h,?_,?_,(D8.new ax).put nq.1 nq.2,((B7.trans B8).new ax).put hq⟩
        . by_cases e:x=c
          . subst e
            unfold bY;rw[if_pos rfl];exact⟨by simp,by simp;omega,by simp,λv hv=>by rw[e_.mp hv];exact bj⟩
          . unfold bY
            rw[if_neg e,if_neg e];exact ad x ((an x F).resolve_left e)
        . rw[ah aq];exact s9 _ _ (B8 a _ na.1 na.2 (s7 _ _ aI))
        . rw[ah pq];exact s9 _ _ (B8 p _ np.1 np.2 (s7 _ _ aa))
      . refine⟨_,s7 _ _ ap,bY rm c (B.take mn),r6.same (λa vs e=>s7 _ _ e),λx F=>?_,aK,(),ar,s7 _ _ aI,s7 _ _ aa,D7,B7⟩
        by_cases e:x=c
        . subst e
          unfold bY;rw[if_pos rfl];have bt:B≠[]:=by simpa using ba
          refine⟨?_,by simp;omega,?_,λv hv=>Z.subset (F_ hv)⟩
          . cases B with
            | nil=>exact absurd rfl bt
            | cons y ys =>
              obtain⟨k',rfl⟩ : ∃k',mn=k'+1:=⟨mn - 1,()⟩
              simp
          . exact(bi.sublist Z).sublist (JD _ _)
        . unfold bY
          rw[if_neg e];exact ad x ((an x F).resolve_left e)
  . rintro σ H2 ⟨kvs,rm,v5,v6,rfl,h2,a8,ad,aF,⟨aS,a0⟩,bb,am,D2,B2⟩
    rw[c_,ki] at a8 ad;rw[c_] at aS;rw[c_,ki] at a0;ctx_has v
    exact k q kvs rm H2 hq h2 a8 ad aF ⟨aS,a0⟩ D2 B2
abbrev Dz4:=Fn P w K mg base "_law_some" 2 ["_law_deal_here","_law_things","_law_least"] (Ge)
theorem um (T:Txt w K mg) (L:FnL K mg "_law_some" jQ ["_law_deal_here","_law_things","_law_least"]) (Fa : @Dz0 P w K mg base) : @Dz4 P w K mg base:=by
 ctx_has z sZ <;> obtain⟨d,l,a,m,xs,rfl,D,ha,m0,m1,aq,k⟩:=h
 .rfl
 refine⟨_,(af (aB 3 (aY xb T.b_list (ac (pvM 1) ag)))
  (af (aB 4 (bG ag))
  (af (bp (dE rfl T.b_range (ac (aR bu (pvM 2) (aw Fa (ac (pvM 0) (ac (aR bu (aR jJ (aF bO T.b_len (ac (pvM 3) ag)) (pvM 2)) aj) ag)))) ag)) (ay 5) (ai (bW (gN o7 o8 db (pvM 4) (ac (gN PySem.F.slot_list_pop PySem.F.type_list_pop BA (pvM 3) (ac (aw Fa (ac (pvM 0) (ac (aF bO T.b_len (ac (pvM 3) ag)) ag))) ag)) ag)))))
  (ai (az (aY cq T.b_tuple (ac (pvM 4) ag))))))),?_⟩
 ctx_has v
 refine⟨xs,ha,λu Y=>?_⟩
 have nu:=D.ne Y;refine⟨∅,λg hg=>?_⟩
 have ug:u≠g:=by rintro rfl;rw[ae] at hg;cases hg
 have ab:H g=none:=by rwa [ah ug.symm] at hg
 have ng:=D.ne ab;have D1:=(D.new (o:=.lst xs) Y).new (o:=.lst []) hg;have Z:upd (upd H u (.lst xs)) g (.lst []) u*>xs:=by rw[ah ug];exact ae
 have aa:upd (upd H u (.lst xs)) g (.lst []) g*>[]:=ae
 have B1:But d l H (upd (upd H u (.lst xs)) g (.lst [])):=((But.refl H).new Y).new hg
 generalize upd (upd H u (.lst xs)) g (.lst [])=H1 at D1 Z aa B1 ⊢;ctx_has v Z
 refine br D1 () () λr H2 r0 r1 D2 B2=>?_
 refine⟨_,rfl,(),(),?_⟩
 refine bS cZ (λi σ H'=>∃(B rest:List V) (v5:Option V),σ=[-d,-a,some (.int m),-u,-g,v5]/\B.length=i/\(B++rest).Perm xs/\H' g*>B/\H' u*>rest/\aN H' d l/\But d l H H')
  ⟨[],xs,_,rfl,rfl,.refl _,B2 g _ ng.1 ng.2 aa,B2 u _ nu.1 nu.2 Z,D2,B1.trans B2⟩ (λ_ _ _ _=>o6) ?_ ?_
 .rintro j y σ H5 hj hy ⟨B,rest,v5,rfl,hgl,hperm,h5g,h5u,D5,B5⟩
  rw[aV] at hj;have ap:B.length+rest.length=xs.length:=by rw[<- o9];exact hperm.length_eq
  ctx_has v h5g h5u
  refine br D5 () () λr6 H6 am an D6 B6=>?_
  have ao:=B6 u _ nu.1 nu.2 h5u;have ak:=B6 g _ ng.1 ng.2 h5g;ctx_has v ao
  refine⟨am,an,(),λz hz=>?_⟩
  have ad:r6.toNat < rest.length:=(i4.mp hz).1
  refine⟨_,by rw[ah ug.symm];exact ak,aE (),B++[z],by simp;omega,rest.eraseIdx r6.toNat,?_,ae,by rw[ah ug];exact ae,(D6.put nu.1 nu.2).put ng.1 ng.2,((B5.trans B6).put Y).put ab⟩
  refine List.Perm.trans ?_ hperm
  rw[Kw];refine List.Perm.append_left B ?_
  rw[(i4.mp hz).2.symm];exact qI ad
 .rintro σ H5 ⟨B,rest,v5,rfl,hgl,hperm,h5g,h5u,D5,B5⟩
  rw[aV] at hgl;ctx_has v h5g
  intro t ht;exact k t B rest _ (B5.free D5 ht) hperm () ae (D5.new ht) (B5.new ht)
def chB (gap:Int) (vs:List Int):Bool:=(zipWith (λa b=>decide (a+gap<=b)) vs (vs.drop 1)).all id
theorem gE (gap a b:Int) (r:List Int):chB gap (a :: b :: r)=(decide (a+gap<=b) && chB gap (b :: r)):=by simp[chB]
theorem uO {a F:Int} {r:List Int} (h:F<=a) (B:chB gap (a :: r)=true):chB gap (F :: r)=true:=by
 cases r with
 | nil=>rfl
 | cons b r =>
  rw[gE,k_,decide_eq_true_eq] at B ⊢;exact⟨(),B.2⟩
theorem zT (gap:Int) (vs:List Int):((range (vs.length - 1)).map λk=>decide (vs.getD k 0+gap<=vs.getD (k+1) 0)).all id=chB gap vs:=by
 unfold chB
 congr 1
 apply List.ext_getElem
 .simp
 .intro i h1 h2
  simp at h1 h2 ⊢
  have F:i < vs.length:=()
  have B:i+1 < vs.length:=()
  rw[k6 F,k6 B];simp[Nat.add_comm]
def bV:Option Int->V | none=>.non | some i=>.int i
def dU (n:Int) (lo hi:Option Int):Bool:=(match lo with | none=>true | some a=>decide (a<=n)) && (match hi with | none=>true | some b=>decide (n<=b))
structure lj (H:Hp) (f:Addr) (cs:List Str) (g:Str->Int):Prop where
 ex : ∃kvs,H f<*kvs/\(∀c∈cs,bQ kvs (fy c)=some (.int (g c)))/\(∀x∈kvs,de x.2=true)/\kvs.length<=40
 bd : ∀c∈cs,-2000000<=g c/\g c<=2000000
theorem lj.sub {ds:List Str} (h:lj H f cs g) (s : ∀c∈ds,c∈cs):lj H f ds g:=by
 obtain⟨kvs,h1,h2,r⟩:=h.ex;exact⟨⟨kvs,h1,λc B=>h2 c (s c B),r⟩,λc B=>h.bd c (s c B)⟩
def EA:Sp:=λvs H Q _=>∃(n:Int) (lo hi:Option Int),vs=[.int n,bV lo,bV hi]/\∀H',au H H'->Q (.bl (dU n lo hi)) H'
def iX (H:Hp) (t:Addr) (ts:List (Int × Str)):Prop:=∃as:List (Addr × Int × Str),H t>>(as.map λx=>V.ref x.1)/\as.map (·.2)=ts/\∀x∈as,H x.1>>[.int x.2.1,.str x.2.2]
theorem iX.keep {t:Addr} (h:iX H t ts) (k : ∀a xs,H a>>xs->H' a>>xs):iX H' t ts:=by
 obtain⟨as,h1,h2,F⟩:=h;exact⟨as,k _ _ h1,h2,λx B=>k _ _ (F x B)⟩
def lI (H:Hp) (vs:List V) (ps:List (Int × Int × Int)):Prop:=∃as:List (Addr × Int × Int × Int),vs=as.map (λx=>V.ref x.1)/\as.map (·.2)=ps/\∀x∈as,H x.1>>[.int x.2.1,.int x.2.2.1,.int x.2.2.2]
theorem lI.keep {ps:List (Int × Int × Int)} (h:lI H vs ps) (k : ∀a xs,H a>>xs->H' a>>xs):lI H' vs ps:=by
 obtain⟨as,h1,h2,F⟩:=h;exact⟨as,h1,h2,λx B=>k _ _ (F x B)⟩
def ic (ps:List (Int × Int × Int)) (st:Option Int) (vs:List Int):Option Int:=vs.foldl (λst v=>lH ps st v) st
def tP (es:List Int):Option Int->Bool | none=>false | some s=>decide (s∈es)
inductive Wi | un (cs:List Str) | mn (av:List Int) (cs:List Str) (lo hi:Int) | sm (ts:List (Int × Str)) (lo hi:Option Int) | tb (cs:List Str) (rows:List (List Int)) | wy (cs:List Str) (ps:List (Int × Int × Int)) (es:List Int) | bh (cs:List Str) (gap:Int)
inductive Wx | pl (W:Wi) | sa (c:Str) (vs:List Int) (W:Wi)
def WS (H:Hp) (w:Addr):Wi->Prop
 | .un cs=>∃c,H w>>[.str "unlike",.ref c]/\H c>>(cs.map V.str)
 | .mn av cs lo hi=>∃a c,H w>>[.str "many",.ref a,.ref c,.int lo,.int hi]/\H a>>(av.map V.int)/\H c>>(cs.map V.str)
 | .sm ts lo hi=>∃t,H w>>[.str "sum",.ref t,bV lo,bV hi]/\iX H t ts
 | .tb cs rows=>∃c t vs,H w>>[.str "table",.ref c,.ref t]/\H c>>(cs.map V.str)/\H t>>vs/\eO H vs rows
 | .wy cs ps es=>∃c t e vs,H w>>[.str "way",.ref c,.ref t,.ref e]/\H c>>(cs.map V.str)/\H t>>vs/\lI H vs ps/\H e>>(es.map V.int)
 | .bh cs gap=>∃c,H w>>[.str "behind",.ref c,.int gap]/\H c>>(cs.map V.str)
def WX (H:Hp) (w:Addr):Wx->Prop
 | .pl W=>WS H w W
 | .sa c vs W=>∃t u,H w>>[.str "same",.str c,.ref t,.ref u]/\H t>>(vs.map V.int)/\WS H u W
theorem cE {w:Addr} {W:Wi} (h:WS H w W) (k : ∀a xs,H a>>xs->H' a>>xs):WS H' w W:=by
 cases W with
 | un cs=>obtain⟨c,h1,h2⟩:=h;exact⟨c,k _ _ h1,k _ _ h2⟩
 | mn av cs lo hi=>obtain⟨a,c,h1,h2,B⟩:=h;exact⟨a,c,k _ _ h1,k _ _ h2,k _ _ B⟩
 | sm ts lo hi=>obtain⟨t,h1,h2⟩:=h;exact⟨t,k _ _ h1,h2.keep k⟩
 | tb cs rows=>obtain⟨c,t,vs,h1,h2,B,F⟩:=h;exact⟨c,t,vs,k _ _ h1,k _ _ h2,k _ _ B,F.keep k⟩
 | wy cs ps es=>obtain⟨c,t,e,vs,h1,h2,B,F,L⟩:=h;exact⟨c,t,e,vs,k _ _ h1,k _ _ h2,k _ _ B,F.keep k,k _ _ L⟩
 | bh cs gap=>obtain⟨c,h1,h2⟩:=h;exact⟨c,k _ _ h1,k _ _ h2⟩
theorem fE {w:Addr} {W:Wx} (h:WX H w W) (k : ∀a xs,H a>>xs->H' a>>xs):WX H' w W:=by
 cases W with
 | pl W=>exact cE h k
 | sa c vs W=>obtain⟨t,u,h1,h2,B⟩:=h;exact⟨t,u,k _ _ h1,k _ _ h2,cE B k⟩
def bv:Wi->List Str
 | .un cs=>cs
 | .mn _ cs _ _=>cs
 | .sm ts _ _=>ts.map (·.2)
 | .tb cs _=>cs
 | .wy cs _ _=>cs
 | .bh cs _=>cs
def aI:Wx->List Str
 | .pl W=>bv W
 | .sa c _ W=>c :: bv W
def szW:Wi->Prop
 | .un cs=>cs.length<=12
 | .mn av cs _ _=>av.length<=20/\cs.length<=12
 | .sm ts _ _=>ts.length<=12
 | .tb cs _=>cs.length<=12
 | .wy cs ps es=>cs.length<=12/\(ps.map λx=>(x.1,x.2.1)).Nodup/\ps.length<=60
 | .bh cs _=>cs≠[]/\cs.length<=12
def szX:Wx->Prop
 | .pl W=>szW W
 | .sa _ _ W=>szW W
def cC (W:Wi) (g:Str->Int):Bool:=match W with
 | .un cs=>decide (cs.map g).Nodup
 | .mn av cs lo hi=>dU ((cs.filter λc=>decide (g c∈av)).length:Nat) (some lo) (some hi)
 | .sm ts lo hi=>dU ((ts.map λx=>x.1 * g x.2).sum) lo hi
 | .tb cs rows=>decide (cs.map g∈rows)
 | .wy cs ps es=>tP es (ic ps (some 0) (cs.map g))
 | .bh cs gap=>chB gap (cs.map g)
def gG (W:Wx) (g:Str->Int):Bool:=match W with
 | .pl W=>cC W g
 | .sa c vs W=>decide (decide (g c∈vs)=cC W g)
def BW:Sp:=λvs H Q _=>∃(w f:Addr) (c:Str) (us:List Int) (W:Wi) (g:Str->Int),vs=[.ref w,.ref f]/\WX H w (.sa c us W)/\szW W/\lj H f (c :: bv W) g/\∀H',au H H'->Q (.bl (gG (.sa c us W) g)) H'
def yy:Sp:=λvs H Q _=>∃(w f:Addr) (W:Wi) (g:Str->Int),vs=[.ref w,.ref f]/\WS H w W/\szW W/\lj H f (bv W) g/\∀H',au H H'->Q (.bl (cC W g)) H'
theorem rB (T:Txt w K mg) (L:FnL K mg "is_between" iM ["number","low","high"]):Fn P w K mg base "is_between" 1 ["number","low","high"] (EA):=by
 ctx_has z rO <;> obtain⟨n,lo,hi,rfl,k⟩:=h
 .rfl
 refine⟨_,(ai (az (qm (mm (nZ (mW (pvM 1))) (eZ (bw kL (pvM 1) (pvM 0)))) (eZ (mm (nZ (mW (pvM 2))) (eZ (bw kL (pvM 0) (pvM 2)))))))),?_⟩
 have B:=k H (au.refl _);cases lo with
 | none =>
  cases hi with
  | none=>ctx_has v xz bV decide_true decide_false g_;exact B
  | some b=>ctx_has v xz bV decide_true decide_false g_;simpa [dU] using B
 | some a =>
  cases hi with
  | none =>
   ctx_has v xz bV decide_true decide_false g_
   refine cO (λh=>?_) (λh=>?_)
   .simpa [dU,h] using B
   .simpa [dU,h] using B
  | some b =>
   ctx_has v xz bV decide_true decide_false g_
   refine cO (λh=>?_) (λh=>?_)
   .simpa [dU,h] using B
   .simpa [dU,h] using B
theorem yJ {s v:Int} : ∀{ps:List (Int × Int × Int)},(∀y∈ps,(y.1,y.2.1)≠(s,v))->bQ (dQ ps) [i_ s,i_ v]=none
 | [],_=>rfl
 | p :: ps,h=>by
  have F:=yJ (ps:=ps) λy L=>h y (j7 _ L)
  have B:([i_ p.1,i_ p.2.1]:List Key)≠[i_ s,i_ v]:=λz=>h p (k7) (by cases z;rfl)
  unfold dQ at F ⊢;rw[i9];simpa [bQ,B] using F
theorem sI (ps:List (Int × Int × Int)) : ∀l:List Int,ic ps none l=none
 | []=>rfl
 | v :: l=>sI ps l
theorem mt (ps:List (Int × Int × Int)) (st:Option Int) (a b:List Int):ic ps st (a++b)=ic ps (ic ps st a) b:=by unfold ic;rw[J4]
theorem Aq {ps:List (Int × Int × Int)} {l:List Int} {st:Int} (B:l[i]? = some v) (h:ic ps (some 0) (l.take i)=some st):ic ps (some 0) (l.take (i+1))=lH ps (some st) v:=by
 rw[i7,B,mt,h];rfl
theorem Am {ps:List (Int × Int × Int)} {l:List Int} (h:ic ps (some 0) (l.take i)=none):ic ps (some 0) l=none:=by
 rw[<- List.take_append_drop i l,mt,h,sI]
theorem xx {ps:List (Int × Int × Int)} {x:Int × Int × Int} (hn:(ps.map λx=>(x.1,x.2.1)).Nodup) (Y:ps[i]? = some x):bm (dQ (ps.take i)) [i_ x.1,i_ x.2.1] (.int x.2.2)=dQ (ps.take (i+1)):=by
 have B:ps.take (i+1)=ps.take i++[x]:=by rw[i7,Y];rfl
 have F:((ps.take i++[x]).map λx=>(x.1,x.2.1)).Nodup:=by
  rw[<- B,map_take];exact hn.sublist (JD _ _)
 rw[k9,rb] at F;rw[eV _ (yJ λy L e=>F.2.2 _ (g7.mpr ⟨y,L,rfl⟩) _ (by simp) e),B]
 unfold dQ;rw[k9];rfl
def qa (st v:Int) (x:Int × Int × Int):Option Int:=if x.1=st/\x.2.1=v then some x.2.2 else none
theorem vn (st v:Int) : ∀ps:List (Int × Int × Int),(ps.filterMap (qa st v)).head? = lH ps (some st) v
 | []=>rfl
 | p :: ps=>by
  have B:=vn st v ps;unfold lH at B ⊢;dsimp only at B ⊢;rw[JO]
  by_cases h:p.1=st/\p.2.1=v
  .rw[List.filterMap_cons_some (b:=p.2.2) (by simp[qa,h]),decide_eq_true h]
   rfl
  .rw[List.filterMap_cons_none (by simp[qa,h]),decide_eq_false h]
   exact B
theorem Dc {t D:Addr} {as:List (Addr × Int × Int × Int)} {st:Int} {Qf:VK} (h3:H' t>>(as.map λx=>V.ref x.1)) (L : ∀x∈as,H' x.1>>[.int x.2.1,.int x.2.2.1,.int x.2.2.2]) (hl:as.length<=60) (hD:H' D=none)
  (hQ : ∀H1 (zs:List Int),au H' H1->H1 D*>(zs.map V.int)->zs.head? = lH (as.map (·.2)) (some st) v->Qf (.ref D) H1) :
  oC (Itt K t) [none,some (V.int st),some (V.int v)] (gb 0) (rV (tOp (GE K) (tSl Dv (fh 0) lG (wK (tC (V.int 2)))) (DE (kM (fh 1) (kM (fh 2) yl))))) (tOp rIT (fh 0) (tC (V.int 2))) Qf H' D:=by
 refine cM aT (λj zs H1=>zs=(((as.map (·.2)).take j).filterMap (qa st v)).map V.int/\au H' H1/\H1 D*>zs) ⟨rfl,au.upd0 hD,ae⟩ (λi ys H1 h=>.of (h.2.1 _ _ h3)) ?_ ?_
 .rintro j x ys H1 hj hx ⟨rfl,sm,hd⟩
  obtain⟨y,hy,rfl⟩ : ∃y,as[j]? = some y/\V.ref y.1=x:=by
   rw[ei] at hx;cases e:as[j]? with
   | none=>rw[e] at hx;cases hx
   | some nm=>rw[e] at hx;exact⟨nm,rfl,e8 hx⟩
  have Z:=sm _ _ (L y (f_ hy));have et:(as.map (·.2)).take (j+1)=(as.map (·.2)).take j++[y.2]:=by rw[i7,ei,hy];rfl
  rw[et,List.filterMap_append,k9];have Y:((((as.map (·.2)).take j).filterMap (qa st v)).map V.int).length < ge:=by
   rw[c_];refine r_ (List.length_filterMap_le _ _) (r_ (x_ _ _) ?_)
   exact h_ (show(as.map (·.2)).length < 1000 by simp;omega) ∅
  ctx_has v Z
  intro p H2 hp s2;refine⟨∅,λp2 F=>?_⟩
  have B:=s2.trans (au.upd0 (o:=.tup [.int st,.int v]) F);refine⟨iO [y.2.1,y.2.2.1],iO [st,v],.tup (.of ((au.upd0 F) _ _ hp)) (fR.ints [y.2.1,y.2.2.1]),.tup (.of ae) (fR.ints [st,v]),iB _,iB _,gt (ku _) ∅,?_⟩
  rw[yZ];refine⟨_,rfl,?_⟩
  by_cases h:y.2.1=st/\y.2.2.1=v
  .rw[decide_eq_true (show[y.2.1,y.2.2.1]=[st,v] by rw[h.1,h.2]),if_pos rfl]
   refine⟨_,B _ _ Z,_,rfl,B _ _ hd,Y,by simp[qa,h],λb o e=>?_,ae⟩
   rw[ah (ao e hD)];exact B _ _ (sm b o e)
  .rw[decide_eq_false (show ¬ [y.2.1,y.2.2.1]=[st,v] from λz=>h (by cases z;exact⟨rfl,rfl⟩)),if_neg jc]
   exact⟨by simp[qa,h],sm.trans B,B _ _ hd⟩
 .rintro zs H1 ⟨rfl,sm,hd⟩
  rw[c_,show(as.map (·.2)).take as.length=as.map (·.2) from p_ (by simp)] at hd
  exact hQ H1 _ sm hd (vn st v _)
abbrev Dz5:=Fn P w K mg base "_law_kept" 3 ["_law_wish_here","_law_filling"] (yy)
abbrev nz0:List Str:=["_law_wish_here","_law_filling","_law_total","_law_values","_law_state","_law_value","_law_after"]
theorem rF (T:Txt w K mg) (L:FnL K mg "_law_kept" cp ["_law_wish_here","_law_filling"]) : @Dz5 P w K mg base:=by
 ctx_has z lW <;> obtain⟨w,f,W,g,rfl,hW,B,F,k⟩:=h
 .rfl
 refine⟨_,(af (bg (aG bM (aC aZ (pvM 0) aj) aJ) (ai dX) aM)
  (af (bg (aG bM (aC aZ (pvM 0) aj) aJ) (af (aB 2 (aF (qv rfl) T.b_sum (ac (ba (N:=["_law_a","_law_name","_law_filling"]) (nt:=2) (js:=[1]) (aH nz0 (ak cp).names) (bK K (aC aZ (pvM 0) aj)) (jf (n:=2) rfl (cF (ay 0) (cF (ay 1) iF))) gu bR (aR ig (pvM 0) (bx hu (pvM 2) (pvM 1)))) ag)))
  (ai (az (qm (mm (nZ (mW (aC aZ (pvM 0) aj))) (eZ (bw HP (pvM 2) (aC aZ (pvM 0) aj)))) (eZ (mm (nZ (mW (aC aZ (pvM 0) aj))) (eZ (bw kL (pvM 2) (aC aZ (pvM 0) aj))))))))) aM)
  (af (bg (aG bM (aC aZ (pvM 0) aj) aJ) (ai (az (AE kL kL (aC aZ (pvM 0) aj) (aF bO T.b_len (ac (ba (N:=["_law_name","_law_filling","_law_wish_here"]) (nt:=1) (js:=[1,0]) (aH nz0 (ak cp).names) (bK K (aC aZ (pvM 0) aj)) (ay 0) aQ (dn (aG iW (bx hu (pvM 1) (pvM 0)) (aC aZ (pvM 2) aj))) (pvM 0)) ag)) (aC aZ (pvM 0) aj)))) aM)
  (af (aB 3 (ba (N:=["_law_name","_law_filling"]) (nt:=1) (js:=[1]) (aH nz0 (ak cp).names) (bK K (aC aZ (pvM 0) aj)) (ay 0) aQ bR (bx hu (pvM 1) (pvM 0))))
  (af (bg (aG bM (aC aZ (pvM 0) aj) aJ) (ai (az (bw bM (aF uG T.b_len (ac (aY (An rfl) T.b_set (ac (pvM 3) ag)) ag)) (aF bO T.b_len (ac (pvM 3) ag))))) aM)
  (af (bg (aG bM (aC aZ (pvM 0) aj) aJ) (ai (az (bw (Eo (AB hr)) (aY cq T.b_tuple (ac (pvM 3) ag)) (aC aZ (pvM 0) aj)))) aM)
  (af (bg (aG bM (aC aZ (pvM 0) aj) aJ) (ai (az (aF (no rfl) T.b_all (ac (ba (N:=["_law_k","_law_values","_law_wish_here"]) (nt:=1) (js:=[3,0]) (aH nz0 (ak cp).names) (dE rfl T.b_range (ac (aR jJ (aF bO T.b_len (ac (pvM 3) ag)) aj) ag)) (ay 0) aQ bR (bw kL (aR bu (aC fI (pvM 1) (pvM 0)) (aC aZ (pvM 2) aj)) (aC fI (pvM 1) (aR bu (pvM 0) aj)))) ag)))) aM)
  (af (aB 4 aj)
  (af (bp (fX K (pvM 3)) (ay 5) (af (fG 6 (N:=["_law_step","_law_state","_law_value"]) (nt:=1) (js:=[4,5]) (aH nz0 (ak cp).names) (bK K (aC aZ (pvM 0) aj)) (ay 0) aQ (dn (aG (DY (K:=K) rfl (pR hr)) (cW sw (pvM 0) fe (dF aj)) (bT (ac (pvM 1) (ac (pvM 2) ag))))) (aC aZ (pvM 0) aj))
  (af (bg (aG (qk (pR hr)) (pvM 6) (bG ag)) (ai (az dz)) aM)
  (ai (aB 4 (aC fI (pvM 6) aj))))))
  (ai (az (bw iW (pvM 4) (aC aZ (pvM 0) aj))))))))))))),?_⟩
 obtain⟨kvs,f1,f2,f3,f4⟩:=F.ex;cases W with
 | un cs =>
  obtain⟨c,h1,h2⟩:=hW;have aX:cs.length<=12:=B
  ctx_has v h1 h2
  intro q hq;refine cL aT (λv=>match v with | .str c=>.int (g c) | _=>.non) hq (λH' s=>.of (s _ _ h2)) (by simp;omega) ?_ ?_
  .intro x H2 Q2 Y sm q2
   obtain⟨y,hy,rfl⟩:=g7.mp Y;have e2:=sm _ _ f1;have e3:=f2 y hy;ctx_has v e2 e3
   exact q2 H2 (au.refl _)
  .intro H2 sm e2
   have aa:H2 q*>((cs.map g).map V.int):=by rw[e2,l_,l_];rfl
   have Z:=sm _ _ h1;ctx_has v Z
   refine⟨cs.map g,aa,by simp;omega,λy S hy=>?_⟩
   refine⟨S,_,ae,_,by rw[ah (ao aa hy)];exact aa,?_⟩
   have B:=k _ (sm.upd_new (o:=.set S (oh (cs.map g))) hy);have e3:cC (.un cs) g=decide ((oh (cs.map g):Int)=(((cs.map g).map V.int).length:Int)):=by
    unfold cC;dsimp only;rw[ow,decide_eq_true_eq,decide_eq_true_eq,<- Aa,c_ (as:=cs.map g)];omega
   rw[e3] at B;exact B
 | mn av cs lo hi =>
  obtain⟨am,ce,ad,a9,ax⟩:=hW;have aU:cs.length<=12:=B.2
  ctx_has v ad ax
  intro q hq;refine cT aT (λv=>match v with | .str c=>decide (g c∈av) | _=>false) id hq (λH' s=>.of (s _ _ ax)) (by simp;omega) ?_ ?_ ?_
  .intro x H2 Q2 Y sm q2
   obtain⟨c,aP,rfl⟩:=g7.mp Y;have ab:=sm _ _ ad;have aD:=sm _ _ f1;have aA:=sm _ _ a9;have hv:=f2 c aP;ctx_has v aD hv ab aA
   refine⟨rfl,cu _,?_⟩
   rw[dR];exact q2 H2 (au.refl _)
  .intro x H2 Q2 Y _ sm q2
   ctx_has v
   exact q2 H2 (au.refl _)
  .intro H2 sm h2
   have ab:=sm _ _ ad;ctx_has v h2 ab
   have B:=k H2 sm;unfold cC dU at B;dsimp only at B;have el:(List.map id (List.filter (λv=>match v with | .str c=>decide (g c∈av) | _=>false) (cs.map V.str))).length=(cs.filter λc=>decide (g c∈av)).length:=by
    rw[c_,Kj,c_];rfl
   rw[el];refine cO (λh=>?_) (λh=>?_)
   .rw[decide_eq_true h,Bool.true_and] at B;exact B
   .rw[decide_eq_false h,Bool.false_and] at B;exact B
 | sm ts lo hi =>
  obtain⟨t,ad,as,a8,rfl,ap⟩:=hW;have aU:as.length<=12:=by have:(as.map (·.2)).length<=12:=B;simpa using this
  ctx_has v ad a8
  intro q hq;refine cM aT (λj ys H2=>ys=((as.take j).map λx=>x.2.1 * g x.2.2).map V.int/\H2 q*>ys/\au H H2) ⟨by simp,ae,au.upd0 hq⟩ (λj ys H2 a0=>by obtain⟨_,_,sm⟩:=a0;exact(.of (sm _ _ a8))) ?_ ?_
  .rintro j x ys H2 hj Y ⟨rfl,h2,sm⟩
   rw[c_] at hj;obtain⟨y,hy,rfl⟩ : ∃y,as[j]? = some y/\V.ref y.1=x:=by
    rw[ei] at Y;cases e:as[j]? with
    | none=>rw[e] at Y;cases Y
    | some nm=>rw[e] at Y;exact⟨nm,rfl,e8 Y⟩
   have ar:y∈as:=f_ hy
   have e3:=sm _ _ (ap y ar);have e4:=sm _ _ f1;have e5:=f2 y.2.2 (g7.mpr ⟨y.2,g7.mpr ⟨y,ar,rfl⟩,rfl⟩);have e6:=F.bd y.2.2 (g7.mpr ⟨y.2,g7.mpr ⟨y,ar,rfl⟩,rfl⟩);ctx_has v e3 e4 e5
   refine⟨.inr ⟨(),()⟩,h2,by simp;exact aE (),?_,ae,λb o e=>?_⟩
   .rw[i7,hy];simp
   .rw[ah (ao e hq)];exact sm _ _ e
  .rintro ys H2 ⟨rfl,h2,sm⟩
   rw[c_,ki] at h2;have ab:=sm _ _ ad;have ek:(((as.map (·.2)).map λx=>x.1 * g x.2).sum)=(as.map λx=>x.2.1 * g x.2.2).sum:=by rw[l_];rfl
   have B:=k H2 sm;unfold cC at B;dsimp only at B;rw[ek] at B;ctx_has v
   refine⟨as.map λx=>x.2.1 * g x.2.2,.of h2,?_⟩
   generalize (as.map λx=>x.2.1 * g x.2.2).sum=bb at B ⊢
   cases lo with
   | none =>
    cases hi with
    | none=>ctx_has v ab bV decide_true decide_false g_;exact B
    | some b=>ctx_has v ab bV decide_true decide_false g_;simpa [dU] using B
   | some a =>
    cases hi with
    | none =>
     ctx_has v ab bV decide_true decide_false g_
     refine cO (λh=>?_) (λh=>?_)
     .simpa [dU,h] using B
     .simpa [dU,h] using B
    | some b =>
     ctx_has v ab bV decide_true decide_false g_
     refine cO (λh=>?_) (λh=>?_)
     .simpa [dU,h] using B
     .simpa [dU,h] using B
 | tb cs rows =>
  obtain⟨c,tr,vs,h1,h2,h3,h4⟩:=hW;have aX:cs.length<=12:=B
  ctx_has v h1 h2
  intro q hq;refine cL aT (λv=>match v with | .str c=>.int (g c) | _=>.non) hq (λH' s=>.of (s _ _ h2)) (by simp;omega) ?_ ?_
  .intro x H2 Q2 Y sm q2
   obtain⟨y,hy,rfl⟩:=g7.mp Y;have e2:=sm _ _ f1;have e3:=f2 y hy;ctx_has v e2 e3
   exact q2 H2 (au.refl _)
  .intro H2 sm e2
   have aa:H2 q*>((cs.map g).map V.int):=by rw[e2,l_,l_];rfl
   have Z:=sm _ _ h1;ctx_has v aa Z
   intro tt aK;have s3:au H2 (upd H2 tt (.tup ((cs.map g).map V.int))):=au.upd0 aK
   refine⟨_,s3 _ _ Z,?_⟩
   ctx_has v
   exact Da ae (s3 _ _ (sm _ _ h3)) (h4.keep λa xs e=>s3 _ _ (sm _ _ e)) (k _ (sm.trans s3))
 | wy cs ps es =>
  obtain⟨c,t,e,vs,h1,h2,h3,h4,h5⟩:=hW;obtain⟨as,rfl,rfl,ap⟩:=h4;ctx_has v h1 h2
  intro q hq;refine cL aT (λv=>match v with | .str c=>.int (g c) | _=>.non) hq (λH' s=>.of (s _ _ h2)) (by have:=B.1;simp;omega) ?_ ?_
  .intro x H2 Q2 Y sm q2
   obtain⟨y,hy,rfl⟩:=g7.mp Y;have e2:=sm _ _ f1;have e3:=f2 y hy;ctx_has v e2 e3
   exact q2 H2 (au.refl _)
  .intro H2 sm e2
   have aa:H2 q*>((cs.map g).map V.int):=by rw[e2,l_,l_];rfl
   have Z:=sm _ _ h1;ctx_has v aa Z
   have aW:=B.2.2;refine bS ck (λi σ H3=>∃v5 v6 st,σ=[-w,-f,none,-q,some (.int st),v5,v6]/\ic (as.map (·.2)) (some 0) ((cs.map g).take i)=some st/\au H2 H3) ⟨_,_,0,rfl,rfl,au.refl _⟩ (λi σ H' aw=>by obtain⟨_,_,_,_,_,s3⟩:=aw;exact(.of (s3 _ _ aa))) ?_ ?_
   .rintro i x σ H3 hi Y ⟨v5,v6,st,rfl,hrun,s3⟩
    obtain⟨v,hv,rfl⟩ : ∃v,(cs.map g)[i]? = some v/\V.int v=x:=by
     rw[ei] at Y;cases e:(cs.map g)[i]? with
     | none=>rw[e] at Y;cases Y
     | some nm=>rw[e] at Y;exact⟨nm,rfl,e8 Y⟩
    have aq:=s3 _ _ Z;have a7:=s3 _ _ (sm _ _ h3);ctx_has v aq a7
    intro D hD;refine Dc a7 (λx Y=>s3 _ _ (sm _ _ (ap x Y))) (by simpa using aW) hD λH4 zs s4 hz hh=>?_
    have an:=Aq hv hrun;refine⟨∅,λp5 aS=>?_⟩
    have s5:=au.upd0 (o:=.lst []) aS;refine⟨.list (zs.map y_),.list [],.lst (.of (s5 _ _ hz)) (fR.ints zs),.lst (.of ae) .nil,by unfold JB;exact lay_ints zs,rfl,by unfold Kd;rw[depth_ints];decide,_,rfl,?_⟩
    cases zs with
    | nil =>
     rw[show y4 (.list (([]:List Int).map y_)) (.list [])=true by rfl,if_pos rfl]
     rw[<- hh] at an;have aN:cC (.wy cs (as.map (·.2)) es) g=false:=by unfold cC;dsimp only;rw[show ic (as.map (·.2)) (some 0) (cs.map g)=none from Am an];rfl
     have:=k _ (sm.trans (s3.trans (s4.trans s5)))
     rw[aN] at this;exact this
    | cons n zs =>
     rw[show y4 (.list ((n :: zs).map y_)) (.list [])=false by simp[y4,Jn],if_neg jc]
     rw[<- hh] at an;exact⟨D,rfl,_,s5 _ _ hz,V.int n,cg (j:=0) (by simp),_,_,n,rfl,rfl,rfl,an,s3.trans (s4.trans s5)⟩
   .rintro σ H3 ⟨v5,v6,st,rfl,hrun,s3⟩
    have aq:=s3 _ _ Z;ctx_has v aq
    rw[show(cs.map g).take ((cs.map g).map V.int).length=cs.map g from p_ (by simp)] at hrun
    refine⟨_,s3 _ _ (sm _ _ h5),rfl,cu es,?_⟩
    have aI:cC (.wy cs (as.map (·.2)) es) g=decide (st∈es):=by unfold cC;dsimp only;rw[show ic (as.map (·.2)) (some 0) (cs.map g)=some st from hrun];rfl
    rw[show inV (V.int st) (es.map V.int)=decide (st∈es) from dR st es,<- aI]
    exact k _ (sm.trans s3)
 | bh cs gap =>
  obtain⟨c,h1,h2⟩:=hW;have hl:cs≠[]/\cs.length<=12:=B
  ctx_has v h1 h2
  intro q hq;refine cL aT (λv=>match v with | .str c=>.int (g c) | _=>.non) hq (λH' s=>.of (s _ _ h2)) (by have:=hl.2;simp;omega) ?_ ?_
  .intro x H2 Q2 Y sm q2
   obtain⟨y,hy,rfl⟩:=g7.mp Y;have e2:=sm _ _ f1;have e3:=f2 y hy;ctx_has v e2 e3
   exact q2 H2 (au.refl _)
  .intro H2 sm e2
   have aa:H2 q*>((cs.map g).map V.int):=by rw[e2,l_,l_];rfl
   have Z:=sm _ _ h1;have lp:=J5.mpr hl.1;ctx_has v aa Z
   refine⟨by simp;omega,by simp;omega,λq2 aL=>?_⟩
   refine cL cZ (λv=>match v with | .int i=>.bl (decide ((cs.map g).getD i.toNat 0+gap<=(cs.map g).getD (i.toNat+1) 0)) | _=>.non) aL (λ_ _=>o6) (by rw[aV];simp;omega) ?_ ?_
   .intro x H3 Q3 Y sm3 q3
    obtain⟨i,hi,rfl⟩ : ∃i:Nat,i < cs.length - 1/\x=V.int i:=by
     simp only[ya,g7,Kf] at Y;obtain⟨i,hi,e⟩:=Y;refine⟨i,by simp at hi;omega,by rw[<- e];simp⟩
    have h3:=sm3 _ _ aa;have aO:=sm3 _ _ Z;have a1:atI ((cs.map g).map V.int) (i:Int)=some (.int ((cs.map g).getD i 0)):=cg (by simp[show i < cs.length by omega])
    have a2:atI ((cs.map g).map V.int) ((i:Int)+1)=some (.int ((cs.map g).getD (i+1) 0)):=cg (j:=i+1) (by simp[show i+1 < cs.length by omega])
    ctx_has v h3 aO a1 a2
    exact q3 H3 (au.refl _)
   .intro H3 sm3 h3
    ctx_has v
    refine⟨(range ((cs.map g).length - 1)).map λk=>decide ((cs.map g).getD k 0+gap<=(cs.map g).getD (k+1) 0),?_,?_⟩
    .rw[h3]
     congr 2
     simp only[ya,l_];rw[show(((cs.map (V.int ∘ g)).length:Int) - 1).toNat=(cs.map g).length - 1 by simp]
     refine m9 λi _=>?_
     simp
    .rw[zT]
     exact k H3 (sm.trans sm3)
section
variable {k2:Nat} {ps2:List Str} {sp2:Sp} {p:Pos} {t:TA}
theorem sL (F:Fn X.prog X.w X.K X.mg X.base x k ps sp) (G:Fn X.prog X.w X.K X.mg X.base x k2 ps2 sp2) (ha:PA X (e :: es) t) (hr:di k X.A:=by exact di.mono (by assumption) (by ctx_has m)) (L:di k2 X.A:=by exact di.mono (by assumption) (by ctx_has m)) (hg:Gl X x:=by exact rfl) (Y:(x ==("__debug__" : Str))=false:=by decide)
  (he:j9 (e :: es) X.env=(false,eval e X.env) :: j9 es X.env:=by rfl) (B:(A_ pos (j9 es X.env)).any (·.1)=false:=by rfl) :
  PE X (.Call (.Name x p) (e :: es) [] pos) (rT (λvs H Q E=>sp vs H Q E\/sp2 vs H Q E) [] E0 t):=by
 obtain⟨f,fd,F,m,kp,b⟩:=F;obtain⟨f2,aa,G,Z,ab,b2⟩:=G;have ef:f2=f:=by rw[m] at Z;cases Z;rfl
 subst ef;intro pins s σ H Q I h;refine x3 (pJ I hg m ?_ Y)
 refine callWith_K (h₀:=X.base) I.ok.mod.kin kp (thn (ha pos pins s σ H _ I h) λus s1 ⟨vs,H1,I1,r,q⟩=>⟨I1.kIn,?_⟩) he B
 rcases q with q | q
 .exact ox F hr b .nil qg I1 r q
 .exact ox G L b2 .nil qg I1 r q
theorem Ck (L:FnL K mg x st ps):Fn P w K mg base x k ps (λ_ _ _ _=>False):=by
 obtain⟨f,fd,F,m,b⟩:=L;exact⟨f,fd,⟨λ_ _ _ _ h=>h.elim,λ_ _ _ _ _ _ _ _ _ _ _ _ _ h=>h.elim⟩,m,F.kp,b⟩
end
abbrev Dz6:=Fn P w K mg base "_law_kept" 4 ["_law_wish_here","_law_filling"] (BW)
theorem rC (T:Txt w K mg) (L:FnL K mg "_law_kept" cp ["_law_wish_here","_law_filling"]) (B : @Dz5 P w K mg base) : @Dz6 P w K mg base:=by
 ctx_has z lW <;> obtain⟨w,f,c,us,W,g,rfl,Z,hk,F,k⟩:=h
 .rfl
 refine⟨_,(af (bg (aG bM (aC aZ (pvM 0) aj) aJ) (ai (az (bw bM (bw iW (bx hu (pvM 1) (aC aZ (pvM 0) aj)) (aC aZ (pvM 0) aj)) (aw B (ac (aC aZ (pvM 0) aj) (ac (pvM 1) ag)))))) aM)
  (af dX
  (af dX
  (af dX
  (af dX
  (af dX
  (af dX
  (af dX
  (af dX
  (ai dX)))))))))),?_⟩
 obtain⟨t,u,h1,h2,Y⟩:=Z;obtain⟨kvs,f1,f2,f3,f4⟩:=F.ex;have e2:=f2 c k7;ctx_has v h1 f1 e2 h2
 refine⟨rfl,cu _,?_⟩
 rw[dR];refine⟨u,f,W,g,rfl,Y,hk,F.sub λc hc=>j7 _ hc,λH' s=>⟨rfl,by rw[show decide (V.bl (decide (g c∈us))=V.bl (cC W g))=gG (.sa c us W) g by simp[gG]];exact k H' s⟩⟩
def BF:Sp:=λvs H Q _=>∃(d l:Addr) (lo hi:Int),vs=[.ref d,.int lo,.int hi]/\aN H d l/\lo<=hi/\-10000000000000<=lo/\hi<=10000000000000/\∀(p:Addr) (a b:Option Int) (H':Hp),H p=none->H' p>>[bV a,bV b]->aN H' d l->But d l H H'->Q (.ref p) H'
theorem Dp {a:Int} (F : -1000000<=a) (a1:a<=1000000) (L : -1000000<=v) (B:v<=1000000) : -1000000000000<=a * v:=by
 have h1:a.natAbs<=1000000:=()
 have h2:v.natAbs<=1000000:=()
 have Y:(a * v).natAbs<=1000000 * 1000000:=by rw[Int.natAbs_mul];exact Nat.mul_le_mul h1 h2
 omega
theorem AQ {a:Int} (F : -1000000<=a) (a1:a<=1000000) (L : -1000000<=v) (B:v<=1000000):a * v<=1000000000000:=by
 have h1:a.natAbs<=1000000:=()
 have h2:v.natAbs<=1000000:=()
 have Y:(a * v).natAbs<=1000000 * 1000000:=by rw[Int.natAbs_mul];exact Nat.mul_le_mul h1 h2
 omega
theorem qF {D:Addr} {x:Int} {Q:VK} (h:H a>>(ns.map V.int)) (B : -1000000<=x) (F:x<=1000000) (hl:ns.length<=20) (L:H D=none) (q : ∀H',au H H'->H' D*>((ns.map λv=>x * v).map V.int)->Q (.ref D) H') :
  oC (Itt K a) [none,some (V.int x)] (gb 0) wL (tOp (rI Ag λi j=>V.int (i * j)) (fh 1) (fh 0)) Q H D:=by
 refine cL aT (λv=>match v with | .int i=>.int (x * i) | _=>.non) L (λH' s=>.of (s _ _ h)) (by simp;omega) ?_ ?_
 .intro y H2 Q2 hy sm q2
  obtain⟨z,Y,rfl⟩:=g7.mp hy;ctx_has v
  exact⟨.inl ⟨(),()⟩,q2 H2 (au.refl _)⟩
 .intro H2 sm e2
  refine q H2 sm ?_
  rw[e2,l_,l_];rfl
def EK:Sp:=λvs H Q _=>∃(d l sa B:Addr) (cs:List Str) (kvs:List (Key × V)) (rm:Str->List Int),vs=[.ref d,.ref sa,.ref B]/\aN H d l/\(B≠d/\B≠l)/\H sa>>(cs.map V.str)/\H B<*kvs/\aX H kvs cs rm/\cs.length<=12/\(∀c∈cs,rm c≠[]/\(rm c).length<=20/\∀v∈rm c,-1000000<=v/\v<=1000000) /\
 ∀(w:Addr) (ts:List (Int × Str)) (lo hi:Option Int) (H':Hp),H w=none->WS H' w (.sm ts lo hi)->ts.map (·.2)=cs.take 4->(∀x∈ts,-1000000<=x.1/\x.1<=1000000/\x.1≠0)->aN H' d l->But d l H H'->Q (.ref w) H'
theorem aN.tupN (D:aN H d l) (h:H a>>vs):a≠d/\a≠l:=by
 obtain⟨Z,sd,Y,L,B,F,_⟩:=D.ex;exact⟨aU h B (by intro z;cases z),aU h F (by intro z;cases z)⟩
theorem But.tup {H H':Hp} {d l a:Addr} {vs:List V} (B:But d l H H') (D:aN H d l) (h:H a>>vs):H' a>>vs:=B a _ (D.tupN h).1 (D.tupN h).2 h
abbrev Dz7:=Fn P w K mg base "_law_bounds" 2 ["_law_deal_here","_law_low","_law_high"] (BF)
theorem qt (T:Txt w K mg) (L:FnL K mg "_law_bounds" hV ["_law_deal_here","_law_low","_law_high"]) (Fa : @Dz0 P w K mg base) : @Dz7 P w K mg base:=by
 ctx_has z pS <;> obtain⟨d,l,lo,hi,rfl,D,ax,a7,ay,k⟩:=h
 .rfl
 refine⟨_,(af (aB 3 (aR bu (pvM 1) (aw Fa (ac (pvM 0) (ac (aR bu (aR jJ (pvM 2) (pvM 1)) aj) ag)))))
  (af (aB 4 (aR bu (pvM 3) (aw Fa (ac (pvM 0) (ac (aR bu (aR jJ (pvM 2) (pvM 3)) aj) ag)))))
  (ai (az (aC fI (bG (ac (bT (ac (pvM 3) (ac (pvM 4) ag))) (ac (bT (ac (pvM 3) (ac (pvM 3) ag))) (ac (bT (ac (pvM 3) (ac AA ag))) (ac (bT (ac AA (ac (pvM 4) ag))) ag))))) (aw Fa (ac (pvM 0) (ac aj ag)))))))),?_⟩
 ctx_has v
 refine br D () () λB H1 ar aq D1 B1=>?_
 ctx_has v
 refine br D1 () () λF H2 ap a0 D2 B2=>?_
 ctx_has v
 refine⟨∅,λZ g1=>⟨∅,λp2 g2=>⟨∅,λp3 g3=>⟨∅,λY g4=>⟨∅,λq gq=>?_⟩⟩⟩⟩⟩
 have s4:=(((au.upd0 (o:=.tup [.int (lo+B),.int (lo+B+F)]) g1).upd_new (o:=.tup [.int (lo+B),.int (lo+B)]) g2).upd_new (o:=.tup [.int (lo+B),.non]) g3).upd_new (o:=.tup [.non,.int (lo+B+F)]) g4;have ab:Z≠p2:=λz=>by rw[z,ae] at g2;cases g2
 have ad:Z≠p3:=λz=>by rw[<- z,ah ab,ae] at g3;cases g3
 have ak:p2≠p3:=λz=>by rw[<- z,ae] at g3;cases g3
 have ao:Z≠Y:=λz=>by rw[<- z,ah ad,ah ab,ae] at g4;cases g4
 have an:p2≠Y:=λz=>by rw[<- z,ah ak,ae] at g4;cases g4
 have am:p3≠Y:=λz=>by rw[<- z,ae] at g4;cases g4
 have h1:upd (upd (upd (upd H2 Z (.tup [.int (lo+B),.int (lo+B+F)])) p2 (.tup [.int (lo+B),.int (lo+B)])) p3 (.tup [.int (lo+B),.non])) Y (.tup [.non,.int (lo+B+F)]) Z>>[.int (lo+B),.int (lo+B+F)]:=by rw[ah ao,ah ad,ah ab,ae]
 have h2:upd (upd (upd (upd H2 Z (.tup [.int (lo+B),.int (lo+B+F)])) p2 (.tup [.int (lo+B),.int (lo+B)])) p3 (.tup [.int (lo+B),.non])) Y (.tup [.non,.int (lo+B+F)]) p2>>[.int (lo+B),.int (lo+B)]:=by rw[ah an,ah ak,ae]
 have h3:upd (upd (upd (upd H2 Z (.tup [.int (lo+B),.int (lo+B+F)])) p2 (.tup [.int (lo+B),.int (lo+B)])) p3 (.tup [.int (lo+B),.non])) Y (.tup [.non,.int (lo+B+F)]) p3>>[.int (lo+B),.non]:=by rw[ah am,ae]
 have h4:upd (upd (upd (upd H2 Z (.tup [.int (lo+B),.int (lo+B+F)])) p2 (.tup [.int (lo+B),.int (lo+B)])) p3 (.tup [.int (lo+B),.non])) Y (.tup [.non,.int (lo+B+F)]) Y>>[.non,.int (lo+B+F)]:=ae
 have f1:H Z=none:=(B1.trans B2).free D2 g1
 have f2:H p2=none:=((B1.trans B2).new g1).free (D2.new g1) g2
 have f3:H p3=none:=(((B1.trans B2).new g1).new g2).free ((D2.new g1).new g2) g3
 have f4:H Y=none:=((((B1.trans B2).new g1).new g2).new g3).free (((D2.new g1).new g2).new g3) g4
 have D4:=D2.same s4;have B4:=(B1.trans B2).same s4;generalize upd (upd (upd (upd H2 Z (.tup [.int (lo+B),.int (lo+B+F)])) p2 (.tup [.int (lo+B),.int (lo+B)])) p3 (.tup [.int (lo+B),.non])) Y (.tup [.non,.int (lo+B+F)])=H4 at gq h1 h2 h3 h4 D4 B4 ⊢;refine lY D4 gq ∅ ∅ rfl λr5 v H5 hv ha D5 B5 h5=>?_
 ctx_has v h5 ha
 have nt : ∀{p:Addr} {vs:List V},H4 p>>vs->H5 p>>vs:=λh=>B5 _ _ (D4.tupN h).1 (D4.tupN h).2 h
 have aa:=B4.trans B5;simp only[i6,m4,or_false] at hv;rcases hv with rfl | rfl | rfl | rfl
 .exact k Z (some _) (some _) H5 f1 (nt h1) D5 aa
 .exact k p2 (some _) (some _) H5 f2 (nt h2) D5 aa
 .exact k p3 (some _) none H5 f3 (nt h3) D5 aa
 .exact k Y none (some _) H5 f4 (nt h4) D5 aa
abbrev Dz8:=Fn P w K mg base "_law_sum" 3 ["_law_deal_here","_law_some_here","_law_rooms_here"] (EK)
abbrev nz1:List Str:=["_law_deal_here","_law_some_here","_law_rooms_here","_law_terms","_law_low","_law_high","_law_name","_law_a"]
theorem wB (T:Txt w K mg) (L:FnL K mg "_law_sum" gK ["_law_deal_here","_law_some_here","_law_rooms_here"]) (Fa : @Dz0 P w K mg base) (Ft : @Dz7 P w K mg base) : @Dz8 P w K mg base:=by
  ctx_has z vV <;> obtain⟨d,l,sa,ra,cs,kvs,rm,rfl,D,aD,aA,aI,bi,br,aZ,k⟩:=h
  . rfl
  refine⟨_,(af (aB 3 (bG ag))
    (af (aB 4 aj)
    (af (aB 5 aj)
    (af (bp (bK K (cW sw (pvM 1) fe (dF aj))) (ay 6) (af (aB 7 (aC fI (bG (ac aj (ac aj (ac (oY jO aj) (ac aj (ac (oY jO aj) (ac aj ag))))))) (aw Fa (ac (pvM 0) (ac aj ag)))))
    (af (bW (gN o7 o8 db (pvM 3) (ac (bT (ac (pvM 7) (ac (pvM 6) ag))) ag)))
    (af (aB 4 (aR bu (pvM 4) (aF (nG rfl) T.b_min (ac (ba (N:=["_law_value","_law_a"]) (nt:=1) (js:=[7]) (aH nz1 (ak gK).names) (bK K (bx hu (pvM 2) (pvM 6))) (ay 0) aQ bR (aR ig (pvM 1) (pvM 0))) ag))))
    (ai (aB 5 (aR bu (pvM 5) (aF (sj rfl) T.b_max (ac (ba (N:=["_law_value","_law_a"]) (nt:=1) (js:=[7]) (aH nz1 (ak gK).names) (bK K (bx hu (pvM 2) (pvM 6))) (ay 0) aQ bR (aR ig (pvM 1) (pvM 0))) ag)))))))))
    (af (Gj (aw Ft (ac (pvM 0) (ac (pvM 4) (ac (pvM 5) ag)))) (jf (n:=2) rfl (cF (ay 4) (cF (ay 5) iF))))
    (ai (az (bT (ac aJ (ac (aY cq T.b_tuple (ac (pvM 3) ag)) (ac (pvM 4) (ac (pvM 5) ag)))))))))))),?_⟩
  ctx_has v
  refine⟨∅,λp hp=>?_⟩
  have np:=D.ne hp;refine⟨_,by rw[ah (ao aA hp)];exact aA,λq H1 hq s1=>⟨_,hq,?_⟩⟩
  rw[show gM (cs.map V.str) none (some 4)=(cs.take 4).map V.str from yq V.str cs 4] at hq
  have aV:=(au.upd0 (o:=.lst []) hp).trans s1;have D1:=D.same aV;refine bS aT (λi σ H'=>∃(as:List (Addr × Int × Str)) (lo hi:Int) (v6 v7:Option V),σ=[-d,-sa,-ra,-p,some (.int lo),some (.int hi),v6,v7]/\H' p*>(as.map λx=>V.ref x.1)/\(∀x∈as,H' x.1>>[.int x.2.1,.str x.2.2])/\as.map (·.2.2)=(cs.take 4).take i/\(∀x∈as,-1000000<=x.2.1/\x.2.1<=1000000/\x.2.1≠0)/\lo<=hi/\-(1000000000000 * (i:Int))<=lo/\hi<=1000000000000 * (i:Int)/\H' q>>((cs.take 4).map V.str)/\aN H' d l/\But d l H H')
    ⟨[],0,0,_,_,rfl,s1 _ _ ae,by simp,by simp,by simp,∅,∅,∅,hq,D1,(But.refl H).same aV⟩ (λi σ H' a9=>by obtain⟨_,_,_,_,_,_,_,_,_,_,_,_,_,h,_⟩:=a9;exact(.of h)) ?_ ?_
  . rintro i x σ H2 hi Z  ⟨as,lo,aP,v6,v7,rfl,aq,a7,ab,a8,aX,bd,bh,aO,D2,B2⟩
    rw[c_] at hi;obtain⟨c,aW,rfl⟩ : ∃c,(cs.take 4)[i]? = some c/\V.str c=x:=by
      rw[ei] at Z;cases e:(cs.take 4)[i]? with
      | none=>rw[e] at Z;cases Z
      | some nm=>rw[e] at Z;exact⟨nm,rfl,e8 Z⟩
    have aL:c∈cs:=F_ (f_ aW)
    have bs  : i < 4 := by have:(cs.take 4).length<=4:=by simp;omega
                           omega
    have bk:as.length<=i:=by
      have:=congrArg List.length ab
      rw[c_] at this;rw[this];exact List.length_take_le _ _
    ctx_has v
    refine⟨∅,λt ht=>?_⟩
    refine lY D2 ht ∅ ∅ rfl λr v H3 hv ha D3 B3 h3=>?_
    obtain⟨a,rfl,a0,a1,an⟩ : ∃a:Int,v = .int a/\-1000000<=a/\a<=1000000/\a≠0:=by
      simp only[i6,m4,or_false] at hv;rcases hv with rfl | rfl | rfl | rfl | rfl | rfl
      . exact⟨1,rfl,∅,∅,∅⟩
      . exact⟨1,rfl,∅,∅,∅⟩
      . exact⟨-1,rfl,∅,∅,∅⟩
      . exact⟨2,rfl,∅,∅,∅⟩
      . exact⟨-3,rfl,∅,∅,∅⟩
      . exact⟨1000000,rfl,∅,∅,∅⟩
    have ad:=B3 p _ np.1 np.2 aq;ctx_has v h3 ha
    obtain⟨ar,aG,bf⟩:=bi c aL;have hg:=aZ c aL;have rp:ra≠p:=ao aI hp
    refine⟨⟨_,ad⟩,∅,λY am=>⟨_,(au.upd0 am) _ _ ad,by rw[c_];exact aE (),?_⟩⟩
    have pt:p≠Y:=ao ad am
    have be:=(B2.trans B3).new (o:=.tup [.int a,.str c]) am;have B4:=be.put (o:=.lst (as.map (λx=>V.ref x.1)++[.ref Y])) hp
    have D4:=(D3.new (o:=.tup [.int a,.str c]) am).put (o:=.lst (as.map (λx=>V.ref x.1)++[.ref Y])) np.1 np.2
    have kt : ∀b xs,H2 b>>xs->upd (upd H3 Y (.tup [.int a,.str c])) p (.lst (as.map (λx=>V.ref x.1)++[.ref Y])) b>>xs:=λb xs e=>by
      rw[ah (aU e aq (by intro z;cases z))]
      exact(au.upd0 am) _ _ (B3.tup D2 e)
    have ax:upd (upd H3 Y (.tup [.int a,.str c])) p (.lst (as.map (λx=>V.ref x.1)++[.ref Y])) Y>>[.int a,.str c]:=by rw[ah pt.symm];exact ae
    have aK:upd (upd H3 Y (.tup [.int a,.str c])) p (.lst (as.map (λx=>V.ref x.1)++[.ref Y])) p*>(as.map (λx=>V.ref x.1)++[.ref Y]):=ae
    have ap:=B4 ra _ aD.1 aD.2 aI;have B:=B4.tup D bf;generalize upd (upd H3 Y (.tup [.int a,.str c])) p (.lst (as.map (λx=>V.ref x.1)++[.ref Y]))=H4 at B4 D4 kt ax aK ap B ⊢
    have aS:(rm c).map (λv=>a * v)≠[]:=by simp;exact hg.1
    refine⟨kvs,ap,_,aG,ar,rfl,_,B,λD5 g5=>qF B a0 a1 hg.2.1 g5 λH5 s5 e5=>⟨D5,rfl,_,e5,aS,λm hm aM=>⟨kvs,s5 _ _ ap,_,aG,ar,rfl,_,s5 _ _ B,λD6 g6=>qF (s5 _ _ B) a0 a1 hg.2.1 g6 λH6 s6 e6=>⟨D6,rfl,_,e6,aS,λM hM bj=>?_⟩⟩⟩⟩
    have aa:=s5.trans s6;obtain⟨v1,bc,em⟩:=g7.mp hm;obtain⟨v2,bg,eM⟩:=g7.mp hM;have b1:=hg.2.2 v1 bc;have b2:=hg.2.2 v2 bg;have bo : -1000000000000<=m:=by rw[<- em];exact Dp a0 a1 b1.1 b1.2
    have bn:M<=1000000000000:=by rw[<- eM];exact AQ a0 a1 b2.1 b2.2
    have bq:=aM M hM;refine⟨as++[(Y,a,c)],by rw[aa _ _ aK];simp,λx Z=>?_,?_,λx Z=>?_,(),by push_cast;omega,by push_cast;omega,aa _ _ (kt _ _ aO),D4.same aa,B4.same aa⟩
    . rcases ja.mp Z with z | z
      . exact aa _ _ (kt _ _ (a7 x z))
      . rw[e_.mp z];exact aa _ _ ax
    . rw[i7,aW,k9,ab];rfl
    . rcases ja.mp Z with z | z
      . exact a8 x z
      . rw[e_.mp z];exact⟨a0,a1,an⟩
  . rintro σ H2 ⟨as,lo,aP,v6,v7,rfl,aq,a7,ab,a8,aX,bd,bh,aO,D2,B2⟩
    have bm:((cs.take 4).map V.str).length<=4:=by simp;omega
    rw[p_ (Ji (by simp):(cs.take 4).length<=((cs.take 4).map V.str).length)] at ab
    ctx_has v
    refine⟨d,l,lo,aP,rfl,D2,aX,(),(),λu b1 b2 H3 fu bb D3 B3=>?_⟩
    have ad:=B3 p _ np.1 np.2 aq;ctx_has v bb ad
    intro t ht;have s4:=au.upd0 (o:=.tup (as.map λx=>V.ref x.1)) ht
    refine⟨∅,λw hw=>?_⟩
    have s5:=s4.upd_new (o:=.tup [.str "sum",.ref t,bV b1,bV b2]) hw;have tw:t≠w:=λz=>by rw[<- z,ae] at hw;cases hw
    refine k w (as.map (·.2)) b1 b2 _ ?_ ⟨t,ae,as,by rw[ah tw,ae],rfl,λx Z=>s5 _ _ (B3.tup D2 (a7 x Z))⟩ ?_ (λx Z=>?_) (D3.same s5) ((B2.trans B3).same s5)
    . exact((B2.trans B3).same s4).free (D3.same s4) hw
    . rw[l_];exact ab
    . obtain⟨y,hy,rfl⟩:=g7.mp Z
      exact a8 y hy
def DT:Sp:=λvs H Q _=>∃(d l sa B:Addr) (cs:List Str) (ns:List Int),vs=[.ref d,.ref sa,.ref B]/\aN H d l/\(B≠d/\B≠l)/\H sa>>(cs.map V.str)/\H B*>(ns.map V.int)/\ns.length=5/\cs.length<=12 /\
 ∀(p:Addr) (us:List V) (rows:List (List Int)) (H':Hp),H p=none->H' p>>us->eO H' us rows->rows.Nodup->(∀r∈rows,r.length=cs.length)->rows.length<=7->aN H' d l->But d l H H'->Q (.ref p) H'
theorem yG {xs:List α} {r:Int} (B:0<=r) (F:r < (xs.length:Int)) (f:α->V) : ∃x∈xs,atI (xs.map f) r=some (f x):=by
 obtain⟨n,rfl⟩:=x4 B;have hn:n < xs.length:=()
 exact⟨xs[n],v_ hn,cg (by simp[hn])⟩
abbrev Dz9:=Fn P w K mg base "_law_rows" 2 ["_law_deal_here","_law_some_here","_law_pool_here"] (DT)
theorem uc (T:Txt w K mg) (L:FnL K mg "_law_rows" gW ["_law_deal_here","_law_some_here","_law_pool_here"]) (Fa : @Dz0 P w K mg base) : @Dz9 P w K mg base:=by
 ctx_has z tF <;> obtain⟨d,l,sa,pa,cs,ns,rfl,D,B,ap,an,aD,aA,k⟩:=h
 .rfl
 refine⟨_,(af (aB 3 (bG ag))
  (af (bp (dE rfl T.b_range (ac (aw Fa (ac (pvM 0) (ac aj ag))) ag)) (ay 4) (af (aB 5 (aY cq T.b_tuple (ac (ba (N:=["_law_name","_law_pool_here","_law_deal_here"]) (nt:=1) (js:=[2,0]) (aH ["_law_deal_here","_law_some_here","_law_pool_here","_law_rows_here","_law_k","_law_row"] (ak gW).names) (bK K (pvM 1)) (ay 0) aQ bR (aC fI (pvM 1) (aw Fa (ac (pvM 2) (ac aj ag))))) ag)))
  (ai (bg (aG (qH (AB hr)) (pvM 5) (pvM 3)) (ai (bW (gN o7 o8 db (pvM 3) (ac (pvM 5) ag)))) aM))))
  (ai (az (aY cq T.b_tuple (ac (pvM 3) ag)))))),?_⟩
 ctx_has v
 refine⟨∅,λg hg=>?_⟩
 have ng:=D.ne hg;refine br (D.new hg) ∅ ∅ λn H1 n0 n1 D1 B1=>⟨_,rfl,(),(),?_⟩
 have a7:=((But.refl H).new (o:=.lst []) hg).trans B1;refine bS cZ (λi σ H'=>∃(us:List V) (rows:List (List Int)) (v4 v5:Option V),σ=[-d,-sa,-pa,-g,v4,v5]/\H' g*>us/\eO H' us rows/\rows.Nodup/\(∀r∈rows,r.length=cs.length)/\rows.length<=i/\aN H' d l/\But d l H H')
  ⟨[],[],_,_,rfl,B1 g _ ng.1 ng.2 ae,eO.nil,by simp,by simp,by simp,D1,a7⟩ (λ_ _ _ _=>o6) ?_ ?_
 .rintro i x σ H2 hi hx ⟨us,rows,v4,v5,rfl,h2,hrv,hnd,hrl,hlen,D2,B2⟩
  rw[aV] at hi;have aa:=(But.keepTI B2 D).tup _ _ ap;ctx_has v aa
  intro q hq;have nq:=D2.ne hq;refine cM aT (λj ys Z=>∃vs:List Int,ys=vs.map V.int/\vs.length=j/\Z q*>ys/\(∀b o,b≠d->b≠l->b≠q->H2 b=some o->Z b=some o)/\aN Z d l)
   ⟨[],rfl,rfl,ae,λb o _ _ hb e=>by rw[ah hb];exact e,D2.new hq⟩ (λj ys Z ⟨_,_,_,h,kk,_⟩=>.of (by
    obtain⟨m',sd,n',a8,aq,ax,_⟩:=D2.ex;exact kk sa _ (aU aa aq (by intro z;cases z)) (aU aa ax (by intro z;cases z)) (ao aa hq) aa)) ?_ ?_
  .rintro j y ys Z hj hy ⟨vs,rfl,hvl,h3,k3,D3⟩
   rw[c_] at hj;ctx_has v
   refine br D3 ∅ ∅ λr4 H4 a0 a9 D4 B4=>?_
   have ar:=B4 pa _ B.1 B.2 (k3 pa _ B.1 B.2 (ao (B2 pa _ B.1 B.2 an) hq) (B2 pa _ B.1 B.2 an));obtain⟨z,_,hz⟩:=yG (xs:=ns) a0 () V.int
   refine⟨r4,rfl,_,ar,_,hz,B4 q _ nq.1 nq.2 h3,by rw[c_];exact aE (),vs++[z],by simp,by simp;omega,ae,λb o h1 h2 h3 e=>by rw[ah h3];exact B4 b o h1 h2 (k3 b o h1 h2 h3 e),D4.put nq.1 nq.2⟩
  .rintro ys Z ⟨vs,rfl,hvl,h3,k3,D3⟩
   rw[c_] at hvl;ctx_has v h3
   intro t ht;have s4:au Z (upd Z t (.tup (vs.map V.int))):=au.upd0 ht
   have B3:But d l H2 Z:=λb o h1 h2 e=>k3 b o h1 h2 (ao e hq) e
   have am:=(B2.trans B3).same s4;have D4:=D3.same s4;have Y:=s4 _ _ (B3 g _ ng.1 ng.2 h2);have ab:=hrv.keep λa xs e=>s4 _ _ ((But.keepTI B3 D2).tup _ _ e)
   refine wW ae Y ab ⟨_,rfl,?_⟩
   refine cO (λad=>?_) (λad=>?_)
   .have hni:vs∉rows:=by simpa using ad
    have hk : ∀a xs,upd Z t (.tup (vs.map V.int)) a>>xs->upd (upd Z t (.tup (vs.map V.int))) g (.lst (us++[.ref t])) a>>xs:=λa xs e=>by rw[ah (aU e Y (by intro z;cases z))];exact e
    refine⟨⟨_,Y⟩,us,Y,by rw[hrv.length];exact aE (),us++[.ref t],ae,rows++[vs],(ab.keep hk).snoc (hk _ _ ae),rb.mpr ⟨hnd,by simp,λa ha b hb e=>hni (by rw[e_.mp hb] at e;exact e ▸ ha)⟩,λr hr=>?_,by simp;omega,D4.put ng.1 ng.2,am.put hg⟩
    rcases ja.mp hr with z | z
    .exact hrl r z
    .rw[e_.mp z];exact hvl
   .exact⟨us,Y,rows,ab,hnd,hrl,(),D4,am⟩
 .rintro σ H2 ⟨us,rows,v4,v5,rfl,h2,hrv,hnd,hrl,hlen,D2,B2⟩
  rw[aV] at hlen;ctx_has v h2
  intro t ht;have s3:au H2 (upd H2 t (.tup us)):=au.upd0 ht
  exact k t us rows _ (B2.free D2 ht) ae (hrv.keep λa xs e=>s3 _ _ e) hnd hrl () (D2.same s3) (B2.same s3)
def jx (pool:List Int) (n:Nat):List (Int × Int):=List.flatMap (λs:Nat=>pool.map λv=>((s:Int),v)) (range n)
theorem ln (pool:List Int) (n:Nat):jx pool (n+1)=jx pool n++pool.map λv=>((n:Int),v):=by
 unfold jx;rw[List.range_succ,List.flatMap_append];simp
theorem Cz {x:Int × Int} (h:x∈jx pool n):x.1 < (n:Int):=by
 unfold jx at h;obtain⟨s,F,B⟩:=mem_flatMap.mp h;obtain⟨v,_,rfl⟩:=g7.mp B;have:=Kf.mp F
 show(s:Int) < n
 omega
theorem oU {pool:List Int} (h:pool.Nodup) : ∀n,(jx pool n).Nodup
 | 0=>by simp[jx]
 | n+1=>by
  rw[ln,rb];refine⟨oU h n,Gt.mpr (h.imp λB z=>B (by cases z;rfl)),λa ha b F e=>?_⟩
  subst e;obtain⟨v,_,rfl⟩:=g7.mp F;have:=Cz ha
  simp at this
theorem om (pool:List Int) : ∀n,(jx pool n).length=n * pool.length
 | 0=>by simp[jx]
 | n+1=>by rw[ln,o9,om pool n,c_,Nat.succ_mul]
def Ex (x:Addr × Int × Int × Int):Int × Int:=(x.2.1,x.2.2.1)
def Bl (H:Hp) (as:List (Addr × Int × Int × Int)):Prop:=∀x∈as,H x.1>>[.int x.2.1,.int x.2.2.1,.int x.2.2.2]
def Hm:Sp:=λvs H Q _=>∃(d l sa B:Addr) (cs:List Str) (pool:List Int),vs=[.ref d,.ref sa,.ref B]/\aN H d l/\H sa>>(cs.map V.str)/\(B≠d/\B≠l)/\H B*>(pool.map V.int)/\pool.length=5/\pool.Nodup /\
 ∀(F:Addr) (ps:List (Int × Int × Int)) (es:List Int) H',H F=none->(ps.map λx=>(x.1,x.2.1)).Nodup->ps.length<=60->es.length<=60->WS H' F (.wy cs ps es)->aN H' d l->But d l H H'->Q (.ref F) H'
abbrev G0:=Fn P w K mg base "_law_way" 2 ["_law_deal_here","_law_some_here","_law_pool_here"] (Hm)
theorem uH (T:Txt w K mg) (L:FnL K mg "_law_way" iS ["_law_deal_here","_law_some_here","_law_pool_here"]) (Fa : @Dz0 P w K mg base) : @G0 P w K mg base:=by
  ctx_has z wG <;> obtain⟨d,l,sa,pa,cs,pool,rfl,D,aS,ar,aL,a0,aZ,k⟩:=h
  . rfl
  refine⟨_,(af (aB 3 (aR bu aj (aw Fa (ac (pvM 0) (ac aj ag)))))
    (af (aB 4 (bG ag))
    (af (bp (dE rfl T.b_range (ac (pvM 3) ag)) (ay 5) (ai (bp (fX K (pvM 2)) (ay 6) (ai (bg (aG oB (aw Fa (ac (pvM 0) (ac aj ag))) aj) (ai (bW (gN o7 o8 db (pvM 4) (ac (bT (ac (pvM 5) (ac (pvM 6) (ac (aw Fa (ac (pvM 0) (ac (pvM 3) ag))) ag)))) ag)))) aM)))))
    (af (fG 7 (N:=["_law_state","_law_deal_here"]) (nt:=1) (js:=[0]) (aH ["_law_deal_here","_law_some_here","_law_pool_here","_law_many","_law_steps","_law_state","_law_value","_law_ends"] (ak iS).names) (dE rfl T.b_range (ac (pvM 3) ag)) (ay 0) aQ (dn (aG bM (aw Fa (ac (pvM 1) (ac aj ag))) aj)) (pvM 0))
    (ai (az (bT (ac aJ (ac (pvM 1) (ac (aY cq T.b_tuple (ac (pvM 4) ag)) (ac (aY cq T.b_tuple (ac (pvM 7) ag)) ag))))))))))),?_⟩
  ctx_has v
  refine br D ∅ ∅ λr1 H1 bd be D1 B1=>?_
  ctx_has v
  refine⟨∅,λp hp=>⟨(),(),?_⟩⟩
  have np:=D1.ne hp;have a9:H p=none:=by
    cases e:H p with
    | none=>rfl
    | some o=>rw[B1 p o np.1 np.2 e] at hp;cases hp
  obtain⟨n,hn⟩ : ∃n:Nat,(1+r1).toNat=n:=⟨_,rfl⟩;have bh:n<=3:=()
  rw[hn];refine bS cZ (λi σ H2=>∃as v5 v6,σ=[-d,-sa,-pa,some (.int (1+r1)),-p,v5,v6,none]/\aN H2 d l/\But d l H H2/\H2 p*>(as.map λx=>V.ref x.1)/\Bl H2 as/\(as.map Ex).Sublist (jx pool i)) ⟨[],_,_,rfl,D1.put np.1 np.2,B1.put a9,ae,(λx Y=>by simp at Y),by simp⟩ (λi σ H' h=>o6) ?_ ?_
  . rintro i x σ H2 hi Y ⟨as,v5,v6,rfl,D2,B2,ad,hA,aa⟩
    rw[aV] at hi;rw[jA hi] at Y;cases Y;have aF:=B2 pa _ ar.1 ar.2 aL;ctx_has v aF
    refine bS ck (λj σ H3=>∃as v6,σ=[-d,-sa,-pa,some (.int (1+r1)),-p,some (.int (0+(i:Int))),v6,none]/\aN H3 d l/\But d l H H3/\H3 p*>(as.map λx=>V.ref x.1)/\Bl H3 as/\(as.map Ex).Sublist (jx pool i++(pool.take j).map λv=>((i:Int),v))) ⟨as,_,rfl,D2,B2,ad,hA,by simpa using aa⟩ (λj σ H' a8=>by obtain⟨_,_,_,_,B,_⟩:=a8;exact(.of (B pa _ ar.1 ar.2 aL))) ?_ ?_
    . rintro j x σ H3 hj Y ⟨as,v6,rfl,D3,B3,ap,ab,Z⟩
      obtain⟨v,hv,rfl⟩ : ∃v,pool[j]? = some v/\V.int v=x:=by
        rw[ei] at Y;cases e:pool[j]? with
        | none=>rw[e] at Y;cases Y
        | some nm=>rw[e] at Y;exact⟨nm,rfl,e8 Y⟩
      ctx_has v
      refine br D3 ∅ ∅ λr4 H4 bb aX D4 B4=>?_
      ctx_has v
      have aq:=B4 p _ np.1 np.2 ap;have aO:Bl H4 as:=λx Y=>(But.keepTI B4 D3).tup _ _ (ab x Y)
      have ek:pool.take (j+1)=pool.take j++[v]:=by rw[i7,hv];rfl
      have aP:(as.map λx=>V.ref x.1).length < ge:=by
        have h1:=Z.length_le;rw[c_,o9,om,a0,c_] at h1;have h2:(pool.take j).length<=5:=by rw[<- a0];exact x_ _ _
        exact h_ (show(as.map λx=>V.ref x.1).length < 1000 by rw[c_];omega) ∅
      refine cO (λh=>?_) (λh=>?_)
      . refine⟨⟨_,aq⟩,br D4 () () λr5 H5 bf bi D5 B5=>⟨∅,λtp am=>?_⟩⟩
        have an:=B5 p _ np.1 np.2 aq;have aI:Bl H5 as:=λx Y=>(But.keepTI B5 D4).tup _ _ (aO x Y)
        refine⟨_,(au.upd0 am) _ _ an,aP,(D5.new am).put np.1 np.2,(((B3.trans B4).trans B5).new am).put a9,as++[(tp,(i:Int),v,r5)],by rw[ae];simp,λx Y=>?_,?_⟩
        . rcases ja.mp Y with Y | Y
          . rw[ah (aU (aI x Y) an (by intro z;cases z))]
            exact(au.upd0 am) _ _ (aI x Y)
          . rw[e_.mp Y]
            show upd (upd H5 tp _) p _ tp=_
            rw[ah (tj (ao an am)),ae,Int.zero_add]
        . rw[ek,k9,k9,<- Kw]
          exact Z.append (List.Sublist.refl _)
      . refine⟨D4,B3.trans B4,as,aq,aO,Z.trans ?_⟩
        rw[ek,k9,<- Kw];exact List.sublist_append_left _ _
    . rintro σ H3 ⟨as,v6,rfl,D3,B3,ap,ab,Z⟩
      rw[c_,ki] at Z;exact⟨as,_,_,rfl,D3,B3,ap,ab,by rw[ln];exact Z⟩
  . rintro σ H2 ⟨as,v5,v6,rfl,D2,B2,ad,hA,aa⟩
    rw[aV] at aa;ctx_has v
    refine⟨(),(),λDd ax=>?_⟩
    have nD:=D2.ne ax;rw[hn];refine cM cZ (λi ys H'=>∃zs:List Int,ys=zs.map V.int/\zs.length<=i/\aN H' d l/\But d l H2 H'/\H' Dd*>ys) ⟨[],rfl,by simp,D2.new ax,(But.refl H2).new ax,ae⟩ (λi ys H' h=>o6) ?_ ?_
    . rintro i x ys H3 hi Y ⟨zs,rfl,aK,D3,B3,a7⟩
      rw[aV] at hi;rw[jA hi] at Y;cases Y;ctx_has v
      refine br D3 ∅ ∅ λr4 H4 bb aX D4 B4=>?_
      ctx_has v
      have aA:=B4 Dd _ nD.1 nD.2 a7;refine cO (λh=>?_) (λh=>?_)
      . exact⟨aA,h_ (show(zs.map V.int).length < 1000 by rw[c_];omega) ∅,zs++[0+(i:Int)],by simp,by simp;omega,D4.put nD.1 nD.2,(B3.trans B4).put ax,ae⟩
      . exact⟨zs,rfl,(),D4,B3.trans B4,aA⟩
    . rintro ys H3 ⟨zs,rfl,aK,D3,B3,a7⟩
      rw[aV] at aK;have aT:=B3 p _ np.1 np.2 ad;refine⟨_,aT,λl1 g1=>⟨Dd,rfl,_,(au.upd0 g1) _ _ a7,λl2 g2=>⟨∅,λwa g3=>?_⟩⟩⟩
      have s4:au H3 (upd (upd (upd H3 l1 (.tup (as.map λx=>V.ref x.1))) l2 (.tup (zs.map V.int))) wa (.tup [.str "way",.ref sa,.ref l1,.ref l2])):=((au.upd0 g1).upd_new g2).upd_new g3
      have B4:=(B2.trans B3).same s4;have aE:=((D3.new g1).new g2).ne g3;have aD:=B2.trans B3;have bc:=aa.length_le;rw[c_,om,a0] at bc;have aC:l1≠l2:=λz=>by rw[z,ae] at g2;cases g2
      have ba:l1≠wa:=λz=>by rw[<- z,ah aC,ae] at g3;cases g3
      have aW:l2≠wa:=λz=>by rw[<- z,ae] at g3;cases g3
      have ab:Bl H3 as:=λx Y=>(But.keepTI B3 D2).tup _ _ (hA x Y)
      refine k wa (as.map (·.2)) zs _ ?_ ?_ (by show(as.map (·.2)).length<=60;rw[c_];omega) (by show zs.length<=60;omega) ⟨sa,l1,l2,_,ae,s4 _ _ ((But.keepTI aD D).tup _ _ aS),by rw[ah ba,ah aC];exact ae,⟨as,rfl,rfl,λx Y=>s4 _ _ (ab x Y)⟩,by rw[ah aW];exact ae⟩ (D3.same s4) B4
      . cases e:H wa with
        | none=>rfl
        | some o =>
          have z:=((au.upd0 (o:=.tup (as.map λx=>V.ref x.1)) g1).upd_new (o:=.tup (zs.map V.int)) g2) _ _ (aD wa o aE.1 aE.2 e)
          rw[z] at g3;cases g3
      . show((as.map (·.2)).map λx=>(x.1,x.2.1)).Nodup
        rw[l_];exact(oU aZ n).sublist aa
def jS (h:Bool):List Str:=("unlike" : Str) :: "many" :: "sum" :: "table" :: "way" :: "behind" ::(if h then[("same" : Str)] else[])
theorem xP (h:Bool):6<=(jS h).length/\(jS h).length<=7:=by cases h <;> exact⟨∅,∅⟩
theorem vq (ns:List Str):y4 (.list (ns.map PyData.str)) (.list [])=decide (ns=[]):=by
 cases ns with
 | nil=>rfl
 | cons n ns=>simp[y4,Jn]
def okC (ws cs:List Str):Prop:=cs≠[]/\cs.Nodup/\(∀c∈cs,c∈ws)/\cs.length<=12
def okV (ns vs:List Int):Prop:=vs.Nodup/\(∀v∈vs,v∈ns)/\vs.length<=20
def okW (ws:List Str) (ns:List Int):Wi->Prop
 | .un cs=>okC ws cs
 | .mn av cs _ _=>okC ws cs/\okV ns av
 | .sm ts _ _=>okC ws (ts.map (·.2))/\∀x∈ts,-1000000<=x.1/\x.1<=1000000/\x.1≠0
 | .tb cs rows=>okC ws cs/\rows.Nodup/\(∀r∈rows,r.length=cs.length)/\rows.length<=7
 | .wy cs ps es=>okC ws cs/\(ps.map λx=>(x.1,x.2.1)).Nodup/\ps.length<=60/\es.length<=60
 | .bh cs _=>okC ws cs
def okX (ws:List Str) (ns:List Int):Wx->Prop
 | .pl W=>okW ws ns W
 | .sa c vs W=>c∈ws/\okV ns vs/\okW ws ns W/\c∉bv W
theorem Cf {F:List Str} (h : ∀c∈ws,c∈F) : ∀{W:Wi},okW ws ns W->okW F ns W
 | .un _,⟨a,b,c,d⟩=>⟨a,b,λx B=>h x (c x B),d⟩
 | .mn _ _ _ _,⟨⟨a,b,c,d⟩,r⟩=>⟨⟨a,b,λx B=>h x (c x B),d⟩,r⟩
 | .sm _ _ _,⟨⟨a,b,c,d⟩,r⟩=>⟨⟨a,b,λx B=>h x (c x B),d⟩,r⟩
 | .tb _ _,⟨⟨a,b,c,d⟩,r⟩=>⟨⟨a,b,λx B=>h x (c x B),d⟩,r⟩
 | .wy _ _ _,⟨⟨a,b,c,d⟩,r⟩=>⟨⟨a,b,λx B=>h x (c x B),d⟩,r⟩
 | .bh _ _,⟨a,b,c,d⟩=>⟨a,b,λx B=>h x (c x B),d⟩
theorem nE : ∀{W:Wi},okW ws ns W->∀c∈bv W,c∈ws
 | .un _,⟨_,_,c,_⟩=>c
 | .mn _ _ _ _,⟨⟨_,_,c,_⟩,_⟩=>c
 | .sm _ _ _,⟨⟨_,_,c,_⟩,_⟩=>c
 | .tb _ _,⟨⟨_,_,c,_⟩,_⟩=>c
 | .wy _ _ _,⟨⟨_,_,c,_⟩,_⟩=>c
 | .bh _ _,⟨_,_,c,_⟩=>c
theorem Bi : ∀{W:Wi},okW ws ns W->szW W
 | .un _,⟨_,_,_,d⟩=>d
 | .mn _ _ _ _,⟨⟨_,_,_,d⟩,_,_,e⟩=>⟨e,d⟩
 | .sm ts _ _,⟨⟨_,_,_,d⟩,_⟩=>by simpa [szW] using d
 | .tb _ _,⟨⟨_,_,_,d⟩,_⟩=>d
 | .wy _ _ _,⟨⟨_,_,_,d⟩,e,f,_⟩=>⟨d,e,f⟩
 | .bh _ _,⟨a,_,_,d⟩=>⟨a,d⟩
theorem Aj : ∀{W:Wx},okX ws ns W->∀c∈aI W,c∈ws
 | .pl _,h=>nE h
 | .sa _ _ _,h=>λc B=>by
  rcases i6.mp B with rfl | z
  .exact h.1
  .exact nE h.2.2.1 c z
structure jI (H:Hp) (d l a ra pa:Addr) (ws:List Str) (ns:List Int) (kvs:List (Key × V)) (rm:Str->List Int):Prop where
 D:aN H d l
 na:a≠d/\a≠l
 nr:ra≠d/\ra≠l
 np:pa≠d/\pa≠l
 ha:H a*>(ws.map V.str)
 hr:H ra<*kvs
 hp:H pa*>(ns.map V.int)
 rf:aX H kvs ws rm
 wn:ws≠[]
 nd:ws.Nodup
 wl:ws.length<=12
 n5:ns.length=5
 nn:ns.Nodup
 nm : ∀c∈ws,fL c
 gd : ∀c∈ws,rm c≠[]/\(rm c).length<=20/\∀v∈rm c,-1000000<=v/\v<=1000000
theorem jI.but {Y L:Addr} (F:jI H d l a Y L ws ns kvs rm) (D:aN H' d l) (B:But d l H H'):jI H' d l a Y L ws ns kvs rm :=
 ⟨D,F.na,F.nr,F.np,B _ _ F.na.1 F.na.2 F.ha,B _ _ F.nr.1 F.nr.2 F.hr,B _ _ F.np.1 F.np.2 F.hp,F.rf.same λx vs e=>B.tup F.D e,F.wn,F.nd,F.wl,F.n5,F.nn,F.nm,F.gd⟩
theorem jI.same {H H':Hp} {d l a L B:Addr} {ws:List Str} {ns:List Int} {kvs:List (Key × V)} {rm:Str->List Int} (F:jI H d l a L B ws ns kvs rm) (s:au H H'):jI H' d l a L B ws ns kvs rm :=
 F.but (F.D.same s) ((But.refl H).same s)
def pM (h:Bool):Sp:=λvs H Q _=>∃(d l a L F B:Addr) (ws:List Str) (ns:List Int) (kvs:List (Key × V)) (rm:Str->List Int),vs=[.ref d,.ref a,.ref L,.ref F,.ref B]/\jI H d l a L F ws ns kvs rm/\(B≠d/\B≠l)/\H B*>((jS h).map V.str) /\
 ∀(w:Addr) (W:Wx) (H':Hp),WX H' w W->okX ws ns W->(h=false->∃Y,W = .pl Y)->aN H' d l->But d l H H'->Q (.ref w) H'
def pN (h:Bool):Sp:=if h then pM false else λ_ _ _ _=>False
theorem ve {h:Bool} {s:Str} (B:s∈jS h):s = "unlike" \/ s = "many" \/ s = "sum" \/ s = "table" \/ s = "way" \/ s = "behind" \/(h=true/\s = "same"):=by
 unfold jS at B;cases h
 .simpa using B
 .simpa using B
theorem Gh {zs:List Str} (hp:(cs++zs).Perm ws) (h1:1<=cs.length) (B:ws.Nodup) (L:ws.length<=12):okC ws cs:=by
 have hn:=hp.nodup_iff.mpr B;refine⟨λe=>by rw[e] at h1;simp at h1,(rb.mp hn).1,λc F=>hp.mem_iff.mp (k4 _ F),?_⟩
 have:=hp.length_eq
 rw[o9] at this;omega
theorem Ct {vs zs:List Int} (hp:(vs++zs).Perm ns) (B:ns.Nodup) (L:ns.length=5):okV ns vs:=by
 have hn:=hp.nodup_iff.mpr B;refine⟨(rb.mp hn).1,λc F=>hp.mem_iff.mp (k4 _ F),?_⟩
 have:=hp.length_eq
 rw[o9] at this;omega
theorem mK {h:Bool} (T:Txt w K mg) (L:FnL K mg "_law_wish" fH ["_law_deal_here","_law_names_here","_law_rooms_here","_law_pool_here","_law_sorts"]) (Fa : @Dz0 P w K mg base) (Ff : @Dz4 P w K mg base) (Fu : @Dz8 P w K mg base) (Fq : @Dz9 P w K mg base) (Fv : @G0 P w K mg base) (FO:Fn P w K mg base "_law_wish" (n+1) ["_law_deal_here","_law_names_here","_law_rooms_here","_law_pool_here","_law_sorts"] (pN h)):Fn P w K mg base "_law_wish" (n+5) ["_law_deal_here","_law_names_here","_law_rooms_here","_law_pool_here","_law_sorts"] (pM h):=by
 ctx_has z uw <;> obtain⟨d,l,a,ra,pa,so,ws,ns,kvs,rm,rfl,M,a7,aA,k⟩:=h
 .rfl
 refine⟨_,(af (aB 5 (aC fI (pvM 4) (aw Fa (ac (pvM 0) (ac (aF bO T.b_len (ac (pvM 4) ag)) ag)))))
  (af (aB 6 (aw Ff (ac (pvM 0) (ac (pvM 1) (ac (aF (sf rfl) T.b_min (ac (aF bO T.b_len (ac (pvM 1) ag)) (ac (aR bu aj (aY Ah T.b_int (ac (bw bM (pvM 5) aJ) ag))) ag))) ag)))))
  (af (bg (aG bM (pvM 5) aJ) (ai (az (bT (ac aJ (ac (pvM 6) ag))))) aM)
  (af (bg (aG bM (pvM 5) aJ) (af (aB 7 (aw Fa (ac (pvM 0) (ac (aR bu (aF iy T.b_len (ac (pvM 6) ag)) aj) ag))))
  (ai (az (bT (ac aJ (ac (aw Ff (ac (pvM 0) (ac (pvM 3) (ac aj ag)))) (ac (pvM 6) (ac (pvM 7) (ac (aR bu (pvM 7) (aw Fa (ac (pvM 0) (ac (aR bu (aR jJ (aF iy T.b_len (ac (pvM 6) ag)) (pvM 7)) aj) ag)))) ag))))))))) aM)
  (af (bg (aG bM (pvM 5) aJ) (ai (az (aw Fu (ac (pvM 0) (ac (pvM 6) (ac (pvM 2) ag)))))) aM)
  (af (bg (aG bM (pvM 5) aJ) (ai (az (bT (ac aJ (ac (pvM 6) (ac (aw Fq (ac (pvM 0) (ac (pvM 6) (ac (pvM 3) ag)))) ag)))))) aM)
  (af (bg (aG bM (pvM 5) aJ) (ai (az (aw Fv (ac (pvM 0) (ac (pvM 6) (ac (pvM 3) ag)))))) aM)
  (af (bg (aG bM (pvM 5) aJ) (ai (az (bT (ac aJ (ac (pvM 6) (ac (aC fI (bG (ac aj (ac aj (ac (oY jO aj) (ac aj (ac aj ag)))))) (aw Fa (ac (pvM 0) (ac aj ag)))) ag)))))) aM)
  (af (fG 8 (N:=["_law_name","_law_some_here"]) (nt:=1) (js:=[6]) (aH ["_law_deal_here","_law_names_here","_law_rooms_here","_law_pool_here","_law_sorts","_law_sort","_law_some_here","_law_low","_law_rest","_law_inner"] (ak fH).names) (fX K (pvM 1)) (ay 0) aQ (dn (aG zm (pvM 0) (aC aZ (pvM 1) aj))) (pvM 0))
  (af (bg (aG (qk (pR hr)) (pvM 8) (bG ag)) (ai (az (bT (ac aJ (ac (pvM 6) ag))))) aM)
  (af (aB 9 (aw FO (ac (pvM 0) (ac (pvM 8) (ac (pvM 2) (ac (pvM 3) (ac (bG (ac aJ (ac aJ (ac aJ (ac aJ (ac aJ (ac aJ ag))))))) ag)))))))
  (ai (az (bT (ac aJ (ac (aC aZ (pvM 6) aj) (ac (aw Ff (ac (pvM 0) (ac (pvM 3) (ac aj ag)))) (ac (pvM 9) ag)))))))))))))))))),?_⟩
 ctx_has v aA
 have bt:=xP h;refine br M.D (by rw[c_];omega) (by rw[c_];omega) λr H1 r0 r1 D1 B1=>?_
 rw[c_] at r1;obtain⟨s,hs,aP⟩:=yG (xs:=jS h) r0 r1 V.str;have aE:=B1 so _ a7.1 a7.2 aA;have M1:=M.but D1 B1;have a0:=M1.ha;have w1:=J5.mpr M.wn;have wl:=M.wl;have n5:=M.n5;ctx_has v aE aP a0
 obtain⟨m,hm,m1,m2⟩ : ∃m:Int,(if (1+if s=b_ "unlike" then 1 else 0) < ((ws.map V.str).length:Int) then 1+(if s=b_ "unlike" then 1 else 0) else((ws.map V.str).length:Int))=m/\1<=m/\m<=ws.length:=by
  refine⟨_,rfl,?_⟩
  rw[c_]
  split <;> split <;> constructor <;> omega
 rw[hm];refine⟨d,l,a,m,ws.map V.str,rfl,D1,.inl a0,(),by rw[c_];omega,by rw[c_];omega,λsa aO rest H2 bs bn bm B D2 B2=>?_⟩
 obtain⟨cs,zs,rfl,aq⟩:=qG V.str IS (λ_=>rfl) bn
 rw[c_] at bm;have F:okC ws cs:=Gh aq () M.nd M.wl
 have M2:=M1.but D2 B2;have aa:=B1.trans B2;have cl:=F.2.2.2;rcases ve hs with rfl | rfl | rfl | rfl | rfl | rfl | ⟨rfl,rfl⟩
 .ctx_has v
  refine⟨∅,λw Z=>k w (.pl (.un cs)) _ ⟨sa,ae,(au.upd0 Z) _ _ B⟩ F (λ_=>⟨_,rfl⟩) (D2.new Z) (aa.new Z)⟩
 .ctx_has v B
  rw[c_];refine br D2 () () λr3 H3 bo bv D3 B3=>?_
  have M3:=M2.but D3 B3;refine⟨d,l,pa,0,ns.map V.int,rfl,D3,.inl M3.hp,∅,by rw[c_];omega,by rw[c_];omega,λq aO rest H4 fq aN _ bb D4 B4=>?_⟩
  obtain⟨av,zv,rfl,ax⟩:=qG V.int DV (λ_=>rfl) aN
  have ab:=B4.tup D3 (B3.tup D2 B);ctx_has v ab
  rw[c_];refine br D4 () () λr5 H5 bp bq D5 B5=>?_
  ctx_has v
  refine⟨∅,λw Z=>k w (.pl (.mn av cs r3 (r3+r5))) _ ⟨q,sa,ae,(au.upd0 Z) _ _ (B5.tup D4 bb),(au.upd0 Z) _ _ (B5.tup D4 ab)⟩ ⟨F,Ct ax M.nn M.n5⟩ (λ_=>⟨_,rfl⟩) (D5.new Z) ((((aa.trans B3).trans B4).trans B5).new Z)⟩
 .ctx_has v
  refine⟨d,l,sa,ra,cs,kvs,rm,rfl,D2,M.nr,B,M2.hr,λc Y=>M2.rf c (F.2.2.1 c Y),cl,λc Y=>M.gd c (F.2.2.1 c Y),λw ts lo hi H3 fw hW bc hb D3 B3=>?_⟩
  refine k w (.pl (.sm ts lo hi)) H3 hW ⟨?_,hb⟩ (λ_=>⟨_,rfl⟩) D3 (aa.trans B3)
  rw[bc];refine⟨?_,F.2.1.sublist (JD _ _),λc Y=>F.2.2.1 c (F_ Y),by simp;omega⟩
  intro e;have:=F.1
  cases cs with
  | nil=>exact this rfl
  | cons x xs=>simp at e
 .ctx_has v
  refine⟨d,l,sa,pa,cs,ns,rfl,D2,M.np,B,M2.hp,M.n5,cl,λp us rows H3 fp ba aS ao aX aK D3 B3=>⟨∅,λw Z=>?_⟩⟩
  have s4:=au.upd0 (o:=.tup [.str "table",.ref sa,.ref p]) Z;exact k w (.pl (.tb cs rows)) _ ⟨sa,p,us,ae,s4 _ _ (B3.tup D2 B),s4 _ _ ba,aS.keep λb xs e=>s4 _ _ e⟩ ⟨F,ao,aX,aK⟩ (λ_=>⟨_,rfl⟩) (D3.same s4) ((aa.trans B3).same s4)
 .ctx_has v
  exact⟨d,l,sa,pa,cs,ns,rfl,D2,B,M.np,M2.hp,M.n5,M.nn,λwa ps es H3 fw ao ar bk hW D3 B3=>k wa (.pl (.wy cs ps es)) H3 hW ⟨F,ao,ar,bk⟩ (λ_=>⟨_,rfl⟩) D3 (aa.trans B3)⟩
 .ctx_has v
  refine⟨∅,λt ht=>lY D2 ht ∅ ∅ rfl λr3 v H3 hv aV D3 B3 h3=>?_⟩
  obtain⟨gap,rfl⟩ : ∃gap:Int,v = .int gap:=by
   simp only[i6,m4,or_false] at hv;rcases hv with rfl | rfl | rfl | rfl | rfl
   .exact⟨_,rfl⟩
   .exact⟨_,rfl⟩
   .exact⟨_,rfl⟩
   .exact⟨_,rfl⟩
   .exact⟨_,rfl⟩
  ctx_has v h3 aV
  refine⟨∅,λw Z=>?_⟩
  have s4:=au.upd0 (o:=.tup [.str "behind",.ref sa,.int gap]) Z;exact k w (.pl (.bh cs gap)) _ ⟨sa,ae,s4 _ _ (B3.tup D2 B)⟩ F (λ_=>⟨_,rfl⟩) (D3.same s4) ((aa.trans B3).same s4)
 .have h2a:=M2.ha
  obtain⟨c0,cr,aI⟩ : ∃c0 cr,cs=c0 :: cr:=by
   cases cs with
   | nil=>exact absurd rfl F.1
   | cons x xs=>exact⟨x,xs,rfl⟩
  have e0:atI (cs.map V.str) 0=some (.str c0):=by rw[aI];exact cg (j:=0) (by simp)
  have be:c0∈cs:=by rw[aI];exact k7
  ctx_has v h2a
  intro R hR;have nR:=D2.ne hR;refine cT ck (λv=>match v with | .str c=>!decide (c=c0) | _=>false) id hR (λH' s=>.of (s _ _ h2a)) (by simp;omega) ?_ ?_ ?_
  .intro x H3 Q3 hx sm q3
   obtain⟨y,hy,rfl⟩:=g7.mp hx;have e1:=sm _ _ B;ctx_has v e1 e0
   exact q3 H3 (au.refl _)
  .intro x H3 Q3 hx _ sm q3
   ctx_has v
   exact q3 H3 (au.refl _)
  .intro H3 sm h3
   obtain⟨rs,ah⟩ : ∃rs,ws.filter (λc=>!decide (c=c0))=rs:=⟨_,rfl⟩
   have a8:H3 R*>(rs.map V.str):=by rw[h3,map_id,Kj,<- ah];rfl
   have ad : ∀c∈rs,c∈ws/\c≠c0:=λc Y=>by
    rw[<- ah] at Y;have:=y9.mp Y
    exact⟨this.1,by simpa using this.2⟩
   have bi:rs.length<=12:=by rw[<- ah];exact gt (Kk _ _) M.wl
   have aT:rs.Nodup:=by rw[<- ah];exact M.nd.sublist List.filter_sublist
   refine⟨∅,λe he=>?_⟩
   have s4:=au.upd0 (o:=.lst []) he;refine⟨.list (rs.map PyData.str),.list [],.lst (.of (s4 _ _ a8)) (fR.strs rs),.lst (.of ae) .nil,by unfold JB;exact vF λc Y=>M.nm c (ad c Y).1,rfl,by unfold Kd;rw[qU];decide,_,rfl,?_⟩
   rw[vq];have ap:=sm.trans s4;have D4:=D2.same ap;have B4:=aa.same ap;have ab:=ap _ _ B;refine cO (λh0=>?_) (λh0=>?_)
   .exact⟨∅,λw Z=>k w (.pl (.un cs)) _ ⟨sa,ae,(au.upd0 Z) _ _ ab⟩ F (λ_=>⟨_,rfl⟩) (D4.new Z) (B4.new Z)⟩
   .refine⟨∅,λaU an=>?_⟩
    have aD:=D4.ne an;have bf:rs≠[]:=by simpa using h0
    have s5:=s4.upd_new (o:=.lst ((jS false).map V.str)) an;have M5:=(M2.same sm).same s5;unfold pN;rw[if_pos rfl];refine⟨d,l,R,ra,pa,aU,rs,ns,kvs,rm,rfl,⟨M5.D,nR,M.nr,M.np,s5 _ _ a8,M5.hr,M5.hp,λc Y=>M5.rf c (ad c Y).1,bf,aT,bi,M.n5,M.nn,λc Y=>M.nm c (ad c Y).1,λc Y=>M.gd c (ad c Y).1⟩,aD,ae,λu W H6 hW bd ar D6 B6=>?_⟩
    obtain⟨W0,rfl⟩:=ar rfl;have aL:=B6.tup M5.D (s5 _ _ (sm _ _ B));have bj:=(aa.same (sm.trans s5)).trans B6;have M6:=M5.but D6 B6;refine⟨_,aL,_,e0,d,l,pa,0,ns.map V.int,rfl,D6,.inl M6.hp,∅,by rw[c_];omega,by rw[c_];omega,λq aO rest H7 fq a9 _ aW D7 B7=>⟨∅,λw Z=>?_⟩⟩
    obtain⟨vs,zv,rfl,ax⟩:=qG V.int DV (λ_=>rfl) a9
    have s8:=au.upd0 (o:=.tup [.str "same",.str c0,.ref q,.ref u]) Z;have am:okW rs ns W0:=bd
    refine k w (.sa c0 vs W0) _ ⟨q,u,ae,s8 _ _ aW,cE hW λb xs e=>s8 _ _ (B7.tup D6 e)⟩ ⟨F.2.2.1 c0 be,Ct ax M.nn M.n5,Cf (λc Y=>(ad c Y).1) am,λY=>(ad c0 (nE am c0 Y)).2 rfl⟩ (λz=>by cases z) (D7.same s8) ((bj.trans B7).same s8)
abbrev Ht:=Fn P w K mg base "_law_fillings" 1 ["_law_names_here","_law_rooms_here"] (Db)
theorem nh (T : Txt w K mg) (L:FnL K mg "_law_fillings" fW ["_law_names_here","_law_rooms_here"]) : @Ht P w K mg base:=by
  ctx_has z nX <;> obtain⟨a,r,cs,kvs,rm,rfl,ha,bc,bd,aS,bb,aI,k⟩:=h
  . rfl
  refine⟨_,(af (aB 2 (bG (ac fF ag)))
    (af (bp (fX K (pvM 0)) (ay 3) (af (aB 4 (bG ag))
    (af (bp (fX K (pvM 2)) (ay 5) (ai (bp (bK K (bx hu (pvM 1) (pvM 3))) (ay 6) (af (aB 7 (aY ji T.b_dict (ac (pvM 5) ag)))
    (af (gV hu (pvM 7) (pvM 3) (pvM 6) rfl)
    (ai (bW (gN o7 o8 db (pvM 4) (ac (pvM 7) ag)))))))))
    (ai (aB 2 (pvM 4))))))
    (ai (az (pvM 2))))),?_⟩
  ctx_has v
  intro p0 aL;refine⟨∅,λp1 aq=>?_⟩
  have s1:au H (upd (upd H p0 (HO.dK [])) p1 (HO.lst [V.ref p0])):=(au.upd0 aL).upd_new aq
  have aH:p0≠p1:=by rintro rfl;rw[ae] at aq;cases aq
  refine⟨_,s1 _ _ ha,?_⟩
  refine bS ck (λi σ H'=>∃(p:Addr) (xs:List V) (v3 v4 v5 v6 v7:Option V),σ=[-a,-r,-p,v3,v4,v5,v6,v7]/\H p=none/\H' p*>xs/\yY H' xs (cs.take i) rm/\xs.length<=4 ^ i/\au H H')
    ⟨p1,[.ref p0],_,_,_,_,_,rfl,(au.upd0 aL).free aq,ae,⟨λx hx=>?_,λg _=>?_⟩,by simp,s1⟩ (λi σ H' aK=>by obtain⟨_,_,_,_,_,_,_,_,_,_,_,_,sm⟩:=aK;exact(.of (sm _ _ ha))) ?_ ?_
  . rw[e_.mp hx]
    exact⟨λ_=>0,λc hc=>by simp at hc,p0,[],rfl,by rw[ah aH];exact ae,λc hc=>by simp at hc,by simp⟩
  . exact⟨.ref p0,by simp,p0,[],rfl,by rw[ah aH];exact ae,λc hc=>by simp at hc,by simp⟩
  . rintro i x σ H2 hi hx ⟨p,xs,v3,v4,v5,v6,v7,rfl,fp,h2,fa,a8,Y⟩
    rw[c_] at hi;obtain⟨c,aA,rfl⟩ : ∃c,cs[i]? = some c/\V.str c=x:=by
      rw[ei] at hx;cases e:cs[i]? with
      | none=>rw[e] at hx;cases hx
      | some nm=>rw[e] at hx;exact⟨nm,rfl,e8 hx⟩
    have a9:c∈cs:=f_ aA
    have a0:cs.take (i+1)=cs.take i++[c]:=by rw[i7,aA];rfl
    have ba:c∉cs.take i:=λhm=>by
      obtain⟨j,hj,e⟩:=uj hm;have aa:j < i:=by simp at hj;omega
      have e2:cs[j]? = some c:=by rw[<- e,List.getElem_take];simp
      have:=fK aS e2 aA
      omega
    obtain⟨ra,aZ,aJ⟩:=bd c a9;have h4:=Hl (show i<=5 by omega)
    ctx_has v
    refine⟨∅,λm hm=>?_⟩
    have pm:p≠m:=ao h2 hm
    refine⟨_,by rw[ah pm];exact h2,?_⟩
    refine bS ck (λj σ H3=>∃(ys:List V) (v5 v6 v7:Option V),σ=[-a,-r,-p,some (.str c),-m,v5,v6,v7]/\H3 m*>ys/\(∀y∈ys,∃g,okF rm (cs.take (i+1)) g/\cD H3 y (cs.take (i+1)) g) /\
        (∀j',j' < j->∀z,xs[j']? = some z->∀g,cD H2 z (cs.take i) g->∀v∈rm c,∃y∈ys,cD H3 y (cs.take (i+1)) (bY g c v))/\ys.length<=4 * j/\au H2 H3)
      ⟨[],_,_,_,rfl,ae,by simp,by simp,by simp,au.upd0 hm⟩ (λj σ H' aF=>by obtain⟨_,_,_,_,_,_,_,_,_,sm⟩:=aF;exact(.of (sm _ _ h2))) ?_ ?_
    . rintro j x σ H3 hj aM ⟨ys,v5,v6,v7,rfl,h3,B,Z,aj,ak⟩
      have bf:=ak _ _ (Y _ _ bc);have aD:=ak _ _ (Y _ _ aJ);ctx_has v bf aZ aD
      refine bS aT (λe σ H4=>∃(ys:List V) (v6 v7:Option V),σ=[-a,-r,-p,some (.str c),-m,some x,v6,v7]/\H4 m*>ys/\(∀y∈ys,∃g,okF rm (cs.take (i+1)) g/\cD H4 y (cs.take (i+1)) g) /\
          (∀j',j' < j->∀z,xs[j']? = some z->∀g,cD H2 z (cs.take i) g->∀v∈rm c,∃y∈ys,cD H4 y (cs.take (i+1)) (bY g c v)) /\
          (∀v∈(rm c).take e,∀g,cD H2 x (cs.take i) g->∃y∈ys,cD H4 y (cs.take (i+1)) (bY g c v))/\ys.length<=4 * j+e/\au H2 H4)
        ⟨ys,_,_,rfl,h3,B,Z,by simp,aj,ak⟩ (λe σ H' aP=>by obtain⟨_,_,_,_,_,_,_,_,_,sm⟩:=aP;exact(.of (sm _ _ (Y _ _ aJ)))) ?_ ?_
      . rintro e y σ H4 he ab ⟨ys,v6,v7,rfl,am,B,Z,an,aj,ap⟩
        rw[c_] at he;obtain⟨v,aO,rfl⟩ : ∃v,(rm c)[e]? = some v/\V.int v=y:=by
          rw[ei] at ab;cases e1:(rm c)[e]? with
          | none=>rw[e1] at ab;cases ab
          | some nm=>rw[e1] at ab;exact⟨nm,rfl,e8 ab⟩
        have aR:x∈xs:=f_ aM
        obtain⟨g0,aW,ax,kx,rfl,a7,aQ,aC⟩:=fa.sound x aR;have aN:=ap _ _ a7;have bg:kx.length<=20:=by have:=aC.1;simp at this;omega
        have aX:=aI c a9;ctx_has v aN
        intro q hq;have mq:m≠q:=ao am hq
        refine⟨_,ae,aE (),?_⟩
        have hM:upd (upd H4 q (HO.dK kx)) q (HO.dK (bm kx (fy c) (V.int v))) m=some (HO.lst ys):=by rw[ah mq,ah mq];exact am
        have kk : ∀b ad,H4 b<*ad->upd (upd (upd H4 q (HO.dK kx)) q (HO.dK (bm kx (fy c) (V.int v)))) m (HO.lst (ys++[V.ref q])) b<*ad:=λb ad eb=>by
          rw[ah (aU eb am (by intro z;cases z)),ah (ao eb hq),ah (ao eb hq)];exact eb
        have hQ:upd (upd (upd H4 q (HO.dK kx)) q (HO.dK (bm kx (fy c) (V.int v)))) m (HO.lst (ys++[V.ref q])) q<*(bm kx (fy c) (V.int v)):=by rw[ah mq.symm];exact ae
        have nf : ∀g,cD H2 (V.ref ax) (cs.take i) g->cD (upd (upd (upd H4 q (HO.dK kx)) q (HO.dK (bm kx (fy c) (V.int v)))) m (HO.lst (ys++[V.ref q]))) (.ref q) (cs.take (i+1)) (bY g c v):=λg ⟨a',k',e1,e2,e3,_⟩=>by
          cases e1;rw[a7] at e2;cases e2;rw[a0];exact cD.put e3 aC ba hQ
        refine⟨⟨_,hM⟩,ys,hM,r_ (show ys.length<=5000 by omega) ∅,ys++[V.ref q],ae,λy hy=>?_,λj' aa z hz g hg v' aw=>?_,λv' aw g hg=>?_,by simp;omega,?_⟩
        . rcases ja.mp hy with z | z
          . obtain⟨g,h5,h6⟩:=B y z
            exact⟨g,h5,h6.keep kk⟩
          . rw[e_.mp z]
            refine⟨bY g0 c v,λc' ar=>?_,nf g0 ⟨ax,kx,rfl,a7,aQ,aC⟩⟩
            rw[a0] at ar
            by_cases ec:c'=c
            . subst ec;rw[be];exact f_ aO
            . rw[bZ _ _ ec]
              rcases ja.mp ar with z | z
              . exact aW c' z
              . exact absurd (e_.mp z) ec
        . obtain⟨y,hy,hf⟩:=Z j' aa z hz g hg v' aw
          exact⟨y,k4 _ hy,hf.keep kk⟩
        . rw[i7,aO] at aw
          rcases ja.mp aw with z | z
          . obtain⟨y,hy,hf⟩:=an v' z g hg
            exact⟨y,k4 _ hy,hf.keep kk⟩
          . have ev:v'=v:=by simpa using z
            subst ev;exact⟨.ref q,by simp,nf g hg⟩
        . intro b o eb
          have e4:=ap b o eb;rw[ah (ao eb hm),ah (ao e4 hq),ah (ao e4 hq)];exact e4
      . rintro σ H4 ⟨ys,v6,v7,rfl,am,B,Z,an,aj,ap⟩
        rw[c_] at an aj;rw[ki] at an;have aX:=aI c a9;refine⟨ys,_,_,_,rfl,am,B,λj' aa z hz g hg v hv=>?_,(),ap⟩
        by_cases ej:j'=j
        . subst ej
          rw[aM] at hz;cases hz;exact an v hv g hg
        . exact Z j' () z hz g hg v hv
    . rintro σ H3 ⟨ys,v5,v6,v7,rfl,h3,B,Z,aj,ak⟩
      ctx_has v
      refine⟨(Y.free hm),ys,h3,⟨B,λg hg=>?_⟩,by rw[Nat.pow_succ];omega,Y.trans ak⟩
      obtain⟨x,hx,aV⟩:=fa.comp g (λc' ar=>hg c' (by rw[a0];exact k4 _ ar))
      obtain⟨j',aa,e'⟩:=uj hx;obtain⟨y,hy,aG⟩:=Z j' aa x (by rw[<- e'];simp) g aV (g c) (hg c (by rw[a0];simp))
      rw[zx] at aG;exact⟨y,hy,aG⟩
  . rintro σ H2 ⟨p,xs,v3,v4,v5,v6,v7,rfl,fp,h2,fa,a8,Y⟩
    rw[c_,ki] at fa;rw[c_] at a8;ctx_has v
    exact k p xs H2 fp h2 fa (gt a8 (Hl bb)) Y
theorem CL (h:okF rm cs g) (ne : ∀c∈ws,rm c≠[]) : ∃g',okF rm ws g'/\∀c∈cs,g' c=g c:=by
 refine⟨λc=>if c∈cs then g c else(rm c).headD 0,λc F=>?_,λc F=>if_pos F⟩
 by_cases B:c∈cs
 .show(if c∈cs then g c else(rm c).headD 0)∈rm c
  rw[if_pos B];exact h c B
 .show(if c∈cs then g c else(rm c).headD 0)∈rm c
  rw[if_neg B];cases e:rm c with
  | nil=>exact absurd e (ne c F)
  | cons x xs=>simp
theorem dB (h:n<=4):n < 1000:=()
theorem Aw (a b c d:Str) (x y z u:V):(cz a x []).length<=4:=by have:=eA a x [];simp at this;omega
theorem zE (a b c d:Str) (x y z u:V):(cz b y (cz a x [])).length<=4:=by have:=eA a x [];have:=eA b y (cz a x []);simp at *;omega
theorem DJ (a b c d:Str) (x y z u:V):(cz c z (cz b y (cz a x []))).length<=4:=by have:=eA a x [];have:=eA b y (cz a x []);have:=eA c z (cz b y (cz a x []));simp at *;omega
theorem IN (a b c d:Str) (x y z u:V):(cz d u (cz c z (cz b y (cz a x [])))).length<=4:=by have:=eA a x [];have:=eA b y (cz a x []);have:=eA c z (cz b y (cz a x []));have:=eA d u (cz c z (cz b y (cz a x [])));simp at *;omega
def dq (mg:Str->Option Value) (C:Str):Sp:=λvs H Q _=>∃(p dx:Addr) (fs:List (Str × V)) (w:V),vs=[.ref p,w]/\H p=some (.ins (ap mg C) dx fs)/\fs.length < 1000/\Q .non (upd H p (.ins (ap mg C) dx (cz "wish" w fs)))
def HW (mg:Str->Option Value) (C:Str) (H:Hp) (p w:Addr):Prop:=∃dx fs,H p=some (.ins (ap mg C) dx fs)/\fs.lookup (b_ "wish")=some (.ref w)/\fs.lookup (b_ "kept")=none
abbrev rn:=List Str × Int
def kz (dat:rn):List Str:=dat.1
def EX (dat:rn):Prop:=dat.1≠[]/\dat.1.Nodup/\dat.1.length<=12
def Cc (dat:rn) (g:Str->Int):Bool:=chB dat.2 (dat.1.map g)
def WSB (H:Hp) (w:Addr) (dat:rn):Prop:=∃c,H w>>[.str "behind",.ref c,.int dat.2]/\H c>>(dat.1.map V.str)
def OBB (mg:Str->Option Value) (H:Hp) (p:Addr) (dat:rn):Prop:=∃dx fs w c,H p=some (.ins (ap mg "Behind") dx fs)/\WSB H w dat/\H c>>(dat.1.map V.str)/\fs.lookup (b_ "wish")=some (.ref w)/\fs.lookup (b_ "cells")=some (.ref c)/\fs.lookup (b_ "gap")=some (.int dat.2) /\
 fs.lookup (b_ "kept")=none/\fs.lookup (b_ "may_keep")=none/\fs.lookup (b_ "may_break")=none
theorem yH {dat:rn} (h:OBB mg H p dat) : ∃dx fs,H p=some (.ins (ap mg "Behind") dx fs)/\fs.lookup (b_ "kept")=none/\fs.lookup (b_ "may_keep")=none/\fs.lookup (b_ "may_break")=none:=by
 obtain⟨dx,fs,w,c,h1,h2,B,_,_,_,r⟩:=h;exact⟨dx,fs,h1,r⟩
structure Cd (mg:Str->Option Value) (H:Hp) (p r:Addr) (dat:rn) (kvs:List (Key × V)) (rm:Str->List Int):Prop where
 ob:OBB mg H p dat
 rd:H r<*kvs
 rf:aX H kvs (kz dat) rm
 ok:EX dat
 ne : ∀c∈kz dat,rm c≠[]/\(rm c).length<=10/\(rm c).Pairwise (· < ·)
def eB (mg:Str->Option Value):Sp:=λvs H Q _=>∃(p r:Addr) (dat:rn) (kvs:List (Key × V)) (rm:Str->List Int),vs=[.ref p,.ref r]/\Cd mg H p r dat kvs rm/\∀(b:Bool) H',(b=true↔∃g,okF rm (kz dat) g/\Cc dat g=true)->au H H'->Q (.bl b) H'
def gZ (mg:Str->Option Value):Sp:=λvs H Q _=>∃(p r:Addr) (dat:rn) (kvs:List (Key × V)) (rm:Str->List Int),vs=[.ref p,.ref r]/\Cd mg H p r dat kvs rm/\∀(b:Bool) H',(b=true↔∃g,okF rm (kz dat) g/\Cc dat g=false)->au H H'->Q (.bl b) H'
def zk (mg:Str->Option Value) (C:Str):Sp:=λvs H Q _=>∃(p dx w:Addr) (dat:rn),vs=[.ref p,.ref w]/\H p=some (.ins (ap mg C) dx [])/\WSB H w dat/\∀H',OBB mg H' p dat->gy p H H'->Q .non H'
theorem BZ {L:Int} (B:(c :: cs).Nodup) (Z:m∈rm c) (hL:L+gap<=m) (F : ∀v∈rm c,L+gap<=v->m<=v) :
  (∃g,okF rm (c :: cs) g/\chB gap (L ::(c :: cs).map g)=true)↔∃g,okF rm cs g/\chB gap (m :: cs.map g)=true:=by
 rw[mu] at B
 constructor
 .rintro⟨g,h1,h2⟩
  rw[i9,gE,k_,decide_eq_true_eq] at h2;exact⟨g,λx Y=>h1 x (j7 _ Y),uO (F _ (h1 c (by simp)) h2.1) h2.2⟩
 .rintro⟨g,h1,h2⟩
  have e:cs.map (bY g c m)=cs.map g:=m9 λx Y=>bZ _ _ (λz=>B.1 (z ▸ Y))
  refine⟨bY g c m,λx Y=>?_,?_⟩
  .by_cases z:x=c
   .subst z;rw[be];exact Z
   .rw[bZ _ _ z];exact h1 x ((i6.mp Y).resolve_left z)
  .rw[i9,be,e,gE,k_,decide_eq_true_eq]
   exact⟨hL,h2⟩
theorem Ab (B:(c :: cs).Nodup) (Y:m∈rm c) (F : ∀v∈rm c,m<=v) :
  (∃g,okF rm (c :: cs) g/\chB gap ((c :: cs).map g)=true)↔∃g,okF rm cs g/\chB gap (m :: cs.map g)=true:=by
 rw[mu] at B
 constructor
 .rintro⟨g,h1,h2⟩
  exact⟨g,λx L=>h1 x (j7 _ L),uO (F _ (h1 c (by simp))) h2⟩
 .rintro⟨g,h1,h2⟩
  have e:cs.map (bY g c m)=cs.map g:=m9 λx L=>bZ _ _ (λz=>B.1 (z ▸ L))
  refine⟨bY g c m,λx L=>?_,?_⟩
  .by_cases z:x=c
   .subst z;rw[be];exact Y
   .rw[bZ _ _ z];exact h1 x ((i6.mp L).resolve_left z)
  .rw[i9,be,e]
   exact h2
def F6 (rm:Str->List Int) (gap:Int) (cs:List Str) (j:Nat):Prop:=∃i,i < j/\∃c B,cs[i]? = some c/\cs[i+1]? = some B/\∃M∈rm c,∃m∈rm B,m < M+gap
theorem qD {gap:Int} : ∀{vs:List Int},chB gap vs=false->∃i,∃a b,vs[i]? = some a/\vs[i+1]? = some b/\b < a+gap
 | [],h=>by cases h
 | [a],h=>by cases h
 | a :: b :: r,h=>by
  rw[gE,Ke] at h;rcases h with h | h
  .exact⟨0,a,b,rfl,rfl,by simpa using h⟩
  .obtain⟨i,x,y,h1,h2,h3⟩:=qD h
   exact⟨i+1,x,y,by simpa using h1,by simpa using h2,h3⟩
theorem yr {gap:Int} : ∀{vs:List Int} {i:Nat} {a b:Int},vs[i]? = some a->vs[i+1]? = some b->b < a+gap->chB gap vs=false
 | [],i,a,b,h,_,_=>by simp at h
 | [x],i,a,b,_,h,_=>by simp at h
 | x :: y :: r,0,a,b,h1,h2,h3=>by
  simp at h1 h2
  subst h1;subst h2;rw[gE,Ke];exact .inl (by simpa using h3)
 | x :: y :: r,i+1,a,b,h1,h2,h3=>by
  rw[gE,Ke];exact .inr (yr (vs:=y :: r) (i:=i) (by simpa using h1) (by simpa using h2) h3)
theorem Au (L:cs.Nodup) (Z : ∀c∈cs,rm c≠[]) :
  (∃i c B,cs[i]? = some c/\cs[i+1]? = some B/\∃M∈rm c,∃m∈rm B,m < M+gap)↔∃g,okF rm cs g/\chB gap (cs.map g)=false:=by
 constructor
 .rintro⟨i,c,B,h1,h2,M,hM,m,hm,hlt⟩
  have Y:c≠B:=λe=>by
   subst e;have:=fK L h1 h2
   omega
  obtain⟨g,F,_⟩:=CL (rm:=rm) (cs:=[]) (g:=λ_=>0) (λc hc=>by simp at hc) Z
  refine⟨bY (bY g c M) B m,λx hx=>?_,?_⟩
  .by_cases e:x=B
   .subst e;rw[be];exact hm
   .rw[bZ _ _ e]
    by_cases e2:x=c
    .subst e2;rw[be];exact hM
    .rw[bZ _ _ e2];exact F x hx
  .refine yr (i:=i) (a:=M) (b:=m) ?_ ?_ hlt
   .rw[ei,h1,Jj,bZ _ _ Y,be]
   .rw[ei,h2,Jj,be]
 .rintro⟨g,F,hb⟩
  obtain⟨i,a,b,h1,h2,h3⟩:=qD hb;rw[ei] at h1 h2;cases e1:cs[i]? with
  | none=>rw[e1] at h1;cases h1
  | some c =>
   cases e2:cs[i+1]? with
   | none=>rw[e2] at h2;cases h2
   | some B =>
    rw[e1] at h1;rw[e2] at h2;have h1:=e8 h1;have h2:=e8 h2;exact⟨i,c,B,e1,e2,g c,F c (f_ e1),g B,F B (f_ e2),()⟩
theorem mH (T:Txt w K mg) (L:cJ K (gp K (ap mg "Wish") "__init__") "__init__" "Wish.__init__" bD ["self","wish"]):FnR P w K mg base (gp K (ap mg "Wish") "__init__") 1 ["self","wish"] (dq mg "Behind"):=by
 ctx_has z bU <;> obtain⟨p,dx,fs,w,rfl,hp,B,k⟩:=h
 .rfl
 refine⟨_,(ai (bE T.cl_Behind T.no_Behind_wish (pvM 0) (pvM 1) rfl)),?_⟩
 ctx_has v hp
 exact⟨B,k⟩
theorem kS (T:Txt w K mg) (L:cJ K (Mk K (ap mg "Behind")) "__init__" "Behind.__init__" eU ["self","wish"]) (B:FnR P w K mg base (gp K (ap mg "Wish") "__init__") 1 ["self","wish"] (dq mg "Behind")):FnR P w K mg base (Mk K (ap mg "Behind")) 2 ["self","wish"] (zk mg "Behind"):=by
 ctx_has z kP <;> obtain⟨p,dx,w,dat,rfl,hp,hW,k⟩:=h
 .rfl
 refine⟨_,(af (bW (jm B (hr.mono (by ctx_has m)) rfl T.at_Wish (ac (pvM 0) (ac (pvM 1) ag))))
  (af (bE T.cl_Behind T.no_Behind_cells (pvM 0) (aC aZ (pvM 1) aj) rfl)
  (ai (bE T.cl_Behind T.no_Behind_gap (pvM 0) (aC aZ (pvM 1) aj) rfl)))),?_⟩
 obtain⟨cs,gap⟩:=dat;obtain⟨c,Z,h2⟩:=hW;ctx_has v Z
 have Y:w≠p:=aU Z hp (by intro z;cases z)
 have F:c≠p:=aU h2 hp (by intro z;cases z)
 refine⟨p,dx,[],.ref w,rfl,hp,∅,?_⟩
 ctx_has v ae
 refine⟨_,by rw[ah Y];exact Z,?_⟩
 ctx_has v
 refine⟨dB (Aw _ "" "" "" _ .non .non .non),_,by rw[ah Y,ah Y];exact Z,?_⟩
 ctx_has v
 refine⟨dB (zE _ _ "" "" _ _ .non .non),k _ ⟨dx,_,w,c,ae,⟨c,by rw[ah Y,ah Y,ah Y];exact Z,by rw[ah F,ah F,ah F];exact h2⟩,by rw[ah F,ah F,ah F];exact h2,?_⟩ ?_⟩
 .simp only[bz,dY,String.reduceEq,if_true,if_false,true_and,I0,and_self]
 .intro b o hb e
  rw[ah hb,ah hb,ah hb];exact e
theorem lq (T:Txt w K mg) (L:cJ K (aO K (ap mg "Behind") "may_keep") "may_keep" "Behind.may_keep" dj ["self","rooms"]):FnR P w K mg base (aO K (ap mg "Behind") "may_keep") 22 ["self","rooms"] (eB mg):=by
 ctx_has z kW <;> obtain⟨p,r,dat,kvs,rm,rfl,M,k⟩:=h
 .rfl
 refine⟨_,(af (aB 2 (aF (sh rfl) T.b_min (ac (bx hu (pvM 1) (aC aZ (aS T.cl_Behind T.no_Behind_cells (pvM 0)) aj)) ag)))
  (af (bp (bK K (cW sw (aS T.cl_Behind T.no_Behind_cells (pvM 0)) (dF aj) fe)) (ay 3) (af (fG 4 (N:=["value","least","self"]) (nt:=1) (js:=[2,0]) (aH ["self","rooms","least","cell","enough"] (ak dj).names) (bK K (bx hu (pvM 1) (pvM 3))) (ay 0) aQ (dn (aG kL (aR bu (pvM 1) (aS T.cl_Behind T.no_Behind_gap (pvM 2))) (pvM 0))) (pvM 0))
  (af (bg (aG bM (aF bO T.b_len (ac (pvM 4) ag)) aj) (ai (az dz)) aM)
  (ai (aB 2 (aF (nG rfl) T.b_min (ac (pvM 4) ag)))))))
  (ai (az dz)))),?_⟩
 obtain⟨dx,fs,w,c,h1,h2,h3,l1,l2,l3,l4⟩:=M.ob;obtain⟨cs,gap⟩:=dat;have F:=M.ok;have aa:=M.ne;have ah:=M.rf;simp only[kz,EX] at F aa ah h3 l2 l3 k;cases cs with
 | nil=>exact absurd rfl F.1
 | cons Z cs =>
  obtain⟨a0,a9,aw⟩:=ah Z (by simp)
  have ab:=M.rd;ctx_has v h1 l2 l3 h3 ab a9 aw
  refine⟨rm Z,rfl,(aa Z (by simp)).1,λm0 aE Y=>?_⟩
  ctx_has v h1 l2 l3 h3 ab
  intro p2 H2 e2 s2
  replace e2:H2 p2>>(cs.map V.str):=by
   rw[e2];exact congrArg (λz=>some (HO.tup z)) (mB V.str (Z :: cs) 1)
  ctx_has v e2
  refine bS aT (λi σ H3=>∃(L:Int) (v3 v4:Option V),σ=[-p,-r,some (.int L),v3,v4]/\au H2 H3/\((∃g,okF rm (Z :: cs) g/\chB gap ((Z :: cs).map g)=true)↔∃g,okF rm (cs.drop i) g/\chB gap (L ::(cs.drop i).map g)=true))
   ⟨m0,_,_,rfl,au.refl _,Ab F.2.1 aE Y⟩ (λi σ H' am=>by obtain⟨_,_,_,_,sm,_⟩:=am;exact(.of (sm _ _ e2))) ?_ ?_
  .rintro i x σ H3 hi hx ⟨L,v3,v4,rfl,sm3,hiff⟩
   rw[c_] at hi;obtain⟨B,ad,rfl⟩ : ∃B,cs[i]? = some B/\V.str B=x:=by
    rw[ei] at hx;cases e:cs[i]? with
    | none=>rw[e] at hx;cases hx
    | some nm=>rw[e] at hx;exact⟨nm,rfl,e8 hx⟩
   have an:B∈Z :: cs:=j7 _ (f_ ad)
   have ed:cs.drop i=B :: cs.drop (i+1):=by
    rw[List.drop_eq_getElem_cons hi];rw[k6 hi] at ad;rw[e8 ad]
   have aq:(B :: cs.drop (i+1)).Nodup:=by rw[<- ed];exact(mu.mp F.2.1).2.sublist (List.drop_sublist _ _)
   obtain⟨a1,aD,a7⟩:=ah B an;have aA:=sm3 _ _ (s2 _ _ h1);have aK:=sm3 _ _ (s2 _ _ ab);have ar:=sm3 _ _ (s2 _ _ a7);ctx_has v aK aD ar
   intro q hq;refine cT aT (λv=>match v with | .int v=>decide (L+gap<=v) | _=>false) id hq (λH' s=>.of (s _ _ ar)) (by have:=aa B an;simp;omega) ?_ ?_ ?_
   .intro x H4 Q4 hx sm q4
    obtain⟨y,hy,rfl⟩:=g7.mp hx;have e1:=sm _ _ aA;ctx_has v e1 l3
    exact q4 H4 (au.refl _)
   .intro x H4 Q4 hx _ sm q4
    ctx_has v
    exact q4 H4 (au.refl _)
   .intro H4 sm4 h4
    have aJ:H4 q*>(((rm B).filter λv=>decide (L+gap<=v)).map V.int):=by
     rw[h4,Kj,l_];rfl
    ctx_has v aJ
    refine cO (λh0=>?_) (λh0=>?_)
    .refine k false H4 ?_ ((s2.trans sm3).trans sm4)
     simp only[g_,false_iff];intro hg;obtain⟨g,g1,g2⟩:=hiff.mp hg;rw[ed,i9,gE,k_,decide_eq_true_eq] at g2;have:g B∈(rm B).filter λv=>decide (L+gap<=v):=y9.mpr ⟨g1 B (by rw[ed];simp),by simpa using g2.1⟩
     have:=Jp this
     simp only[c_] at h0;omega
    .refine⟨_,rfl,λhn=>h0 (by rw[hn];rfl),λm hm ao=>?_⟩
     obtain⟨a8,ax⟩:=y9.mp hm;refine⟨sm3.trans sm4,?_⟩
     refine Iff.trans hiff ?_
     rw[ed];exact BZ aq a8 (by simpa using ax) λv hv aI=>ao v (y9.mpr ⟨hv,by simpa using aI⟩)
  .rintro σ H3 ⟨L,v3,v4,rfl,sm3,hiff⟩
   rw[c_,List.drop_length] at hiff;ctx_has v
   refine k true H3 ?_ (s2.trans sm3)
   simp only[true_iff];exact hiff.mpr ⟨λ_=>0,λc hc=>by simp at hc,rfl⟩
theorem kE (T:Txt w K mg) (L:cJ K (aO K (ap mg "Behind") "may_break") "may_break" "Behind.may_break" cR ["self","rooms"]):FnR P w K mg base (aO K (ap mg "Behind") "may_break") 22 ["self","rooms"] (gZ mg):=by
 ctx_has z kH <;> obtain⟨p,r,dat,kvs,rm,rfl,M,k⟩:=h
 .rfl
 refine⟨_,(af (aB 2 (xE rfl rfl T.b_list rfl T.b_zip (ac (aS T.cl_Behind T.no_Behind_cells (pvM 0)) (ac (cW sw (aS T.cl_Behind T.no_Behind_cells (pvM 0)) (dF aj) fe) ag))))
  (ai (az (aF (gl rfl) T.b_any (ac (ba (N:=["ahead","later","rooms","self"]) (nt:=2) (js:=[1,0]) (aH ["self","rooms","pairs"] (ak cR).names) (fX K (pvM 2)) (jf (n:=2) rfl (cF (ay 0) (cF (ay 1) iF))) gu bR (bw oB (aR bu (aF (Ak rfl) T.b_max (ac (bx hu (pvM 2) (pvM 0)) ag)) (aS T.cl_Behind T.no_Behind_gap (pvM 3))) (aF (sh rfl) T.b_min (ac (bx hu (pvM 2) (pvM 1)) ag)))) ag))))),?_⟩
 obtain⟨dx,fs,w,c,h1,h2,h3,l1,l2,l3,l4⟩:=M.ob;obtain⟨cs,gap⟩:=dat;have aw:=M.ok;have Y:=M.ne;have ad:=M.rf;have aN:=M.rd;simp only[kz,EX] at aw Y ad h3 l2 l3 k;ctx_has v h1 l2 h3
 intro p2 H2 e2 s2;rw[show gM (cs.map V.str) (some 1) none=(cs.drop 1).map V.str from mB V.str cs 1] at e2
 have aJ:=s2 _ _ h3;ctx_has v aJ e2
 refine⟨by rw[c_];omega,λpl ts H3 s3 aV a0 hp=>?_⟩
 have B:=s2.trans s3;have aG:=B _ _ h1;have aT:=B _ _ aN;ctx_has v a0
 intro q hq;have aU:ts.length=cs.length - 1:=by rw[hp.1];simp
 refine cM ck (λj ys H4=>∃bs:List Bool,ys=bs.map V.bl/\bs.length=j/\(true∈bs↔F6 rm gap cs j)/\H4 q*>ys/\au H3 H4)
  ⟨[],rfl,rfl,⟨λh=>by simp at h,λam=>by obtain⟨i,hi,_⟩:=am;exact(absurd hi ())⟩,ae,au.upd0 hq⟩ (λj ys H' a7=>by obtain⟨_,_,_,_,_,sm⟩:=a7;exact(.of (sm _ _ a0))) ?_ ?_
 .rintro j x ys H4 hj hx ⟨bs,rfl,hbl,hiff,h4,sm4⟩
  rw[c_] at hj;obtain⟨t,aK,rfl⟩ : ∃t,ts[j]? = some t/\V.ref t=x:=by
   rw[ei] at hx;cases e:ts[j]? with
   | none=>rw[e] at hx;cases hx
   | some nm=>rw[e] at hx;exact⟨nm,rfl,e8 hx⟩
  obtain⟨ca,F⟩ : ∃ca,cs[j]? = some ca:=⟨cs[j]'(),by simp⟩
  obtain⟨cb,Z⟩ : ∃cb,cs[j+1]? = some cb:=⟨cs[j+1]'(),by simp⟩
  have ht:=hp.2 j t (.str ca) (.str cb) aK (by rw[ei,F];rfl) (by rw[ei,List.getElem?_drop,Nat.add_comm,Z];rfl)
  have aM:=sm4 _ _ ht;have ax:ca∈cs:=f_ F
  have ar:cb∈cs:=f_ Z
  obtain⟨aa,a8,aL⟩:=ad ca ax;obtain⟨ab,aC,aA⟩:=ad cb ar;have aI:=sm4 _ _ aT;have aD:=sm4 _ _ (B _ _ aL);have aQ:=sm4 _ _ (B _ _ aA);have aP:=sm4 _ _ aG;ctx_has v aM aI a8 aC aD aQ aP l3
  refine⟨rm ca,rfl,(Y ca ax).1,λM hM aq=>⟨rm cb,rfl,(Y cb ar).1,λm hm an=>?_⟩⟩
  refine⟨h4,by rw[c_];exact aE (),bs++[decide (M+gap > m)],by simp,by simp;omega,?_,ae,λb o e=>by rw[ah (ao e hq)];exact sm4 _ _ e⟩
  constructor
  .intro hb
   rcases ja.mp hb with z | z
   .obtain⟨i,hi,r⟩:=hiff.mp z
    exact⟨i,(),r⟩
   .exact⟨j,(),ca,cb,F,Z,M,hM,m,hm,by simpa using (e_.mp z).symm⟩
  .rintro⟨i,hi,c1,c2,e1,e2,M',hM',m',hm',hlt⟩
   by_cases a9:i=j
   .subst a9
    rw[F] at e1;rw[Z] at e2;cases e1;cases e2;have:=aq M' hM'
    have:=an m' hm'
    exact m7 _ (e_.mpr (by simp;omega))
   .exact k4 _ (hiff.mpr ⟨i,(),c1,c2,e1,e2,M',hM',m',hm',hlt⟩)
 .rintro ys H4 ⟨bs,rfl,hbl,hiff,h4,sm4⟩
  rw[c_] at hbl hiff;ctx_has v
  refine⟨bs,h4,k _ H4 ?_ (B.trans sm4)⟩
  refine Iff.trans ?_ (Au (gap:=gap) aw.2.1 λc hc=>(Y c hc).1)
  have:bs.any id=true↔true∈bs:=by simp
  rw[this,hiff]
  constructor
  .rintro⟨i,hi,r⟩
   exact⟨i,r⟩
  .rintro⟨i,c1,c2,e1,e2,r⟩
   refine⟨i,?_,c1,c2,e1,e2,r⟩
   have:=(i4.mp e2).1
   omega
def dA (rm:Str->List Int) (cs:List Str):List (List Int):=cs.foldl (λps c=>ps.flatMap λp=>(rm c).map λv=>p++[v]) [[]]
theorem qM (rm:Str->List Int):dA rm []=[[]]:=rfl
theorem jP (rm:Str->List Int) (cs:List Str) (c:Str):dA rm (cs++[c])=(dA rm cs).flatMap λp=>(rm c).map λv=>p++[v]:=by simp[dA,J4]
def Af (rm:Str->List Int) (cs:List Str) (p:List Int):Prop:=p.length=cs.length/\∀(i:Nat) c v,cs[i]? = some c->p[i]? = some v->v∈rm c
theorem nC {P:List α->Prop} (F:P []) (L : ∀l a,P l->P (l++[a])) (l:List α):P l:=by
 rw[<- List.reverse_reverse l]
 induction l.reverse with
 | nil=>exact F
 | cons a r B=>rw[List.reverse_cons];exact L _ _ B
theorem kQ (cs:List Str) : ∀{p:List Int},p∈dA rm cs↔Af rm cs p:=by
 refine nC (P:=λcs=>∀{p:List Int},p∈dA rm cs↔Af rm cs p) ?_ ?_ cs
 .intro p
  rw[qM,e_]
  constructor
  .rintro rfl;exact⟨rfl,λi c v e=>by simp at e⟩
  .intro h;exact List.length_eq_zero_iff.mp h.1
 .intro cs c ih p
  rw[jP,mem_flatMap]
  constructor
  .rintro⟨q,hq,hp⟩
   obtain⟨v,F,rfl⟩:=g7.mp hp;obtain⟨h1,h2⟩:=ih.mp hq;refine⟨by simp[h1],λi x u e1 e2=>?_⟩
   by_cases hi:i < cs.length
   .rw[t4 hi] at e1
    rw[t4 (by rw[h1];exact hi)] at e2
    exact h2 i x u e1 e2
   .have hl:=(i4.mp e1).1
    have B:i=cs.length:=by simp at hl;omega
    subst B;rw[u9 (hH _),sub_self] at e1;rw[<- h1,u9 (hH _),sub_self] at e2;cases e1;cases e2;exact F
  .rintro⟨h1,h2⟩
   rcases Ki p with rfl | ⟨q,v,rfl⟩
   .simp at h1
   .have hql:q.length=cs.length:=by simpa using h1
    refine⟨q,ih.mpr ⟨hql,λi x u e1 e2=>h2 i x u ?_ ?_⟩,g7.mpr ⟨v,?_,by simp⟩⟩
    .rw[t4 (i4.mp e1).1];exact e1
    .rw[JC,t4 (i4.mp e2).1];exact e2
    .exact h2 cs.length c v (by simp) (by rw[JC,<- hql];simp)
theorem lK (cs:List Str):(dA rm cs).length=(cs.map λc=>(rm c).length).foldl (· * ·) 1:=by
 refine nC (P:=λcs=>(dA rm cs).length=(cs.map λc=>(rm c).length).foldl (· * ·) 1) ?_ ?_ cs
 .rfl
 .intro cs c ih
  rw[jP,k9,J4,<- ih];have F : ∀ps:List (List Int),(ps.flatMap λp=>(rm c).map λv=>p++[v]).length=ps.length * (rm c).length:=λps=>by
   induction ps with
   | nil=>simp
   | cons p ps B=>rw[Kx,o9,c_,u6,Nat.succ_mul,B];omega
  rw[F];rfl
theorem tI (cs:List Str):(∀c∈cs,(rm c).Nodup)->(dA rm cs).Nodup:=by
 refine nC (P:=λcs=>(∀c∈cs,(rm c).Nodup)->(dA rm cs).Nodup) ?_ ?_ cs
 .intro _;rw[qM];simp
 .intro cs c ih h
  rw[jP];have h1:=ih λx Y=>h x (k4 _ Y)
  have h2:=h c (by simp)
  generalize dA rm cs=ps at h1
  induction ps with
  | nil=>simp
  | cons p ps B =>
   rw[mu] at h1;rw[Kx,rb];refine⟨?_,B h1.2,λa ha b F e=>?_⟩
   .clear B
    generalize rm c=vs at h2
    induction vs with
    | nil=>simp
    | cons v vs L =>
     rw[mu] at h2;rw[i9,mu];refine⟨λhm=>?_,L h2.2⟩
     obtain⟨u,hu,e⟩:=g7.mp hm;have:=List.append_inj_right' e rfl
     simp at this
     exact h2.1 (this ▸ hu)
   .obtain⟨v,_,rfl⟩:=g7.mp ha
    obtain⟨q,Z,F⟩:=mem_flatMap.mp F;obtain⟨u,_,rfl⟩:=g7.mp F;have:=List.append_inj_left' e rfl
    exact h1.1 (this ▸ Z)
theorem vB (h:okF rm cs g):Af rm cs (cs.map g):=⟨by simp,λi c v e1 e2=>by
 rw[ei,e1] at e2;cases e2;exact h c (f_ e1)⟩
theorem vT {p:List Int} (hn:cs.Nodup) (h:Af rm cs p) : ∃g,okF rm cs g/\cs.map g=p:=by
 refine⟨λc=>p.getD (cs.idxOf c) 0,λc F=>?_,?_⟩
 .have hl:=List.idxOf_lt_length_iff.mpr F
  have hp:cs.idxOf c < p.length:=by rw[h.1];exact hl
  have e1:cs[cs.idxOf c]? = some c:=by rw[k6 hl];simp
  have e2:p[cs.idxOf c]? = some (p.getD (cs.idxOf c) 0):=by simp[k6 hp]
  exact h.2 _ c _ e1 e2
 .apply List.ext_getElem?
  intro i;rw[ei]
  by_cases hi:i < cs.length
  .rw[k6 hi,Jj]
   have B:cs.idxOf cs[i]=i:=by
    have hl:=List.idxOf_lt_length_iff.mpr (v_ hi);have e1:cs[cs.idxOf cs[i]]? = some cs[i]:=by rw[k6 hl];simp
    exact fK hn e1 (by simp)
   rw[B];have hp:i < p.length:=by rw[h.1];exact hi
   simp[k6 hp]
  .rw[List.getElem?_eq_none (),List.getElem?_eq_none (by rw[h.1];omega)]
   rfl
abbrev jv:=List Str × List (List Int)
def iR (dat:jv):List Str:=dat.1
def Dq (dat:jv):Prop:=dat.1≠[]/\dat.1.Nodup/\dat.1.length<=12/\dat.2.Nodup/\(∀r∈dat.2,r.length=dat.1.length)/\dat.2.length<=60
def jF (dat:jv) (g:Str->Int):Bool:=decide (dat.1.map g∈dat.2)
def WST (H:Hp) (w:Addr) (dat:jv):Prop:=∃c t vs,H w>>[.str "table",.ref c,.ref t]/\H c>>(dat.1.map V.str)/\H t>>vs/\eO H vs dat.2
theorem BD {w:Addr} {dat:jv} (h:WST H w dat) (k:fi H H'):WST H' w dat:=by
 obtain⟨c,t,vs,h1,h2,F,B⟩:=h;exact⟨c,t,vs,k.tup _ _ h1,k.tup _ _ h2,k.tup _ _ F,B.keep k.tup⟩
def OBT (mg:Str->Option Value) (H:Hp) (p:Addr) (dat:jv):Prop:=∃dx fs w c t vs,H p=some (.ins (ap mg "Table") dx fs)/\WST H w dat/\H c>>(dat.1.map V.str)/\H t>>vs/\eO H vs dat.2/\fs.lookup (b_ "wish")=some (.ref w)/\fs.lookup (b_ "cells")=some (.ref c)/\fs.lookup (b_ "rows")=some (.ref t) /\
 fs.lookup (b_ "kept")=none/\fs.lookup (b_ "may_keep")=none/\fs.lookup (b_ "may_break")=none/\fs.lookup (b_ "has_room")=none/\fs.lookup (b_ "rows_in")=none
theorem AR {dat:jv} (h:OBT mg H p dat) (k:fi H H'):OBT mg H' p dat:=by
 obtain⟨dx,fs,w,c,t,vs,h1,h2,F,B,L,r⟩:=h;exact⟨dx,fs,w,c,t,vs,k.ins _ _ _ _ h1,BD h2 k,k.tup _ _ F,k.tup _ _ B,L.keep k.tup,r⟩
theorem yW {dat:jv} (h:OBT mg H p dat) : ∃dx fs,H p=some (.ins (ap mg "Table") dx fs)/\fs.lookup (b_ "kept")=none/\fs.lookup (b_ "may_keep")=none/\fs.lookup (b_ "may_break")=none:=by
 obtain⟨dx,fs,w,c,t,vs,h1,h2,Z,Y,h5,_,_,_,B,F,L,_⟩:=h;exact⟨dx,fs,h1,B,F,L⟩
structure lz (mg:Str->Option Value) (H:Hp) (p r:Addr) (dat:jv) (kvs:List (Key × V)) (rm:Str->List Int):Prop where
 ob:OBT mg H p dat
 rd:H r<*kvs
 rf:aX H kvs (iR dat) rm
 ok:Dq dat
 ne : ∀c∈iR dat,rm c≠[]/\(rm c).length<=10/\(rm c).Pairwise (· < ·)
theorem lz.same {mg:Str->Option Value} {H H':Hp} {p r:Addr} {dat:jv} {kvs:List (Key × V)} {rm:Str->List Int} (h:lz mg H p r dat kvs rm) (s:au H H'):lz mg H' p r dat kvs rm :=
 ⟨AR h.ob (au.keepTI s),s _ _ h.rd,h.rf.same (λa vs e=>s _ _ e),h.ok,h.ne⟩
def eF (mg:Str->Option Value):Sp:=λvs H Q _=>∃(p r:Addr) (dat:jv) (kvs:List (Key × V)) (rm:Str->List Int),vs=[.ref p,.ref r]/\lz mg H p r dat kvs rm/\∀(b:Bool) H',(b=true↔∃g,okF rm (iR dat) g/\jF dat g=true)->au H H'->Q (.bl b) H'
def gP (mg:Str->Option Value):Sp:=λvs H Q _=>∃(p r:Addr) (dat:jv) (kvs:List (Key × V)) (rm:Str->List Int),vs=[.ref p,.ref r]/\lz mg H p r dat kvs rm/\∀(b:Bool) H',(b=true↔∃g,okF rm (iR dat) g/\jF dat g=false)->au H H'->Q (.bl b) H'
def yF (mg:Str->Option Value) (C:Str):Sp:=λvs H Q _=>∃(p dx w:Addr) (dat:jv),vs=[.ref p,.ref w]/\H p=some (.ins (ap mg C) dx [])/\WST H w dat/\∀H',OBT mg H' p dat->gy p H H'->Q .non H'
theorem wf (l:List Int):l.map (DV ∘ V.int)=l:=(m9 (g:=id) λ_ _=>rfl).trans (map_id l)
def gC (rm:Str->List Int) (cs:List Str) (r:List Int):Bool:=(zipWith (λc v=>decide (v∈rm c)) cs r).all id
theorem il {rm:Str->List Int} : ∀{cs:List Str} {r:List Int},r.length=cs.length->(gC rm cs r=true↔Af rm cs r)
 | [],[],_=>by simp[gC,Af]
 | [],_ :: _,h=>by simp at h
 | _ :: _,[],h=>by simp at h
 | c :: cs,v :: r,h=>by
  have B:=il (rm:=rm) (cs:=cs) (r:=r) (by simpa using h)
  have e:gC rm (c :: cs) (v :: r)=(decide (v∈rm c) && gC rm cs r):=by simp[gC]
  rw[e,k_,decide_eq_true_eq,B]
  constructor
  .rintro⟨h1,h2,h3⟩
   refine⟨by simp[h2],λi x u e1 e2=>?_⟩
   cases i with
   | zero=>simp at e1 e2;subst e1;subst e2;exact h1
   | succ i=>exact h3 i x u (by simpa using e1) (by simpa using e2)
  .rintro⟨h2,h3⟩
   exact⟨h3 0 c v rfl rfl,by simpa using h2,λi x u e1 e2=>h3 (i+1) x u (by simpa using e1) (by simpa using e2)⟩
def A2 (mg:Str->Option Value):Sp:=λvs H Q _=>∃(p t r:Addr) (dat:jv) (kvs:List (Key × V)) (rm:Str->List Int) (B:List Int),vs=[.ref p,.ref t,.ref r]/\lz mg H p r dat kvs rm/\H t>>(B.map V.int)/\∀H',au H H'->Q (.bl (gC rm (iR dat) B)) H'
def nT (mg:Str->Option Value):Sp:=λvs H Q _=>∃(p r:Addr) (dat:jv) (kvs:List (Key × V)) (rm:Str->List Int),vs=[.ref p,.ref r]/\lz mg H p r dat kvs rm/\∀(l:Addr) (vs:List V) H',au H H'->H' l*>vs->vs.length=(dat.2.filter (gC rm dat.1)).length->Q (.ref l) H'
theorem xq {dat:jv} (B:Dq dat):0 < (dat.2.filter (gC rm dat.1)).length↔∃g,okF rm dat.1 g/\jF dat g=true:=by
 constructor
 .intro h
  obtain⟨r,Y⟩:=List.exists_mem_of_length_pos h;obtain⟨h1,h2⟩:=y9.mp Y;obtain⟨g,F,L⟩:=vT B.2.1 ((il (B.2.2.2.2.1 r h1)).mp h2);exact⟨g,F,by unfold jF;rw[L];simpa using h1⟩
 .rintro⟨g,F,L⟩
  have Z:dat.1.map g∈dat.2:=by simpa [jF] using L
  exact Jp (y9.mpr ⟨Z,(il (by simp)).mpr (vB F)⟩)
theorem we {dat:jv} (F:Dq dat) (ab : ∀c∈dat.1,(rm c).Nodup):(dat.2.filter (gC rm dat.1)).length < (dA rm dat.1).length↔∃g,okF rm dat.1 g/\jF dat g=false:=by
 have ac:(dat.2.filter (gC rm dat.1)).Nodup:=F.2.2.2.1.sublist List.filter_sublist
 have ad : ∀r∈dat.2.filter (gC rm dat.1),r∈dA rm dat.1:=λr Z=>by
  obtain⟨h1,h2⟩:=y9.mp Z;exact(kQ dat.1).mpr ((il (F.2.2.2.2.1 r h1)).mp h2)
 constructor
 .intro h
  have : ∃p∈dA rm dat.1,p∉dat.2.filter (gC rm dat.1):=by
   refine nH λaa=>?_
   have Y : ∀p∈dA rm dat.1,p∈dat.2.filter (gC rm dat.1):=λp hp=>nH λhn=>aa ⟨p,hp,hn⟩
   have:=fc (tI dat.1 ab) Y
   omega
  obtain⟨p,hp,af⟩:=this;have B:=(kQ dat.1).mp hp;obtain⟨g,g1,g2⟩:=vT F.2.1 B;refine⟨g,g1,?_⟩
  unfold jF;rw[g2,decide_eq_false_iff_not];exact λhm=>af (y9.mpr ⟨hm,(il B.1).mpr B⟩)
 .rintro⟨g,g1,g2⟩
  have hm:dat.1.map g∉dat.2:=by simpa [jF] using g2
  have hp:dat.1.map g∈dA rm dat.1:=(kQ dat.1).mpr (vB g1)
  have L:(dat.1.map g :: dat.2.filter (gC rm dat.1)).Nodup:=mu.mpr ⟨λhx=>hm (y9.mp hx).1,ac⟩
  have:=fc L (λr Z=>by
   rcases i6.mp Z with rfl | Z
   .exact hp
   .exact ad r Z)
  simp at this
  omega
theorem mD (T:Txt w K mg) (L:cJ K (gp K (ap mg "Wish") "__init__") "__init__" "Wish.__init__" bD ["self","wish"]):FnR P w K mg base (gp K (ap mg "Wish") "__init__") 1 ["self","wish"] (dq mg "Table"):=by
 ctx_has z bU <;> obtain⟨p,dx,fs,w,rfl,hp,B,k⟩:=h
 .rfl
 refine⟨_,(ai (bE T.cl_Table T.no_Table_wish (pvM 0) (pvM 1) rfl)),?_⟩
 ctx_has v hp
 exact⟨B,k⟩
theorem mi (T:Txt w K mg) (L:cJ K (Mk K (ap mg "Table")) "__init__" "Table.__init__" fk ["self","wish"]) (B:FnR P w K mg base (gp K (ap mg "Wish") "__init__") 1 ["self","wish"] (dq mg "Table")):FnR P w K mg base (Mk K (ap mg "Table")) 2 ["self","wish"] (yF mg "Table"):=by
 ctx_has z lZ <;> obtain⟨p,dx,w,dat,rfl,hp,hW,k⟩:=h
 .rfl
 refine⟨_,(af (bW (jm B (hr.mono (by ctx_has m)) rfl T.at_Wish (ac (pvM 0) (ac (pvM 1) ag))))
  (af (bE T.cl_Table T.no_Table_cells (pvM 0) (aC aZ (pvM 1) aj) rfl)
  (ai (bE T.cl_Table T.no_Table_rows (pvM 0) (aC aZ (pvM 1) aj) rfl)))),?_⟩
 obtain⟨cs,rows⟩:=dat;obtain⟨c,tr,vs,Y,h2,h3,h4⟩:=hW;ctx_has v Y
 have Z:w≠p:=aU Y hp (by intro z;cases z)
 have pt : ∀b xs,H b>>xs->b≠p:=λb xs e=>aU e hp (by intro z;cases z)
 refine⟨p,dx,[],.ref w,rfl,hp,∅,?_⟩
 ctx_has v ae
 refine⟨_,by rw[ah Z];exact Y,?_⟩
 ctx_has v
 refine⟨dB (Aw _ "" "" "" _ .non .non .non),_,by rw[ah Z,ah Z];exact Y,?_⟩
 ctx_has v
 have F : ∀b xs o1 o2 o3,H b>>xs->upd (upd (upd H p o1) p o2) p o3 b>>xs:=λb xs o1 o2 o3 e=>by rw[ah (pt b xs e),ah (pt b xs e),ah (pt b xs e)];exact e
 refine⟨dB (zE _ _ "" "" _ _ .non .non),k _ ⟨dx,_,w,c,tr,vs,ae,⟨c,tr,vs,F _ _ _ _ _ Y,F _ _ _ _ _ h2,F _ _ _ _ _ h3,h4.keep λa xs e=>F _ _ _ _ _ e⟩,F _ _ _ _ _ h2,F _ _ _ _ _ h3,h4.keep λa xs e=>F _ _ _ _ _ e,?_⟩ ?_⟩
 .simp only[bz,dY,String.reduceEq,if_true,if_false,true_and,I0,and_self]
 .intro b o hb e
  rw[ah hb,ah hb,ah hb];exact e
theorem ma (T:Txt w K mg) (L:cJ K (aO K (ap mg "Table") "has_room") "has_room" "Table.has_room" dH ["self","row","rooms"]):FnR P w K mg base (aO K (ap mg "Table") "has_room") 1 ["self","row","rooms"] (A2 mg):=by
 ctx_has z lV <;> obtain⟨p,t,r,dat,kvs,rm,af,rfl,M,ht,k⟩:=h
 .rfl
 refine⟨_,(ai (az (aF (no rfl) T.b_all (ac (ba (N:=["cell","value","rooms"]) (nt:=2) (js:=[2]) (aH ["self","row","rooms"] (ak dH).names) (FX (K:=K) rfl rfl T.b_zip (ac (aS T.cl_Table T.no_Table_cells (pvM 0)) (ac (pvM 1) ag))) (jf (n:=2) rfl (cF (ay 0) (cF (ay 1) iF))) gu bR (bw iW (pvM 1) (bx hu (pvM 2) (pvM 0)))) ag)))),?_⟩
 obtain⟨dx,fs,w,c,tr,vs,h1,h2,Y,h4,h5,l1,l2,l3,l4⟩:=M.ob;obtain⟨cs,rows⟩:=dat;have B:=M.rf;have F:=M.rd;have ad:=M.ok;simp only[iR,Dq] at ad B Y l2 k;ctx_has v h1 l2 Y ht
 intro q hq;refine zZ (λx y=>match x,y with | .str c,.int v=>.bl (decide (v∈rm c)) | _,_=>.non) hq Y ht (by rw[c_];omega) ?_ ?_
 .intro x y H3 Q3 hx hy sm q3
  obtain⟨cx,ab,rfl⟩:=g7.mp hx;obtain⟨y,_,rfl⟩:=g7.mp hy;obtain⟨a1,Z,aa⟩:=B cx ab;have e1:=sm _ _ F;have e2:=sm _ _ aa;ctx_has v e1 Z e2
  refine⟨rfl,cu _,?_⟩
  rw[dR];exact q3 H3 (au.refl _)
 .intro H3 sm h3'
  ctx_has v
  refine⟨zipWith (λc v=>decide (v∈rm c)) cs af,?_,k H3 sm⟩
  rw[h3',List.map_zipWith,List.zipWith_map]
theorem nO (T:Txt w K mg) (L:cJ K (aO K (ap mg "Table") "rows_in") "rows_in" "Table.rows_in" eh ["self","rooms"]) (B:FnR P w K mg base (aO K (ap mg "Table") "has_room") 1 ["self","row","rooms"] (A2 mg)):FnR P w K mg base (aO K (ap mg "Table") "rows_in") 2 ["self","rooms"] (nT mg):=by
 ctx_has z nV <;> obtain⟨p,r,dat,kvs,rm,rfl,M,k⟩:=h
 .rfl
 refine⟨_,(ai (az (ba (N:=["row","self","rooms"]) (nt:=1) (js:=[0,1]) (aH ["self","rooms"] (ak eh).names) (bK K (aS T.cl_Table T.no_Table_rows (pvM 0))) (ay 0) aQ (dn (dw (cy T.cl_Table B (hr.mono (by ctx_has m)) (pvM 1) (ac (pvM 0) (ac (pvM 2) ag))))) (pvM 0)))),?_⟩
 obtain⟨dx,fs,w,c,tr,vs,h1,h2,h3,h4,h5,l1,l2,l3,l4,l5,l6,l7,l8⟩:=M.ob;have Y:=M.ok;ctx_has v h1 l3 h4
 intro q hq;obtain⟨as,rfl,e2,Z⟩:=h5;refine cT aT (λv=>match v with | .ref a=>(match H a with | some (.tup xs)=>gC rm dat.1 (xs.map DV) | _=>false) | _=>false) id hq (λH' s=>.of (s _ _ h4)) (by have:=Y.2.2.2.2.2;rw[e2] at this;simp at this ⊢;omega) ?_ ?_ ?_
 .intro x H4 Q4 F sm q4
  obtain⟨y,hy,rfl⟩:=g7.mp F;have g1:=sm _ _ h1;ctx_has v g1 l7
  refine⟨p,y.1,r,dat,kvs,rm,y.2,rfl,M.same sm,sm _ _ (Z y hy),λH5 s5=>?_⟩
  have:=q4 H5 s5
  simp only[Z y hy,l_] at this;rw[wf] at this;exact⟨_,rfl,this⟩
 .intro x H4 Q4 F _ sm q4
  ctx_has v
  exact q4 H4 (au.refl _)
 .intro H4 sm h4'
  refine k q _ H4 sm h4' ?_
  rw[c_,Kj,c_,e2,Kj,c_]
  congr 1
  refine List.filter_congr λx F=>?_
  simp only[Function.comp_apply,Z x F,l_];rw[wf]
theorem lX (T:Txt w K mg) (L:cJ K (aO K (ap mg "Table") "may_keep") "may_keep" "Table.may_keep" fA ["self","rooms"]) (B:FnR P w K mg base (aO K (ap mg "Table") "rows_in") 2 ["self","rooms"] (nT mg)):FnR P w K mg base (aO K (ap mg "Table") "may_keep") 22 ["self","rooms"] (eF mg):=by
 ctx_has z lU <;> obtain⟨p,r,dat,kvs,rm,rfl,M,k⟩:=h
 .rfl
 refine⟨_,(ai (az (bw oB (aF bO T.b_len (ac (cy T.cl_Table B (hr.mono (by ctx_has m)) (pvM 0) (ac (pvM 1) ag)) ag)) aj))),?_⟩
 obtain⟨dx,fs,w,c,tr,vs,h1,h2,h3,h4,h5,l1,Z,l3,l4,l5,l6,l7,Y⟩:=M.ob;ctx_has v h1 Y
 refine⟨p,r,dat,kvs,rm,rfl,M,λl vs H1 F e1 hl=>?_⟩
 ctx_has v e1
 refine k _ H1 ?_ F
 refine Iff.trans ?_ (xq M.ok)
 rw[decide_eq_true_eq,hl];omega
theorem lv (T:Txt w K mg) (L:cJ K (aO K (ap mg "Table") "may_break") "may_break" "Table.may_break" eQ ["self","rooms"]) (B:FnR P w K mg base (aO K (ap mg "Table") "rows_in") 2 ["self","rooms"] (nT mg)):FnR P w K mg base (aO K (ap mg "Table") "may_break") 22 ["self","rooms"] (gP mg):=by
 ctx_has z lB <;> obtain⟨p,r,dat,kvs,rm,rfl,M,k⟩:=h
 .rfl
 refine⟨_,(af (aB 2 aj)
  (af (bp (bK K (aS T.cl_Table T.no_Table_cells (pvM 0))) (ay 3) (ai (EV 2 (aF iy T.b_len (ac (bx hu (pvM 1) (pvM 3)) ag)) GA)))
  (ai (az (bw By (aF bO T.b_len (ac (cy T.cl_Table B (hr.mono (by ctx_has m)) (pvM 0) (ac (pvM 1) ag)) ag)) (pvM 2)))))),?_⟩
 obtain⟨dx,fs,w,c,tr,vs,h1,h2,h3,h4,h5,l1,l2,l3,l4,l5,l6,l7,l8⟩:=M.ob;have aq:=M.ok;have Y:=M.ne;have ab:=M.rf;have ah:=M.rd;simp only[iR] at Y ab;ctx_has v h1 l2 h3
 refine bS aT (λi σ H2=>∃(v3:Option V),σ=[-p,-r,some (.int ((dA rm (dat.1.take i)).length:Int)),v3]/\H2=H) ⟨_,by rfl,rfl⟩ (λi σ H2 ad=>by obtain⟨_,_,e⟩:=ad;exact(by rw[e];exact .of h3)) ?_ ?_
 .rintro i x σ H2 hi hx ⟨v3,rfl,rfl⟩
  obtain⟨F,aa,rfl⟩ : ∃F,dat.1[i]? = some F/\V.str F=x:=by
   rw[ei] at hx;cases e:dat.1[i]? with
   | none=>rw[e] at hx;cases hx
   | some nm=>rw[e] at hx;exact⟨nm,rfl,e8 hx⟩
  have Z:F∈dat.1:=f_ aa
  obtain⟨a1,am,an⟩:=ab F Z;have ak:dat.1.take (i+1)=dat.1.take i++[F]:=by rw[i7,aa];rfl
  ctx_has v ah am an
  have ao:=(Y F Z).2.1;refine⟨.inr ⟨by rw[c_];omega,by rw[c_];omega⟩,?_⟩
  rw[ak,lK,lK,k9,J4,c_];simp
 .rintro σ H2 ⟨v3,rfl,rfl⟩
  rw[c_,ki];ctx_has v h1 l8
  refine⟨p,r,dat,kvs,rm,rfl,M,λl vs H1 s1 e1 hl=>?_⟩
  ctx_has v e1
  refine k _ H1 ?_ s1
  refine Iff.trans ?_ (we M.ok λc hc=>(Y c hc).2.2.imp λh=>by omega)
  rw[decide_eq_true_eq,hl];omega
abbrev mE:=List Str × List (Int × Int × Int) × List Int
def gO (dat:mE):List Str:=dat.1
def F0 (dat:mE):Prop:=dat.1≠[]/\dat.1.Nodup/\dat.1.length<=12/\(dat.2.1.map λx=>(x.1,x.2.1)).Nodup/\dat.2.1.length<=60/\dat.2.2.length<=60
def tO (dat:mE) (g:Str->Int):Bool:=tP dat.2.2 (ic dat.2.1 (some 0) (dat.1.map g))
def WSW (H:Hp) (w:Addr) (dat:mE):Prop:=∃c t e vs,H w>>[.str "way",.ref c,.ref t,.ref e]/\H c>>(dat.1.map V.str)/\H t>>vs/\lI H vs dat.2.1/\H e>>(dat.2.2.map V.int)
theorem AM {w:Addr} {dat:mE} (h:WSW H w dat) (k:fi H H'):WSW H' w dat:=by
 obtain⟨c,t,e,vs,h1,h2,F,B,L⟩:=h;exact⟨c,t,e,vs,k.tup _ _ h1,k.tup _ _ h2,k.tup _ _ F,B.keep k.tup,k.tup _ _ L⟩
def OBW (mg:Str->Option Value) (H:Hp) (p:Addr) (dat:mE):Prop:=∃dx fs w c e l,H p=some (.ins (ap mg "Way") dx fs)/\WSW H w dat/\H c>>(dat.1.map V.str)/\H e>>(dat.2.2.map V.int)/\H l=some (.dT (dQ dat.2.1))/\fs.lookup (b_ "wish")=some (.ref w)/\fs.lookup (b_ "cells")=some (.ref c)/\fs.lookup (b_ "ends")=some (.ref e)/\fs.lookup (b_ "leads")=some (.ref l) /\
 fs.lookup (b_ "kept")=none/\fs.lookup (b_ "may_keep")=none/\fs.lookup (b_ "may_break")=none/\fs.lookup (b_ "states_behind")=none/\fs.lookup (b_ "last_states")=none
theorem Ca {dat:mE} (h:OBW mg H p dat) (k:fi H H'):OBW mg H' p dat:=by
 obtain⟨dx,fs,w,c,e,l,h1,h2,F,B,L,r⟩:=h;exact⟨dx,fs,w,c,e,l,k.ins _ _ _ _ h1,AM h2 k,k.tup _ _ F,k.tup _ _ B,k.dt _ _ L,r⟩
theorem yt {dat:mE} (h:OBW mg H p dat) : ∃dx fs,H p=some (.ins (ap mg "Way") dx fs)/\fs.lookup (b_ "kept")=none/\fs.lookup (b_ "may_keep")=none/\fs.lookup (b_ "may_break")=none:=by
 obtain⟨dx,fs,w,c,e,l,h1,h2,Z,Y,h5,_,_,_,_,B,F,L,_⟩:=h;exact⟨dx,fs,h1,B,F,L⟩
structure xQ (mg:Str->Option Value) (H:Hp) (p r:Addr) (dat:mE) (kvs:List (Key × V)) (rm:Str->List Int):Prop where
 ob:OBW mg H p dat
 rd:H r<*kvs
 rf:aX H kvs (gO dat) rm
 ok:F0 dat
 ne : ∀c∈gO dat,rm c≠[]/\(rm c).length<=10/\(rm c).Pairwise (· < ·)
def eD (mg:Str->Option Value):Sp:=λvs H Q _=>∃(p r:Addr) (dat:mE) (kvs:List (Key × V)) (rm:Str->List Int),vs=[.ref p,.ref r]/\xQ mg H p r dat kvs rm/\∀(b:Bool) H',(b=true↔∃g,okF rm (gO dat) g/\tO dat g=true)->au H H'->Q (.bl b) H'
def gR (mg:Str->Option Value):Sp:=λvs H Q _=>∃(p r:Addr) (dat:mE) (kvs:List (Key × V)) (rm:Str->List Int),vs=[.ref p,.ref r]/\xQ mg H p r dat kvs rm/\∀(b:Bool) H',(b=true↔∃g,okF rm (gO dat) g/\tO dat g=false)->au H H'->Q (.bl b) H'
def vD (mg:Str->Option Value) (C:Str):Sp:=λvs H Q _=>∃(p dx w:Addr) (dat:mE),vs=[.ref p,.ref w]/\H p=some (.ins (ap mg C) dx [])/\WSW H w dat/\F0 dat/\∀H',OBW mg H' p dat->gy p H H'->Q .non H'
theorem lm (ps:List (Int × Int × Int)) (st:Option Int) (v:Int):lH ps st v∈none :: ps.map λx=>some x.2.2:=by
 cases st with
 | none=>exact k7
 | some s =>
  show(ps.find? λx=>decide (x.1=s/\x.2.1=v)).map (λx=>x.2.2)∈none :: ps.map λx=>some x.2.2
  cases e:ps.find? λx=>decide (x.1=s/\x.2.1=v) with
  | none=>exact k7
  | some x=>exact j7 _ (g7.mpr ⟨x,List.mem_of_find?_eq_some e,rfl⟩)
theorem vU {k:Option Int} (h:ks.Nodup):(rA ks k).Nodup:=by
 unfold rA
 split
 .exact h
 .rename_i hk
  rw[rb];exact⟨h,by simp,λa ha b B=>by rw[e_.mp B];rintro rfl;exact hk ha⟩
theorem zQ {k x:Option Int}:x∈rA ks k↔x∈ks\/x=k:=by
 unfold rA
 split
 .rename_i hk
  exact⟨.inl,λh=>h.elim id λe=>e ▸ hk⟩
 .rw[ja,e_]
def BC (P:Program) (w:World) (mg:Str->Option Value):Sp:=λvs H Q _=>∃(p d r:Addr) (dat:mE) (o:Obj) (ks:List (Option Int)) (F:List Int),vs=[.ref p,.ref d,.ref r]/\OBW mg H p dat/\F0 dat/\H d=some (fb P w d o ks)/\H r>>(F.map V.int) /\
 ∀(q:Addr) (o':Obj) (B:List (Option Int)) H',au H H'->H' q=some (fb P w q o' B)->B.length<=100->(∀L,L∈B↔∃k∈ks,∃v∈F,lH dat.2.1 k v=L)->Q (.ref q) H'
def tL (P:Program) (w:World) (mg:Str->Option Value):Sp:=λvs H Q _=>∃(p r:Addr) (dat:mE) (kvs:List (Key × V)) (rm:Str->List Int),vs=[.ref p,.ref r]/\xQ mg H p r dat kvs rm /\
 ∀(q:Addr) (o:Obj) (ks:List (Option Int)) H',au H H'->H' q=some (fb P w q o ks)->ks.length<=100->(∀B,B∈ks↔∃g,okF rm (gO dat) g/\ic dat.2.1 (some 0) ((gO dat).map g)=B)->Q (.ref q) H'
theorem Ac {ps:List (Int × Int × Int)} (hn:cs.Nodup) (hc:cs[i]? = some c) {ks F:List (Option Int)} (h : ∀B,B∈ks↔∃g,okF rm cs g/\ic ps (some 0) ((cs.map g).take i)=B) (h' : ∀B,B∈F↔∃k∈ks,∃v∈rm c,lH ps k v=B) :
  ∀B,B∈F↔∃g,okF rm cs g/\ic ps (some 0) ((cs.map g).take (i+1))=B:=λB=>by
 have Z:c∈cs:=f_ hc
 have et : ∀g:Str->Int,(cs.map g).take (i+1)=(cs.map g).take i++[g c]:=λg=>by rw[i7,ei,hc];rfl
 have Y:c∉cs.take i:=λhm=>by
  have e2:cs.take (i+1)=cs.take i++[c]:=by rw[i7,hc];rfl
  have hd:(cs.take i++[c]).Nodup:=by rw[<- e2];exact hn.sublist (JD _ _)
  rw[rb] at hd;exact hd.2.2 _ hm _ (by simp) rfl
 rw[h']
 constructor
 .rintro⟨k,hk,v,hv,rfl⟩
  obtain⟨g,L,rfl⟩:=(h k).mp hk;refine⟨λx=>if x=c then v else g x,λx hx=>?_,?_⟩
  .by_cases e:x=c
   .subst e;simpa using hv
   .simpa [e] using L x hx
  .rw[et,mt]
   have e1:(cs.map λx=>if x=c then v else g x).take i=(cs.map g).take i:=by
    rw[<- map_take,<- map_take]
    apply m9
    intro x hx;have:x≠c:=λe=>Y (e ▸ hx)
    simp[this]
   rw[e1];simp[ic]
 .rintro⟨g,L,rfl⟩
  refine⟨_,(h _).mpr ⟨g,L,rfl⟩,g c,L c Z,?_⟩
  rw[et,mt];rfl
theorem AJ (es:List Int) (k:Option Int):inV (oV k) (es.map V.int)=tP es k:=by
 cases k with
 | some s=>exact dR s es
 | none =>
  show inV .non (es.map V.int)=false
  induction es with
  | nil=>rfl
  | cons a es B=>rw[i9];unfold inV at B ⊢;rw[Kh,B];rfl
theorem lT (T:Txt w K mg) (L:cJ K (gp K (ap mg "Wish") "__init__") "__init__" "Wish.__init__" bD ["self","wish"]):FnR P w K mg base (gp K (ap mg "Wish") "__init__") 1 ["self","wish"] (dq mg "Way"):=by
 ctx_has z bU <;> obtain⟨p,dx,fs,w,rfl,hp,B,k⟩:=h
 .rfl
 refine⟨_,(ai (bE T.cl_Way T.no_Way_wish (pvM 0) (pvM 1) rfl)),?_⟩
 ctx_has v hp
 exact⟨B,k⟩
theorem pj (T:Txt w K mg) (L:cJ K (Mk K (ap mg "Way")) "__init__" "Way.__init__" gv ["self","wish"]) (F:FnR P w K mg base (gp K (ap mg "Wish") "__init__") 1 ["self","wish"] (dq mg "Way")):FnR P w K mg base (Mk K (ap mg "Way")) 2 ["self","wish"] (vD mg "Way"):=by
 ctx_has z pC <;> obtain⟨p,dx,w,dat,rfl,hp,hW,ad,k⟩:=h
 .rfl
 refine⟨_,(af (bW (jm F (hr.mono (by ctx_has m)) rfl T.at_Wish (ac (pvM 0) (ac (pvM 1) ag))))
  (af (bE T.cl_Way T.no_Way_cells (pvM 0) (aC aZ (pvM 1) aj) rfl)
  (af (bE T.cl_Way T.no_Way_ends (pvM 0) (aC aZ (pvM 1) aj) rfl)
  (af (bE T.cl_Way T.no_Way_leads (pvM 0) A0 rfl)
  (ai (bp (bK K (aC aZ (pvM 1) aj)) (ay 2) (ai (Ds hu (aS T.cl_Way T.no_Way_leads (pvM 0)) (cW sw (pvM 2) fe (dF aj)) (aC aZ (pvM 2) aj) rfl)))))))),?_⟩
 obtain⟨cs,ps,es⟩:=dat;obtain⟨c,t,e,vs,hw,h2,Z,h4,h5⟩:=hW;obtain⟨as,rfl,rfl,ab⟩:=h4;have aq:=ad.2.2.2.1;have an:=ad.2.2.2.2.1;have pt : ∀b xs,H b>>xs->b≠p:=λb xs e=>aU e hp (by intro z;cases z)
 have pw:=pt _ _ hw;ctx_has v hw
 refine⟨p,dx,[],.ref w,rfl,hp,∅,?_⟩
 ctx_has v ae
 refine⟨_,by rw[ah pw];exact hw,?_⟩
 ctx_has v
 refine⟨dB (Aw _ "" "" "" _ .non .non .non),_,by rw[ah pw,ah pw];exact hw,?_⟩
 ctx_has v Ci
 refine⟨dB (zE _ _ "" "" _ _ .non .non),λl hl=>?_⟩
 simp only[lP] at hl ⊢;have lp:l≠p:=λz=>by rw[z,ae] at hl;cases hl
 have Y:H l=none:=by rw[ah lp] at hl;exact hl
 refine⟨dx,_,by rw[ah (tj lp)];exact ae,dB (DJ _ _ _ "" _ _ _ .non),_,by rw[ah pw,ah (ao hw Y),ah pw];exact hw,_,rfl,t,rfl,_,by rw[ah (pt _ _ Z),ah (ao Z Y),ah (pt _ _ Z)];exact Z,?_⟩
 have lk:(cz "leads" (.ref l) (cz "ends" (.ref e) (cz "cells" (.ref c) (cz "wish" (.ref w) [])))).lookup (b_ "leads")=some (.ref l):=by simp only[bz,if_true]
 have B5 : ∀o1 o2,gy p H (upd (upd (upd H p o1) l (.dT [])) p o2):=λo1 o2 b o hb e=>by rw[ah hb,ah (ao e Y),ah hb];exact e
 refine bS aT (λi σ H'=>∃v2,σ=[-p,-w,v2]/\gy p H H'/\H' p=some (.ins (ap mg "Way") dx (cz "leads" (.ref l) (cz "ends" (.ref e) (cz "cells" (.ref c) (cz "wish" (.ref w) [])))))/\H' l=some (.dT (dQ ((as.map (·.2)).take i)))) ⟨_,rfl,B5 _ _,ae,by rw[ah lp];exact ae⟩ (λi σ H' aa=>by obtain⟨_,_,B,_⟩:=aa;exact(.of (B _ _ (pt _ _ Z) Z))) ?_ ?_
 .rintro i x σ H' hi hx ⟨v2,rfl,B,hpp,hd⟩
  obtain⟨y,hy,rfl⟩ : ∃y,as[i]? = some y/\V.ref y.1=x:=by
   rw[ei] at hx;cases e:as[i]? with
   | none=>rw[e] at hx;cases hx
   | some nm=>rw[e] at hx;exact⟨nm,rfl,e8 hx⟩
  have ak:=ab y (f_ hy);have am:=B _ _ (pt _ _ ak) ak;ctx_has v Ey am hpp lk
  intro q H2 hq s2;have ar:(as.map (·.2))[i]? = some y.2:=by rw[ei,hy];rfl
  refine⟨_,Av.t (k:=[i_ y.2.1,i_ y.2.2.1]) (s2 _ _ hd) hq ?_,λb o hb e=>?_,by rw[ah (tj lp)];exact s2 _ _ hpp,by rw[ae,xx aq ar]⟩
  .unfold dQ
   rw[c_];exact r_ (x_ _ _) (h_ (show(as.map (·.2)).length < 1000 by have:(as.map (·.2)).length<=60:=an;omega) ∅)
  .rw[ah (ao e Y)]
   exact s2 _ _ (B b o hb e)
 .rintro σ H' ⟨v2,rfl,B,hpp,hd⟩
  rw[c_,show(as.map (·.2)).take as.length=as.map (·.2) from p_ (by simp)] at hd
  have kt : ∀b xs,H b>>xs->H' b>>xs:=λb xs e=>B _ _ (pt _ _ e) e
  ctx_has v
  refine k _ ⟨dx,_,w,c,e,l,hpp,⟨c,t,e,_,kt _ _ hw,kt _ _ h2,kt _ _ Z,⟨as,rfl,rfl,λx hx=>kt _ _ (ab x hx)⟩,kt _ _ h5⟩,kt _ _ h2,kt _ _ h5,hd,?_⟩ B
  simp only[bz,dY,String.reduceEq,if_true,if_false,true_and,I0,and_self]
theorem ka (T : Txt w K mg) (L:cJ K (aO K (ap mg "Way") "states_behind") "states_behind" "Way.states_behind" dP ["self","states","room"]):FnR P w K mg base (aO K (ap mg "Way") "states_behind") 1 ["self","states","room"] (BC P w mg):=by
  ctx_has z jG <;> obtain⟨p,d,r,dat,o,ks,rs,rfl,hO,a9,hd,ar,k⟩:=h
  . rfl
  refine⟨_,(af (aB 3 (zo (P:=P) (w:=w) rfl rfl fF))
    (af (bp (CT (P:=P) (w:=w) rfl rfl (pvM 1)) (ay 4) (ai (bp (bK K (pvM 2)) (ay 5) (ai (AK (P:=P) (w:=w) rfl rfl hu (pvM 3) (BO hu (aS T.cl_Way T.no_Way_leads (pvM 0)) (bT (ac (pvM 4) (ac (pvM 5) ag))) ⟨rfl,rfl,rfl,rfl⟩) dz rfl)))))
    (ai (az (pvM 3))))),?_⟩
  obtain⟨cs,ps,es⟩:=dat;obtain⟨dx,fs,wa,c,e,l,h1,h2,h3,h4,h5,l1,l2,l3,l4,l5⟩:=hO;have aA:ps.length<=60:=a9.2.2.2.2.1
  ctx_has v DH tK
  intro q hq;refine⟨[],ae,∅,λo1=>?_⟩
  rw[lP];ctx_has v iN
  refine⟨o,ks,(au.upd0 hq) _ _ hd,?_⟩
  refine bS BN (λi σ H'=>∃o' Y v4 v5,σ=[-p,-d,-r,-q,v4,v5]/\au H H'/\H' q=some (fb P w q o' Y)/\Y.Nodup/\(∀k',k'∈Y↔∃k∈ks.take i,∃v∈rs,lH ps k v=k')) ⟨_,[],_,_,rfl,au.upd0 hq,ae,by simp,by simp⟩ (λi σ H' aw=>by obtain⟨_,_,_,_,_,sm,_⟩:=aw;exact(sm _ _ hd)) ?_ ?_
  . rintro i x σ H' hi hx ⟨o',Y,v4,v5,rfl,sm,an,ad,F⟩
    obtain⟨kk,a0,rfl⟩ : ∃y,ks[i]? = some y/\oV y=x:=by
      rw[ei] at hx;cases e:ks[i]? with
      | none=>rw[e] at hx;cases hx
      | some nm=>rw[e] at hx;exact⟨nm,rfl,e8 hx⟩
    have a8:=sm _ _ ar;ctx_has v a8
    refine bS aT (λj σ H3=>∃o2 B v5,σ=[-p,-d,-r,-q,some (oV kk),v5]/\au H H3/\H3 q=some (fb P w q o2 B)/\B.Nodup/\(∀k',k'∈B↔(∃k∈ks.take i,∃v∈rs,lH ps k v=k')\/∃v∈rs.take j,lH ps kk v=k')) ⟨_,_,_,rfl,sm,an,ad,λk'=>by rw[F];simp⟩ (λi σ H' ax=>by obtain⟨_,_,_,_,s3,_⟩:=ax;exact(.of (s3 _ _ ar))) ?_ ?_
    . rintro j x σ H3 hj hx ⟨o2,B,v5,rfl,s3,am,aa,ab⟩
      obtain⟨v,hv,rfl⟩ : ∃v,rs[j]? = some v/\V.int v=x:=by
        rw[ei] at hx;cases e:rs[j]? with
        | none=>rw[e] at hx;cases hx
        | some nm=>rw[e] at hx;exact⟨nm,rfl,e8 hx⟩
      have a7:=s3 _ _ h1;have aq:=s3 _ _ h5;have aj:B.length < 1000:=by
        have:=fc (ys:=none :: ps.map λx=>some x.2.2) aa λk' ak=>by
          rcases (ab k').mp ak with⟨k0,_,v0,_,rfl⟩ | ⟨v0,_,rfl⟩
          . exact lm _ _ _
          . exact lm _ _ _
        simp at this
        omega
      ctx_has v BE CI a7 l4
      refine⟨ps,aq,∅,λtp g1=>⟨(au.upd0 g1) _ _ aq,kk,v,ae,_,rfl,o2,B,(au.upd0 g1) _ _ am,aj,λo'=>⟨λb o e=>?_,o',_,ae,vU aa,λk'=>?_⟩⟩⟩
      . rw[ah (ao e hq)]
        exact(au.upd0 g1) _ _ (s3 b o e)
      . rw[zQ,ab,i7,hv]
        constructor
        . rintro((z | ⟨v0,Z,z⟩) | rfl)
          . exact .inl z
          . exact .inr ⟨v0,k4 _ Z,z⟩
          . exact .inr ⟨v,m7 _ (by simp),rfl⟩
        . rintro(z | ⟨v0,Z,z⟩)
          . exact .inl (.inl z)
          . rcases ja.mp Z with Z | Z
            . exact .inl (.inr ⟨v0,Z,z⟩)
            . have e0:v0=v:=by simpa using Z
              subst e0;exact .inr z.symm
    . rintro σ H3 ⟨o2,B,v5,rfl,s3,am,aa,ab⟩
      rw[c_,ki] at ab;refine⟨o2,B,_,_,rfl,s3,am,aa,λk'=>?_⟩
      rw[ab,i7,a0]
      constructor
      . rintro(⟨k0,Z,z⟩ | z)
        . exact⟨k0,k4 _ Z,z⟩
        . exact⟨kk,m7 _ (by simp),z⟩
      . rintro⟨k0,Z,z⟩
        rcases ja.mp Z with Z | Z
        . exact .inl ⟨k0,Z,z⟩
        . have e0:k0=kk:=by simpa using Z
          subst e0;exact .inr z
  . rintro σ H' ⟨o',Y,v4,v5,rfl,sm,an,ad,F⟩
    ctx_has v
    rw[c_,ki] at F;have aj:Y.length<=100:=by
      have:=fc (ys:=none :: ps.map λx=>some x.2.2) ad λk' ak=>by
        obtain⟨k0,_,v0,_,rfl⟩:=(F k').mp ak;exact lm _ _ _
      simp at this
      omega
    exact k q o' Y H' sm an aj F
theorem lh (T:Txt w K mg) (L:cJ K (aO K (ap mg "Way") "last_states") "last_states" "Way.last_states" eX ["self","rooms"]) (B:FnR P w K mg base (aO K (ap mg "Way") "states_behind") 1 ["self","states","room"] (BC P w mg)):FnR P w K mg base (aO K (ap mg "Way") "last_states") 2 ["self","rooms"] (tL P w mg):=by
 ctx_has z kY <;> obtain⟨p,r,dat,kvs,rm,rfl,M,k⟩:=h
 .rfl
 refine⟨_,(af (aB 2 (zo (P:=P) (w:=w) rfl rfl (tN (io aj dz tG) rfl rfl (by nofun) ∅)))
  (af (bp (bK K (aS T.cl_Way T.no_Way_cells (pvM 0))) (ay 3) (ai (aB 2 (cy T.cl_Way B (hr.mono (by ctx_has m)) (pvM 0) (ac (pvM 2) (ac (bx hu (pvM 1) (pvM 3)) ag))))))
  (ai (az (pvM 2))))),?_⟩
 obtain⟨dx,fs,wa,c,e,l,h1,h2,h3,h4,h5,l1,l2,l3,l4,l5,l6,l7,l8,l9⟩:=id M.ob;have Y:=M.ok;have ah:=Y.2.1;obtain⟨cs,ps,es⟩:=dat;ctx_has v DH
 intro q hq;have em:eJ ([]:List (Key × V)) [(i_ 0,.bl true)]=[(i_ 0,.bl true)]:=eV _ eT
 refine⟨ae,[(i_ 0,.bl true)],rfl,∅,[0],by rw[ae,em];rfl,∅,λo=>?_⟩
 simp only[lP];refine⟨dx,fs,(au.upd0 hq) _ _ h1,_,l2,c,rfl,_,(au.upd0 hq) _ _ h3,?_⟩
 refine bS aT (λi σ H'=>∃q o ks v3,σ=[-p,-r,-q,v3]/\au H H'/\H' q=some (fb P w q o ks)/\ks.length<=100/\(∀k',k'∈ks↔∃g,okF rm cs g/\ic ps (some 0) ((cs.map g).take i)=k')) ⟨q,o,[some 0],_,rfl,au.upd0 hq,ae,∅,λk'=>?_⟩ (λi σ H' F=>by obtain⟨_,_,_,_,_,s3,_⟩:=F;exact(.of (s3 _ _ h3))) ?_ ?_
 .constructor
  .intro z
   refine⟨λc=>(rm c).headD 0,λc hc=>?_,(e_.mp z).symm⟩
   have:=(M.ne c hc).1
   show(rm c).headD 0∈rm c
   cases e:rm c with
   | nil=>exact absurd e this
   | cons a b=>simp
  .rintro⟨g,_,rfl⟩
   exact e_.mpr rfl
 .rintro i x σ H' hi hx ⟨q1,o1,ks,v3,rfl,sm,hq1,hkl,hmem⟩
  obtain⟨cc,Z,rfl⟩ : ∃y,cs[i]? = some y/\V.str y=x:=by
   rw[ei] at hx;cases e:cs[i]? with
   | none=>rw[e] at hx;cases hx
   | some nm=>rw[e] at hx;exact⟨nm,rfl,e8 hx⟩
  have ak:=sm _ _ h1;have aa:=sm _ _ M.rd;obtain⟨ad,hv,ao⟩:=M.rf cc (f_ Z);ctx_has v ak aa
  exact⟨l8,_,hv,p,q1,ad,(cs,ps,es),o1,ks,rm cc,rfl,Ca M.ob (au.keepTI sm),Y,hq1,sm _ _ ao,λq2 o2 am H2 s2 aq an ab=>⟨q2,rfl,sm.trans s2,o2,am,aq,an,Ac ah Z hmem ab⟩⟩
 .rintro σ H' ⟨q1,o1,ks,v3,rfl,sm,hq1,hkl,hmem⟩
  ctx_has v
  rw[c_] at hmem;refine k q1 o1 ks H' sm hq1 hkl λk'=>?_
  rw[hmem]
  constructor
  .rintro⟨g,hg,z⟩
   exact⟨g,hg,by rw[p_ (by simp)] at z;exact z⟩
  .rintro⟨g,hg,z⟩
   exact⟨g,hg,by rw[p_ (by simp)];exact z⟩
theorem pk (T:Txt w K mg) (L:cJ K (aO K (ap mg "Way") "may_keep") "may_keep" "Way.may_keep" eS ["self","rooms"]) (B:FnR P w K mg base (aO K (ap mg "Way") "last_states") 2 ["self","rooms"] (tL P w mg)):FnR P w K mg base (aO K (ap mg "Way") "may_keep") 22 ["self","rooms"] (eD mg):=by
 ctx_has z pA <;> obtain⟨p,r,dat,kvs,rm,rfl,M,k⟩:=h
 .rfl
 refine⟨_,(ai (az (aF (gl rfl) T.b_any (ac (ba (N:=["state","self"]) (nt:=1) (js:=[0]) (aH ["self","rooms"] (ak eS).names) (CT (P:=P) (w:=w) rfl rfl (cy T.cl_Way B (hr.mono (by ctx_has m)) (pvM 0) (ac (pvM 1) ag))) (ay 0) aQ bR (bw iW (pvM 0) (aS T.cl_Way T.no_Way_ends (pvM 1)))) ag)))),?_⟩
 obtain⟨dx,fs,wa,c,e,l,h1,h2,h3,h4,h5,l1,l2,l3,l4,l5,l6,l7,l8,l9⟩:=id M.ob;obtain⟨cs,ps,es⟩:=dat;ctx_has v h1 iN
 refine⟨l9,p,r,(cs,ps,es),kvs,rm,rfl,M,λq o ks H1 s1 hq hl hm=>⟨q,rfl,o,ks,hq,λD hD=>?_⟩⟩
 refine cL BN (λv=>.bl (inV v (es.map V.int))) hD (λH' s'=>s' _ _ hq) (by rw[c_];omega) ?_ ?_
 .intro x H2 Q2 hx s2 q2
  obtain⟨kk,_,rfl⟩:=g7.mp hx;have Z:=s2 _ _ (s1 _ _ h1);have ab:=s2 _ _ (s1 _ _ h4);ctx_has v Z l3
  exact⟨_,ab,by cases kk <;> rfl,cu es,q2 H2 (au.refl _)⟩
 .intro H2 s2 hd2
  refine⟨D,rfl,ks.map (λk=>tP es k),?_,k _ H2 ?_ (s1.trans s2)⟩
  .rw[hd2,l_,l_]
   refine congrArg (λz=>some (HO.lst z)) (m9 λF _=>?_)
   show V.bl (inV (oV F) (es.map V.int))=V.bl (tP es F)
   rw[AJ]
  .rw[w_]
   constructor
   .rintro⟨b,hb,e⟩
    obtain⟨F,aa,rfl⟩:=g7.mp hb;obtain⟨g,Y,rfl⟩:=(hm F).mp aa;exact⟨g,Y,e⟩
   .rintro⟨g,Y,e⟩
    exact⟨_,g7.mpr ⟨_,(hm _).mpr ⟨g,Y,rfl⟩,rfl⟩,e⟩
theorem nB (T:Txt w K mg) (L:cJ K (aO K (ap mg "Way") "may_break") "may_break" "Way.may_break" dZ ["self","rooms"]) (B:FnR P w K mg base (aO K (ap mg "Way") "last_states") 2 ["self","rooms"] (tL P w mg)):FnR P w K mg base (aO K (ap mg "Way") "may_break") 22 ["self","rooms"] (gR mg):=by
 ctx_has z mZ <;> obtain⟨p,r,dat,kvs,rm,rfl,M,k⟩:=h
 .rfl
 refine⟨_,(ai (az (aF (gl rfl) T.b_any (ac (ba (N:=["state","self"]) (nt:=1) (js:=[0]) (aH ["self","rooms"] (ak dZ).names) (CT (P:=P) (w:=w) rfl rfl (cy T.cl_Way B (hr.mono (by ctx_has m)) (pvM 0) (ac (pvM 1) ag))) (ay 0) aQ bR (bw ky (pvM 0) (aS T.cl_Way T.no_Way_ends (pvM 1)))) ag)))),?_⟩
 obtain⟨dx,fs,wa,c,e,l,h1,h2,h3,h4,h5,l1,l2,l3,l4,l5,l6,l7,l8,l9⟩:=id M.ob;obtain⟨cs,ps,es⟩:=dat;ctx_has v h1 iN
 refine⟨l9,p,r,(cs,ps,es),kvs,rm,rfl,M,λq o ks H1 s1 hq hl hm=>⟨q,rfl,o,ks,hq,λD hD=>?_⟩⟩
 refine cL BN (λv=>.bl (!inV v (es.map V.int))) hD (λH' s'=>s' _ _ hq) (by rw[c_];omega) ?_ ?_
 .intro x H2 Q2 hx s2 q2
  obtain⟨kk,_,rfl⟩:=g7.mp hx;have Z:=s2 _ _ (s1 _ _ h1);have ab:=s2 _ _ (s1 _ _ h4);ctx_has v Z l3
  exact⟨_,ab,by cases kk <;> rfl,cu es,q2 H2 (au.refl _)⟩
 .intro H2 s2 hd2
  refine⟨D,rfl,ks.map (λk=>!tP es k),?_,k _ H2 ?_ (s1.trans s2)⟩
  .rw[hd2,l_,l_]
   refine congrArg (λz=>some (HO.lst z)) (m9 λF _=>?_)
   show V.bl (!inV (oV F) (es.map V.int))=V.bl (!tP es F)
   rw[AJ]
  .rw[w_]
   constructor
   .rintro⟨b,hb,e⟩
    obtain⟨F,aa,rfl⟩:=g7.mp hb;obtain⟨g,Y,rfl⟩:=(hm F).mp aa;exact⟨g,Y,(by simpa [tO,gO] using e)⟩
   .rintro⟨g,Y,e⟩
    exact⟨_,g7.mpr ⟨_,(hm _).mpr ⟨g,Y,rfl⟩,rfl⟩,(by simpa [tO,gO] using e)⟩
abbrev nS:=List (Int × Str) × Option Int × Option Int
def WSS (H:Hp) (w:Addr) (dat:nS) (cs:List Str):Prop:=∃t,H w>>[.str "sum",.ref t,bV dat.2.1,bV dat.2.2]/\iX H t dat.1
def ET (dat:nS) (cs:List Str):Prop:=dat.1.map (·.2)=cs/\cs≠[]/\∀x∈dat.1,-1000000<=x.1/\x.1<=1000000
def OBS (mg:Str->Option Value) (H:Hp) (t:Addr) (dat:nS) (cs:List Str):Prop:=∃dx fs te,H t=some (.ins (ap mg "Sum") dx fs)/\iX H te dat.1/\fs.lookup (b_ "terms")=some (.ref te)/\fs.lookup (b_ "low")=some (bV dat.2.1)/\fs.lookup (b_ "high")=some (bV dat.2.2) /\
 fs.lookup (b_ "may_keep")=none/\fs.lookup (b_ "may_break")=none/\fs.lookup (b_ "may_end_well")=none/\fs.lookup (b_ "sums_with")=none/\fs.lookup (b_ "sums_kept")=none
theorem yE {t:Addr} {dat:nS} (h:OBS mg H t dat cs) : ∃dx fs,H t=some (.ins (ap mg "Sum") dx fs)/\fs.lookup (b_ "may_keep")=none/\fs.lookup (b_ "may_break")=none:=by
 obtain⟨dx,fs,te,h1,h2,Y,L,Z,B,F,_⟩:=h;exact⟨dx,fs,h1,B,F⟩
theorem wz {t:Addr} {dat:nS} (h:OBS mg H t dat cs) (k:fi H H'):OBS mg H' t dat cs:=by
 obtain⟨dx,fs,te,h1,h2,B⟩:=h;exact⟨dx,fs,te,k.ins _ _ _ _ h1,h2.keep k.tup,B⟩
def fj (ts:List (Int × Str)) (g:Str->Int):Int:=(ts.map λx=>x.1 * g x.2).sum
def tE (dat:nS) (cs:List Str) (g:Str->Int):Bool:=dU (fj dat.1 g) dat.2.1 dat.2.2
def yp (mg:Str->Option Value):Sp:=λvs H Q _=>∃(p dx w:Addr) (dat:nS) (cs:List Str),vs=[.ref p,.ref w]/\H p=some (.ins (ap mg "Sum") dx [])/\WSS H w dat cs/\∀H',OBS mg H' p dat cs->HW mg "Sum" H' p w->gy p H H'->Q .non H'
structure xk (mg:Str->Option Value) (H:Hp) (p r:Addr) (dat:nS) (cs:List Str) (kvs:List (Key × V)) (rm:Str->List Int):Prop where
 ob:OBS mg H p dat cs
 rd:H r<*kvs
 rf:aX H kvs cs rm
 ok:ET dat cs
 nd:cs.Nodup
 cl:cs.length<=5
 gd : ∀c∈cs,1<=(rm c).length/\(rm c).length<=4/\(rm c).Nodup
def eC (mg:Str->Option Value):Sp:=λvs H Q _=>∃(p r:Addr) (dat:nS) (cs:List Str) (kvs:List (Key × V)) (rm:Str->List Int),vs=[.ref p,.ref r]/\xk mg H p r dat cs kvs rm/\∀(b:Bool) H',(b=true↔∃g,okF rm cs g/\tE dat cs g=true)->au H H'->Q (.bl b) H'
def gY (mg:Str->Option Value):Sp:=λvs H Q _=>∃(p r:Addr) (dat:nS) (cs:List Str) (kvs:List (Key × V)) (rm:Str->List Int),vs=[.ref p,.ref r]/\xk mg H p r dat cs kvs rm/\∀(b:Bool) H',(b=true↔∃g,okF rm cs g/\tE dat cs g=false)->au H H'->Q (.bl b) H'
structure dr (rm:Str->List Int) (ts:List (Int × Str)) (lo hi:Int):Prop where
 bd : ∀g,okF rm (ts.map (·.2)) g->lo<=fj ts g/\fj ts g<=hi
 lo' : ∃g,okF rm (ts.map (·.2)) g/\fj ts g=lo
 hi' : ∃g,okF rm (ts.map (·.2)) g/\fj ts g=hi
theorem dr.nil (rm:Str->List Int):dr rm [] 0 0:=⟨λg _=>⟨Int.le_refl _,Int.le_refl _⟩,⟨λ_=>0,λc B=>by simp at B,rfl⟩,⟨λ_=>0,λc B=>by simp at B,rfl⟩⟩
theorem dr.zero {hi:Int} (h:dr rm [] lo hi):lo=0/\hi=0:=by
 obtain⟨g,_,e⟩:=h.lo';obtain⟨g',_,B⟩:=h.hi';exact⟨e.symm,B.symm⟩
theorem ld (a:Int) (c:Str) (ts:List (Int × Str)) (g:Str->Int):fj ((a,c) :: ts) g=a * g c+fj ts g:=by simp[fj]
theorem lg (h:c∉ts.map (·.2)):fj ts (bY g c v)=fj ts g:=by
 unfold fj;rw[m9 (f:=λx:Int × Str=>x.1 * bY g c v x.2) (g:=λx:Int × Str=>x.1 * g x.2) λx B=>by rw[bZ _ _ (λe=>h (g7.mpr ⟨x,B,e⟩))]]
theorem sG (h:okF rm cs g) (F:v∈rm c):okF rm (c :: cs) (bY g c v):=λx B=>by
 by_cases e:x=c
 .subst e;rw[be];exact F
 .rw[bZ _ _ e];exact h x ((i6.mp B).resolve_left e)
theorem dr.cons {hi a M:Int} (h:dr rm ts lo hi) (Y:c∉ts.map (·.2)) (hm:m∈(rm c).map (a * ·)) (B : ∀x∈(rm c).map (a * ·),m<=x) (hM:M∈(rm c).map (a * ·)) (L : ∀x∈(rm c).map (a * ·),x<=M):dr rm ((a,c) :: ts) (lo+m) (hi+M):=by
 refine⟨λg Z=>?_,?_,?_⟩
 .have h1:=h.bd g λx hx=>Z x (j7 _ hx)
  have h2:a * g c∈(rm c).map (a * ·):=g7.mpr ⟨g c,Z c (by simp),rfl⟩
  have h3:=B _ h2;have h4:=L _ h2;rw[ld];omega
 .obtain⟨g,g1,g2⟩:=h.lo'
  obtain⟨v,F,e⟩:=g7.mp hm;exact⟨bY g c v,sG g1 F,by rw[ld,be,lg Y];have e:a * v=_:=e;omega⟩
 .obtain⟨g,g1,g2⟩:=h.hi'
  obtain⟨v,F,e⟩:=g7.mp hM;exact⟨bY g c v,sG g1 F,by rw[ld,be,lg Y];have e:a * v=_:=e;omega⟩
def CM:Sp:=λvs H Q _=>∃(t r F:Addr) (a:Int) (c:Str) (kvs:List (Key × V)) (B:List Int),vs=[.ref t,.ref r]/\H t>>[.int a,.str c]/\H r<*kvs/\bQ kvs (fy c)=some (.ref F)/\H F>>(B.map V.int)/\(-1000000<=a/\a<=1000000)/\B.length<=10/\∀l H',au H H'->H l=none->H' l*>((B.map (a * ·)).map V.int)->Q (.ref l) H'
def Bh:Sp:=λvs H Q _=>∃(t r:Addr) (ts:List (Int × Str)) (kvs:List (Key × V)) (rm:Str->List Int),vs=[.ref t,.ref r]/\iX H t ts/\H r<*kvs/\aX H kvs (ts.map (·.2)) rm/\(ts.map (·.2)).Nodup/\ts.length<=12/\(∀x∈ts,-1000000<=x.1/\x.1<=1000000)/\(∀c∈ts.map (·.2),rm c≠[]/\(rm c).length<=10) /\
 ∀(l:Addr) (zs:List (Addr × Int × Int)) H',au H H'->H' l*>(zs.map λx=>V.ref x.1)->zs.length=ts.length+1->(∀x∈zs,H' x.1>>[.int x.2.1,.int x.2.2])->(∀(i:Nat) z,zs[i]? = some z->dr rm (ts.drop i) z.2.1 z.2.2)->Q (.ref l) H'
def ga (s mn B:Int) (lo hi:Option Int):Bool:=(match lo with | none=>true | some a=>decide (a<=s+B)) && (match hi with | none=>true | some b=>decide (s+mn<=b))
def Cy (mg:Str->Option Value):Sp:=λvs H Q _=>∃(p b:Addr) (s mn B:Int) (dat:nS) (cs:List Str),vs=[.ref p,.int s,.ref b]/\OBS mg H p dat cs/\H b>>[.int mn,.int B]/\Q (.bl (ga s mn B dat.2.1 dat.2.2)) H
def oH (kvs:List (Key × V)):Prop:=∀x∈kvs,∃i:Int,x.1=i_ i
def fY (kvs:List (Key × V)) (s:Int):Prop:=(bQ kvs (i_ s)).isSome=true
def yO (mg:Str->Option Value):Sp:=λvs H Q _=>∃(p r l b:Addr) (kvs:List (Key × V)) (ps:List Int) (mn B:Int) (dat:nS) (cs:List Str),vs=[.ref p,.ref r,.ref l,.ref b]/\OBS mg H p dat cs/\H r<*kvs/\oH kvs/\H l*>(ps.map V.int)/\H b>>[.int mn,.int B]/\kvs.length * ps.length<=100000 /\
 ∀(q:Addr) (kv:List (Key × V)) H',au H H'->H' q<*kv->oH kv->kv.length<=kvs.length * ps.length->(∀s,fY kv s↔∃e,fY kvs e/\∃x∈ps,s=e+x/\ga s mn B dat.2.1 dat.2.2=true)->Q (.ref q) H'
theorem mL {s:Int} (L:(∃v,(i_ s,v)∈kvs)):fY kvs s:=by
 obtain⟨v,B⟩:=L;unfold fY
 induction kvs with
 | nil=>simp at B
 | cons x kvs F =>
  by_cases e:x.1=i_ s
  .obtain⟨x1,x2⟩:=x
   simp only at e;subst e;rw[bB rfl];rfl
  .obtain⟨x1,x2⟩:=x
   rw[aW e];exact F ((i6.mp B).resolve_left λz=>e (congrArg Prod.fst z).symm)
theorem mU {s:Int} (h:fY kvs s) : ∃v,(i_ s,v)∈kvs:=by
 unfold fY at h
 induction kvs with
 | nil=>rw[eT] at h;cases h
 | cons x kvs F =>
  obtain⟨x1,B⟩:=x
  by_cases e:x1=i_ s
  .subst e;exact⟨B,by simp⟩
  .rw[aW e] at h
   obtain⟨v,L⟩:=F h;exact⟨v,j7 _ L⟩
theorem zH {s t:Int} {v:V}:fY (bm kvs (i_ t) v) s↔s=t\/fY kvs s:=by
 unfold fY;rw[jV]
 by_cases e:s=t
 .subst e;simp
 .rw[if_neg (λz=>e (Jy z))];simp[e]
theorem oH.put {t:Int} {v:V} (h:oH kvs):oH (bm kvs (i_ t) v):=by
 intro x B;unfold bm at B
 split at B
 .obtain⟨y,hy,rfl⟩:=g7.mp B
  split
  .rename_i e;exact⟨t,e⟩
  .exact h y hy
 .rcases ja.mp B with q | q
  .exact h x q
  .rw[e_.mp q];exact⟨t,rfl⟩
theorem jh (as bs:List (Int × Str)) (g:Str->Int):fj (as++bs) g=fj as g+fj bs g:=by simp[fj]
theorem vR (ts:List (Int × Str)) (i:Nat) (g:Str->Int):fj ts g=fj (ts.take i) g+fj (ts.drop i) g:=by rw[<- jh,List.take_append_drop]
theorem Ep {mn B:Int} {lo:Option Int} (h:dr rm (ts.drop i) mn B) (L:okF rm (ts.map (·.2)) g) (Y:dU (fj ts g) lo hi=true):ga (fj (ts.take i) g) mn B lo hi=true:=by
 have h1:=h.bd g λc F=>L c (by rw[map_drop] at F;exact List.mem_of_mem_drop F)
 have h2:=vR ts i g;cases lo <;> cases hi <;> simp[dU,ga] at Y ⊢
 .omega
 .omega
 .omega
theorem Cu {s mn B:Int} {lo:Option Int} (h:dr rm [] mn B):ga s mn B lo hi=dU s lo hi:=by
 obtain⟨rfl,rfl⟩:=h.zero;cases lo <;> cases hi <;> simp[dU,ga]
theorem wC {a b:Int} {lo:Option Int} (h:dr rm ts a b):(!dU a lo hi || !dU b lo hi)=true↔∃g,okF rm (ts.map (·.2)) g/\dU (fj ts g) lo hi=false:=by
 constructor
 .intro hb
  rw[Bool.or_eq_true,Bool.not_eq_true',Bool.not_eq_true'] at hb;rcases hb with hb | hb
  .obtain⟨g,g1,g2⟩:=h.lo'
   exact⟨g,g1,by rw[g2];exact hb⟩
  .obtain⟨g,g1,g2⟩:=h.hi'
   exact⟨g,g1,by rw[g2];exact hb⟩
 .rintro⟨g,g1,g2⟩
  have:=h.bd g g1
  refine nH λB=>?_
  have B:dU a lo hi=true/\dU b lo hi=true:=by
   cases e1:dU a lo hi <;> cases e2:dU b lo hi <;> simp[e1,e2] at B ⊢
  obtain⟨h1,h2⟩:=B;rw[Bool.eq_false_iff] at g2;refine g2 ?_
  cases lo <;> cases hi <;> simp[dU] at h1 h2 ⊢
  .omega
  .omega
  .omega
def vN (mg:Str->Option Value):Sp:=λvs H Q _=>∃(p r:Addr) (dat:nS) (cs:List Str) (kvs:List (Key × V)) (rm:Str->List Int),vs=[.ref p,.ref r]/\xk mg H p r dat cs kvs rm/\∀(q:Addr) (kv:List (Key × V)) H',H' q<*kv->(0 < kv.length↔∃g,okF rm cs g/\tE dat cs g=true)->au H H'->Q (.ref q) H'
theorem FZ (h:i<=5):4 ^ i<=1024:=gt (Nat.pow_le_pow_right ∅ h) ∅
theorem zB (h : ∀c∈cs,1<=(rm c).length) : ∃g,okF rm cs g:=by
 refine⟨λc=>(rm c).headD 0,λc B=>?_⟩
 show(rm c).headD 0∈rm c
 have:=h c B
 cases e:rm c with
 | nil=>rw[e] at this;simp at this
 | cons a b=>simp
theorem DB (h:okF rm cs g) (F:v∈rm c):okF rm cs (bY g c v):=λx B=>by
 by_cases e:x=c
 .subst e;rw[be];exact F
 .rw[bZ _ _ e];exact h x B
theorem lS (T:Txt w K mg) (L:cJ K (gp K (ap mg "Wish") "__init__") "__init__" "Wish.__init__" bD ["self","wish"]):FnR P w K mg base (gp K (ap mg "Wish") "__init__") 1 ["self","wish"] (dq mg "Sum"):=by
 ctx_has z bU <;> obtain⟨p,dx,fs,w,rfl,hp,B,k⟩:=h
 .rfl
 refine⟨_,(ai (bE T.cl_Sum T.no_Sum_wish (pvM 0) (pvM 1) rfl)),?_⟩
 ctx_has v hp
 exact⟨B,k⟩
theorem pH (T:Txt w K mg) (L:cJ K (Mk K (ap mg "Sum")) "__init__" "Sum.__init__" gx ["self","wish"]) (B:FnR P w K mg base (gp K (ap mg "Wish") "__init__") 1 ["self","wish"] (dq mg "Sum")):FnR P w K mg base (Mk K (ap mg "Sum")) 2 ["self","wish"] (yp mg):=by
 ctx_has z pF <;> obtain⟨p,dx,w,dat,cs,rfl,hp,W,k⟩:=h
 .rfl
 refine⟨_,(af (bW (jm B (hr.mono (by ctx_has m)) rfl T.at_Wish (ac (pvM 0) (ac (pvM 1) ag))))
  (af (bE T.cl_Sum T.no_Sum_terms (pvM 0) (aC aZ (pvM 1) aj) rfl)
  (af (bE T.cl_Sum T.no_Sum_low (pvM 0) (aC aZ (pvM 1) aj) rfl)
  (ai (bE T.cl_Sum T.no_Sum_high (pvM 0) (aC aZ (pvM 1) aj) rfl))))),?_⟩
 obtain⟨ts,lo,hi⟩:=dat;obtain⟨t,Y,h2⟩:=W;ctx_has v Y
 have F:w≠p:=aU Y hp (by intro z;cases z)
 have pt : ∀b xs,H b>>xs->b≠p:=λb xs e=>aU e hp (by intro z;cases z)
 refine⟨p,dx,[],.ref w,rfl,hp,∅,?_⟩
 ctx_has v ae
 refine⟨_,by rw[ah F];exact Y,?_⟩
 ctx_has v
 refine⟨dB (Aw _ "" "" "" _ .non .non .non),_,by rw[ah F,ah F];exact Y,?_⟩
 ctx_has v
 refine⟨dB (zE _ _ "" "" _ _ .non .non),_,by rw[ah F,ah F,ah F];exact Y,?_⟩
 ctx_has v
 refine⟨dB (DJ _ _ _ "" _ _ _ .non),k _ ⟨dx,_,t,ae,h2.keep λa xs e=>by rw[ah (pt a xs e),ah (pt a xs e),ah (pt a xs e),ah (pt a xs e)];exact e,?_⟩ ⟨dx,_,ae,?_⟩ ?_⟩
 .simp only[bz,dY,String.reduceEq,if_true,if_false,true_and,I0,and_self]
 .simp only[bz,dY,String.reduceEq,if_true,if_false,true_and,I0,and_self]
 .intro b o hb e
  rw[ah hb,ah hb,ah hb,ah hb];exact e
abbrev Gk:=Fn P w K mg base "parts_of" 1 ["term","rooms"] (CM)
theorem ww (T:Txt w K mg) (L:FnL K mg "parts_of" jl ["term","rooms"]) : @Gk P w K mg base:=by
 ctx_has z wo <;> obtain⟨t,r,ad,a,c,kvs,rs,rfl,Y,F,hv,B,ha,hl,k⟩:=h
 .rfl
 refine⟨_,(ai (az (ba (N:=["value","term"]) (nt:=1) (js:=[0]) (aH ["term","rooms"] (ak jl).names) (bK K (bx hu (pvM 1) (aC aZ (pvM 0) aj))) (ay 0) aQ bR (aR ig (aC aZ (pvM 1) aj) (pvM 0))))),?_⟩
 ctx_has v Y F hv B
 intro q Z;refine cL aT (λv=>match v with | .int v=>.int (a * v) | _=>.non) Z (λH' s=>.of (s _ _ B)) (by rw[c_];omega) ?_ ?_
 .intro x H2 Q2 hx sm q2
  obtain⟨y,hy,rfl⟩:=g7.mp hx;have e1:=sm _ _ Y;ctx_has v e1
  exact⟨.inl ⟨(),()⟩,q2 H2 (au.refl _)⟩
 .intro H2 sm h2
  refine k q H2 sm Z ?_
  rw[h2,l_,l_];rfl
abbrev ES:=Fn P w K mg base "spans_of" 2 ["terms","rooms"] (Bh)
theorem uR (T:Txt w K mg) (L:FnL K mg "spans_of" lc ["terms","rooms"]) (Fh : @Gk P w K mg base) : @ES P w K mg base:=by
 ctx_has z wH <;> obtain⟨t,r,ts,kvs,rm,rfl,hT,aN,aO,aH,hl,aQ,ax,k⟩:=h
 .rfl
 refine⟨_,(af (aB 2 (bG (ac (bT (ac aj (ac aj ag))) ag)))
  (af (bp (DS (K:=K) rfl rfl T.b_reversed (ac (pvM 0) ag)) (ay 3) (af (aB 4 (aw Fh (ac (pvM 3) (ac (pvM 1) ag))))
  (ai (bW (gN o7 o8 db (pvM 2) (ac (bT (ac (aR bu (aC aZ (aC fI (pvM 2) (oY jO aj)) aj) (aF (nG rfl) T.b_min (ac (pvM 4) ag))) (ac (aR bu (aC aZ (aC fI (pvM 2) (oY jO aj)) aj) (aF (sj rfl) T.b_max (ac (pvM 4) ag))) ag))) ag))))))
  (ai (az (qW rfl rfl T.b_list rfl T.b_reversed (pvM 2)))))),?_⟩
 obtain⟨as,ht,rfl,aI⟩:=hT;ctx_has v
 refine⟨∅,λz0 a7=>⟨∅,λq hq=>?_⟩⟩
 have s1:au H (upd (upd H z0 (.tup [.int 0,.int 0])) q (.lst [.ref z0])):=(au.upd0 a7).upd_new hq
 have zq:z0≠q:=by rintro rfl;rw[ae] at hq;cases hq
 have aK:H q=none:=(au.upd0 a7).free hq
 refine⟨_,s1 _ _ ht,?_⟩
 have B:(as.map λx=>V.ref x.1).length=as.length:=by simp
 have aS:as.length<=12:=by simpa using hl
 refine bS Dm (λi σ H'=>∃(zs:List (Addr × Int × Int)) (v3 v4:Option V),σ=[-t,-r,-q,v3,v4]/\H' q*>(zs.map λx=>V.ref x.1)/\zs.length=i+1/\(∀x∈zs,H' x.1>>[.int x.2.1,.int x.2.2])/\(∀(j:Nat) z,zs[j]? = some z->dr rm ((as.map (·.2)).drop (as.length - j)) z.2.1 z.2.2)/\au H H')
  ⟨[(z0,0,0)],_,_,rfl,ae,rfl,λx hx=>?_,λj z Z=>?_,s1⟩ (λi σ H' aq=>by obtain⟨_,_,_,_,_,_,_,_,sm⟩:=aq;exact(.of (sm _ _ ht))) ?_ ?_
 .rw[e_.mp hx,ah zq];exact ae
 .have hj0:j=0:=by have:=(i4.mp Z).1;simp at this;omega
  subst hj0;simp at Z
  subst Z;rw[sub_zero,List.drop_of_length_le (by simp)]
  exact dr.nil rm
 .rintro i x σ H2 hi hx ⟨zs,v3,v4,rfl,h2,hzl,hzt,hzo,sm2⟩
  rw[List.length_reverse,B] at hi;have Y:(as.map λx=>V.ref x.1)[as.length - 1 - i]? = some x:=by
   rw[Kb (by rw[B];exact hi),B] at hx;exact hx
  have ab:as.length - 1 - i < as.length:=()
  obtain⟨y,hy,rfl⟩ : ∃y,as[as.length - 1 - i]? = some y/\V.ref y.1=x:=by
   rw[ei] at Y;cases e:as[as.length - 1 - i]? with
   | none=>rw[e] at Y;cases Y
   | some nm=>rw[e] at Y;exact⟨nm,rfl,e8 Y⟩
  have an:y∈as:=f_ hy
  have ak:y.2.2∈(as.map (·.2)).map (·.2):=g7.mpr ⟨y.2,g7.mpr ⟨y,an,rfl⟩,rfl⟩
  obtain⟨ad,hv,aM⟩:=aO _ ak;ctx_has v
  refine⟨y.1,r,ad,y.2.1,y.2.2,kvs,rm y.2.2,rfl,sm2 _ _ (aI y an),sm2 _ _ aN,hv,sm2 _ _ aM,aQ y.2 (g7.mpr ⟨y,an,rfl⟩),(ax _ ak).2,λpl H3 s3 a0 h3=>?_⟩
  have aA:=s3 _ _ h2;have aT:pl≠q:=λe=>by rw[e,h2] at a0;cases a0
  rcases Ki zs with rfl | ⟨zs',zl,ezs⟩
  .simp at hzl
  rw[JC] at ezs;have am:atI (zs.map λx=>V.ref x.1) (-1)=some (V.ref zl.1):=by rw[ezs,k9];exact qp _ _
  have ar:zl∈zs:=by rw[ezs];simp
  have a9:=s3 _ _ (hzt zl ar);have aD:(rm y.2.2).map (y.2.1 * ·)≠[]:=λe=>(ax _ ak).1 (List.map_eq_nil_iff.mp e)
  ctx_has v aA am a9 h3
  refine⟨_,rfl,aD,λm hm aG=>⟨_,rfl,aD,λM hM aL=>?_⟩⟩
  refine⟨∅,λzn aJ=>?_⟩
  have s4:au H3 (upd H3 zn (.tup [.int (zl.2.1+m),.int (zl.2.2+M)])):=au.upd0 aJ
  have a8:=s4 _ _ aA;have kt : ∀a xs,upd H3 zn (.tup [.int (zl.2.1+m),.int (zl.2.2+M)]) a>>xs->upd (upd H3 zn (.tup [.int (zl.2.1+m),.int (zl.2.2+M)])) q (.lst ((zs.map λx=>V.ref x.1)++[V.ref zn])) a>>xs:=λa xs e=>by rw[ah (aU e a8 (by intro z;cases z))];exact e
  refine⟨_,a8,by rw[c_];exact aE (),zs++[(zn,zl.2.1+m,zl.2.2+M)],by rw[ae];simp,by simp[hzl],λx hx=>?_,λj z Z=>?_,λb o e=>?_⟩
  .rcases ja.mp hx with w | w
   .exact kt _ _ (s4 _ _ (s3 _ _ (hzt x w)))
   .rw[e_.mp w];exact kt _ _ ae
  .by_cases hjl:j < zs.length
   .rw[t4 hjl] at Z
    exact hzo j z Z
   .have hjn:j=zs.length:=by have:=(i4.mp Z).1;simp at this;omega
    subst hjn;rw[u9 (hH _),sub_self] at Z;simp at Z
    subst Z;have ap:=hzo i zl (by rw[ezs,u9 (by rw[ezs] at hzl;simp at hzl;omega)];rw[ezs] at hzl;simp at hzl;simp[hzl])
    have ed:(as.map (·.2)).drop (as.length - zs.length)=(y.2.1,y.2.2) ::(as.map (·.2)).drop (as.length - i):=by
     rw[hzl,show as.length - (i+1)=as.length - 1 - i by omega,List.drop_eq_getElem_cons (by simp;omega),show as.length - 1 - i+1=as.length - i by omega]
     congr 1
     rw[List.getElem_map];rw[k6 ab] at hy;rw[e8 hy]
    rw[ed];refine ap.cons ?_ hm aG hM aL
    have aa:(((as.map (·.2)).drop (as.length - zs.length)).map (·.2)).Nodup:=aH.sublist ((List.drop_sublist _ _).map _)
    rw[ed,i9,mu] at aa;exact aa.1
  .rw[ah (ao e aK)];exact s4 _ _ (s3 _ _ (sm2 _ _ e))
 .rintro σ H2 ⟨zs,v3,v4,rfl,h2,hzl,hzt,hzo,sm2⟩
  rw[List.length_reverse,B] at hzl;ctx_has v h2
  intro lr aP;have s3:au H2 (upd H2 lr (.lst (zs.map λx=>V.ref x.1).reverse)):=au.upd0 aP
  refine k lr zs.reverse _ (sm2.trans s3) (by rw[ae,List.map_reverse]) (by simp[hzl]) (λx hx=>s3 _ _ (hzt x (List.mem_reverse.mp hx))) λi z hz=>?_
  have ab:i < zs.length:=by have:=(i4.mp hz).1;simpa using this
  rw[Kb ab] at hz;have:=hzo _ z hz
  rw[show as.length - (zs.length - 1 - i)=i by omega] at this
  exact this
theorem kG (T:Txt w K mg) (L:cJ K (aO K (ap mg "Sum") "may_end_well") "may_end_well" "Sum.may_end_well" eI ["self","reached","behind"]):FnR P w K mg base (aO K (ap mg "Sum") "may_end_well") 1 ["self","reached","behind"] (Cy mg):=by
 ctx_has z kF <;> obtain⟨p,b,s,mn,mx,dat,cs,rfl,Y,F,k⟩:=h
 .rfl
 refine⟨_,(af (aB 3 (mm (nZ (mW (aS T.cl_Sum T.no_Sum_low (pvM 0)))) (eZ (bw kL (aS T.cl_Sum T.no_Sum_low (pvM 0)) (aR bu (pvM 1) (aC aZ (pvM 2) aj))))))
  (af (aB 4 (mm (nZ (mW (aS T.cl_Sum T.no_Sum_high (pvM 0)))) (eZ (bw kL (aR bu (pvM 1) (aC aZ (pvM 2) aj)) (aS T.cl_Sum T.no_Sum_high (pvM 0))))))
  (ai (az (qm (pvM 3) (eZ (pvM 4))))))),?_⟩
 obtain⟨dx,fs,te,h1,h2,l1,B,l3,Z⟩:=Y;obtain⟨ts,lo,hi⟩:=dat;simp only at B l3 k;cases lo with
 | none =>
  cases hi with
  | none=>ctx_has v h1 B l3 F bV decide_true decide_false g_;simpa [ga] using k
  | some h=>ctx_has v h1 B l3 F bV decide_true decide_false g_;simpa [ga] using k
 | some a =>
  cases hi with
  | none =>
   ctx_has v h1 B l3 F bV decide_true decide_false g_
   refine cO (λh=>?_) (λh=>?_)
   .simpa [ga,h] using k
   .simpa [ga,h] using k
  | some c =>
   ctx_has v h1 B l3 F bV decide_true decide_false g_
   refine cO (λh=>?_) (λh=>?_)
   .simpa [ga,h] using k
   .simpa [ga,h] using k
theorem nW (T : Txt w K mg) (L:cJ K (aO K (ap mg "Sum") "sums_with") "sums_with" "Sum.sums_with" fN ["self","reached","parts","behind"]) (B:FnR P w K mg base (aO K (ap mg "Sum") "may_end_well") 1 ["self","reached","behind"] (Cy mg)):FnR P w K mg base (aO K (ap mg "Sum") "sums_with") 2 ["self","reached","parts","behind"] (yO mg):=by
  ctx_has z nM <;> obtain⟨p,r,l,b,kvs,ps,mn,mx,dat,cs,rfl,hO,aa,aG,hl,hb,hsz,k⟩:=h
  . rfl
  refine⟨_,(af (aB 4 fF)
    (af (bp (fX K (pvM 2)) (ay 5) (ai (zh (bp (Ho (pvM 1)) (ay 6) (ai (bg (dw (cy T.cl_Sum B (hr.mono (by ctx_has m)) (pvM 0) (ac (aR bu (pvM 6) (pvM 5)) (ac (pvM 3) ag)))) (ai (gV hu (pvM 4) (aR bu (pvM 6) (pvM 5)) dz rfl)) aM))))))
    (ai (az (pvM 4))))),?_⟩
  ctx_has v
  intro q hq;have s0:au H (upd H q (.dK [])):=au.upd0 hq
  have rq:r≠q:=ao aa hq
  refine⟨_,s0 _ _ hl,?_⟩
  have am : ∀j,j<=ps.length->kvs.length * j<=100000:=λj hj=>gt (Nat.mul_le_mul_left _ hj) hsz
  refine bS ck (λi σ H'=>∃(kv:List (Key × V)) (v5 v6:Option V),σ=[-p,-r,-l,-b,-q,v5,v6]/\H' q<*kv/\oH kv/\kv.length<=kvs.length * i/\(∀s,fY kv s↔∃e,fY kvs e/\∃x∈ps.take i,s=e+x/\ga s mn mx dat.2.1 dat.2.2=true)/\(∀b o,b≠q->H b=some o->H' b=some o))
    ⟨[],_,_,rfl,ae,λx hx=>by simp at hx,by simp,λs=>⟨λh=>(by unfold fY at h;rw[eT] at h;exact absurd h (by simp)),λa7=>by obtain⟨e,_,x,hx,_⟩:=a7;exact((by simp at hx))⟩,λb o hb e=>by rw[ah hb];exact e⟩ (λi σ H' aA=>by obtain⟨_,_,_,_,_,_,_,_,kk⟩:=aA;exact(.of (kk _ _ (ao hl hq) hl))) ?_ ?_
  . rintro i x σ H2 hi hx ⟨kv,v5,v6,rfl,h2,an,ar,Y,k2⟩
    rw[c_] at hi;obtain⟨y,hy,rfl⟩ : ∃y,ps[i]? = some y/\V.int y=x:=by
      rw[ei] at hx;cases e:ps[i]? with
      | none=>rw[e] at hx;cases hx
      | some nm=>rw[e] at hx;exact⟨nm,rfl,e8 hx⟩
    have aK:ps.take (i+1)=ps.take i++[y]:=by rw[i7,hy];rfl
    have a8:=k2 r _ rq aa;have aN:kvs.length * i+kvs.length<=100000:=by rw[<- Nat.mul_succ];exact am (i+1) hi
    have aP:=am i ()
    refine⟨r,kvs,a8,?_⟩
    ctx_has v a8
    intro ob;have a0:upd H2 r (.frz ob (.dK kvs)) r=some (.frz ob (.dK kvs)):=ae
    refine bS Bv (λj σ H'=>∃(kv:List (Key × V)) (v6:Option V),σ=[-p,-r,-l,-b,-q,some (.int y),v6]/\H' q<*kv/\oH kv/\kv.length<=kvs.length * i+j/\(∀s,fY kv s↔(∃e,fY kvs e/\∃x∈ps.take i,s=e+x/\ga s mn mx dat.2.1 dat.2.2=true)\/∃e,(∃v,(i_ e,v)∈kvs.take j)/\s=e+y/\ga s mn mx dat.2.1 dat.2.2=true)/\H' r=some (.frz ob (.dK kvs))/\(∀b o,b≠q->b≠r->H b=some o->H' b=some o))
      ⟨kv,_,rfl,by rw[ah rq.symm];exact h2,an,(),λs=>⟨λh=>.inl ((Y s).mp h),λh=>(Y s).mpr (h.resolve_right λa9=>by obtain⟨e,⟨v,hv⟩,_⟩:=a9;exact(by simp at hv))⟩,a0,λb o hb ab e=>by rw[ah ab];exact k2 b o hb e⟩ (λj σ H' aC=>by obtain⟨_,_,_,_,_,_,_,h,_⟩:=aC;exact(h)) ?_ ?_
    . rintro j z σ H3 hj hz ⟨kv,v6,rfl,h3,aj,ad,F,ak,k3⟩
      rw[c_] at hj;obtain⟨kx,aw,rfl⟩ : ∃kx,kvs[j]? = some kx/\kV kx.1=z:=by
        rw[ei] at hz;cases e:kvs[j]? with
        | none=>rw[e] at hz;cases hz
        | some nm=>rw[e] at hz;exact⟨nm,rfl,e8 hz⟩
      obtain⟨e0,ax⟩:=aG kx (f_ aw);have aq:kx=(i_ e0,kx.2):=by rw[<- ax]
      have aD:kvs.take (j+1)=kvs.take j++[kx]:=by rw[i7,aw];rfl
      have aL:kV kx.1=V.int e0:=by rw[ax];rfl
      rw[aL];obtain⟨dx,fs,te,g1,g2,g3⟩:=hO;have pq:p≠q:=ao g1 hq
      have pr:p≠r:=aU g1 aa (by intro z;cases z)
      have aI:=k3 p _ pq pr g1;have aF:=k3 b _ (ao hb hq) (aU hb aa (by intro z;cases z)) hb
      have aH:fi H H3:=⟨λa vs e=>k3 a _ (ao e hq) (aU e aa (by intro z;cases z)) e,λa C dx fs e=>k3 a _ (ao e hq) (aU e aa (by intro z;cases z)) e,λa ks e=>k3 a _ (ao e hq) (aU e aa (by intro z;cases z)) e⟩
      have aJ:OBS mg H3 p dat cs:=wz ⟨dx,fs,te,g1,g2,g3⟩ aH
      ctx_has v aI
      refine⟨g3.2.2.2.2.2.1,p,b,e0+y,mn,mx,dat,cs,rfl,aJ,aF,?_⟩
      refine⟨_,rfl,cO (λhm=>?_) (λhm=>?_)⟩
      . ctx_has v h3
        have qr:q≠r:=rq.symm
        refine⟨r_ (show kv.length<=200000 by omega) ∅,_,ae,aj.put,gt (cQ _ _ _) (),λs=>?_,by rw[ah rq];exact ak,λb o aE ab e=>by rw[ah aE];exact k3 b o aE ab e⟩
        rw[zH,F,aD]
        constructor
        . rintro(rfl | h | ⟨e,⟨v,hv⟩,Z⟩)
          . exact .inr ⟨e0,⟨kx.2,by rw[<- aq];simp⟩,rfl,hm⟩
          . exact .inl h
          . exact .inr ⟨e,⟨v,k4 _ hv⟩,Z⟩
        . rintro(h | ⟨e,⟨v,hv⟩,Z⟩)
          . exact .inr (.inl h)
          . rcases ja.mp hv with w | w
            . exact .inr (.inr ⟨e,⟨v,w⟩,Z⟩)
            . rw[e_,aq] at w
              have:e=e0:=Jy (congrArg Prod.fst w)
              subst this;exact .inl Z.1
      . refine⟨_,h3,aj,(),λs=>?_,ak,k3⟩
        rw[F,aD]
        constructor
        . rintro(h | ⟨e,⟨v,hv⟩,Z⟩)
          . exact .inl h
          . exact .inr ⟨e,⟨v,k4 _ hv⟩,Z⟩
        . rintro(h | ⟨e,⟨v,hv⟩,Z⟩)
          . exact .inl h
          . rcases ja.mp hv with w | w
            . exact .inr ⟨e,⟨v,w⟩,Z⟩
            . rw[e_,aq] at w
              have:e=e0:=Jy (congrArg Prod.fst w)
              subst this;exact absurd (Z.1 ▸ Z.2) hm
    . rintro σ H3 ⟨kv,v6,rfl,h3,aj,ad,F,ak,k3⟩
      rw[c_] at ad F;rw[ki] at F;refine⟨⟨ob,ak⟩,kv,_,_,rfl,by rw[ah rq.symm];exact h3,aj,by rw[Nat.mul_succ];exact ad,λs=>?_,λb o hb e=>?_⟩
      . rw[F,aK]
        constructor
        . rintro(⟨e,he,x,hx,Z⟩ | ⟨e,hv,Z⟩)
          . exact⟨e,he,x,k4 _ hx,Z⟩
          . exact⟨e,mL hv,y,by simp,Z⟩
        . rintro⟨e,he,x,hx,Z⟩
          rcases ja.mp hx with w | w
          . exact .inl ⟨e,he,x,w,Z⟩
          . rw[e_.mp w] at Z
            exact .inr ⟨e,mU he,Z⟩
      . by_cases ab:b=r
        . subst ab;rw[aa] at e;rw[ae];exact e
        . rw[ah ab];exact k3 b o hb ab e
  . rintro σ H2 ⟨kv,v5,v6,rfl,h2,an,ar,Y,k2⟩
    rw[c_] at ar Y;rw[ki] at Y;ctx_has v
    exact k q kv H2 (λb o e=>k2 b o (ao e hq) e) h2 an ar Y
theorem nj (T:Txt w K mg) (L:cJ K (aO K (ap mg "Sum") "sums_kept") "sums_kept" "Sum.sums_kept" fP ["self","rooms"]) (Fg : @ES P w K mg base) (Fh : @Gk P w K mg base) (B:FnR P w K mg base (aO K (ap mg "Sum") "sums_with") 2 ["self","reached","parts","behind"] (yO mg)):FnR P w K mg base (aO K (ap mg "Sum") "sums_kept") 4 ["self","rooms"] (vN mg):=by
 ctx_has z mO <;> obtain⟨p,r,dat,cs,kvs,rm,rfl,M,k⟩:=h
 .rfl
 refine⟨_,(af (aB 2 (aw Fg (ac (aS T.cl_Sum T.no_Sum_terms (pvM 0)) (ac (pvM 1) ag))))
  (af (aB 3 (tN (io aj dz tG) rfl rfl (by nofun) ∅))
  (af (bp (AG (K:=K) rfl rfl T.b_enumerate (ac (aS T.cl_Sum T.no_Sum_terms (pvM 0)) ag)) (jf (n:=2) rfl (cF (ay 4) (cF (ay 5) iF))) (ai (aB 3 (cy T.cl_Sum B (hr.mono (by ctx_has m)) (pvM 0) (ac (pvM 3) (ac (aw Fh (ac (pvM 5) (ac (pvM 1) ag))) (ac (aC fI (pvM 2) (aR bu (pvM 4) aj)) ag)))))))
  (ai (az (pvM 3)))))),?_⟩
 obtain⟨dx,fs,te,h1,h2,l1,l2,l3,l4,l5,l6,l7,l8⟩:=M.ob;obtain⟨ts,lo,hi⟩:=dat;have aI:=M.ok;have aA:=M.nd;have aL:=M.rd;simp only[ET] at aI h2 l2 l3;obtain⟨aZ,aF,aN⟩:=aI;subst aZ;have aK:=M.cl;rw[c_] at aK;obtain⟨as,aQ,rfl,aU⟩:=id h2;ctx_has v h1 l1
 refine⟨te,r,_,kvs,rm,rfl,h2,aL,M.rf,aA,(),aN,λc hc=>(by have:=M.gd c hc;exact⟨λe=>by rw[e] at this;simp at this,()⟩),λsl zs H1 s1 e1 bg aT bh=>?_⟩
 ctx_has v
 intro q hq;refine⟨ae,[(i_ 0,.bl true)],rfl,∅,?_⟩
 have em:eJ ([]:List (Key × V)) [(i_ 0,.bl true)]=[(i_ 0,.bl true)]:=eV _ eT
 rw[em];have s2:au H1 (upd (upd H1 q (.dK [])) q (.dK [(i_ 0,.bl true)])):=λb o e=>by rw[ah (ao e hq),ah (ao e hq)];exact e
 have aH:upd (upd H1 q (.dK [])) q (.dK [(i_ 0,.bl true)]) q<*[(i_ 0,.bl true)]:=ae
 generalize upd (upd H1 q (.dK [])) q (.dK [(i_ 0,.bl true)])=H2 at s2 aH ⊢;have ax:=s1.trans s2;have g1:=ax _ _ h1;have g2:=ax _ _ aQ;ctx_has v g1 l1 g2
 have h4:=λi (hi:i<=5)=>FZ hi
 have a7 : ∀g,tE (as.map (·.2),lo,hi) (((as.map (·.2))).map (·.2)) g=dU (fj (as.map (·.2)) g) lo hi:=λg=>rfl
 simp only[a7] at k;have bk:as.length<=5:=by simpa using aK
 refine E7 (xs:=as.map λx=>V.ref x.1) (λi σ H'=>∃(q:Addr) (kv:List (Key × V)) (v4 v5:Option V),σ=[-p,-r,-sl,-q,v4,v5]/\H' q<*kv/\oH kv/\kv.length<=4 ^ i/\(∀s,fY kv s->∃g,okF rm ((as.map (·.2)).map (·.2)) g/\fj ((as.map (·.2)).take i) g=s/\(0 < i->∃mn mx,dr rm ((as.map (·.2)).drop i) mn mx/\ga s mn mx lo hi=true))/\(∀g,okF rm ((as.map (·.2)).map (·.2)) g->dU (fj (as.map (·.2)) g) lo hi=true->fY kv (fj ((as.map (·.2)).take i) g))/\au H H'/\au H1 H')
  ⟨q,_,_,_,rfl,aH,λx hx=>⟨0,by rw[e_.mp hx]⟩,by simp,λs hs=>?_,λg _ _=>?_,ax,s2⟩ (λi σ H' aD=>by obtain⟨_,_,_,_,_,_,_,_,_,_,sm,_⟩:=aD;exact(.of (sm _ _ aQ))) ?_ ?_
 .obtain⟨v,hv⟩:=mU hs
  have e0:s=0:=Jy (congrArg Prod.fst (e_.mp hv))
  obtain⟨g,hg⟩:=zB (rm:=rm) (cs:=(as.map (·.2)).map (·.2)) λc hc=>(M.gd c hc).1
  exact⟨g,hg,by rw[e0];rfl,λh=>absurd h ()⟩
 .exact mL ⟨.bl true,e_.mpr rfl⟩
 .rintro i x σ H3 t hx ⟨q,kv,v4,v5,rfl,h3,hik,hkl,hso,hcm,s3,s13⟩ ht
  obtain⟨y,hy,rfl⟩ : ∃y,as[i]? = some y/\V.ref y.1=x:=by
   rw[ei] at hx;cases e:as[i]? with
   | none=>rw[e] at hx;cases hx
   | some nm=>rw[e] at hx;exact⟨nm,rfl,e8 hx⟩
  have bo:i < as.length:=(i4.mp hy).1
  have a9:y∈as:=f_ hy
  have F:y.2.2∈(as.map (·.2)).map (·.2):=g7.mpr ⟨y.2,g7.mpr ⟨y,a9,rfl⟩,rfl⟩
  obtain⟨ad,hv,bf⟩:=M.rf _ F;have st:au H3 (upd H3 t (.tup [.int (i:Nat),.ref y.1])):=au.upd0 ht
  have Z:=s3.trans st;have f1:=Z _ _ h1;have an:upd H3 t (.tup [.int (i:Nat),.ref y.1]) t>>[.int (i:Nat),.ref y.1]:=ae
  ctx_has v an f1
  refine⟨l7,y.1,r,ad,y.2.1,y.2.2,kvs,rm y.2.2,rfl,Z _ _ (aU y a9),Z _ _ aL,hv,Z _ _ bf,aN y.2 (g7.mpr ⟨y,a9,rfl⟩),by have:=(M.gd _ F).2.1;omega,λpl H4 s4 bn bi=>?_⟩
  have a0:=s13.trans st;have bj:=(a0.trans s4) _ _ e1;obtain⟨zn,aq⟩ : ∃zn,zs[i+1]? = some zn:=⟨zs[i+1]'(by rw[bg];simp;omega),by simp⟩
  have aP:zn∈zs:=f_ aq
  have aM:atI (zs.map λx=>V.ref x.1) ((i:Int)+1)=some (V.ref zn.1):=cg (j:=i+1) (by rw[ei,aq];rfl)
  ctx_has v bj aM
  have ab:=bh (i+1) zn aq;have bb:=(M.gd _ F).2.1;have bq:=h4 (i+1) ()
  have hb:kv.length * ((rm y.2.2).map (y.2.1 * ·)).length<=4 ^ (i+1):=by
   rw[c_,Nat.pow_succ];exact Nat.mul_le_mul hkl bb
  have aE:=Z.trans s4;refine⟨p,q,pl,zn.1,kv,_,zn.2.1,zn.2.2,(as.map (·.2),lo,hi),(as.map (·.2)).map (·.2),rfl,wz M.ob (au.keepTI aE),(st.trans s4) _ _ h3,hik,bi,(a0.trans s4) _ _ (aT zn aP),(),λq5 ba H5 s5 h5 aJ bm aa=>?_⟩
  have ar:(as.map (·.2)).take (i+1)=(as.map (·.2)).take i++[y.2]:=by rw[i7,ei,hy];rfl
  have bc:y.2.2∉((as.map (·.2)).take i).map (·.2):=λhm=>by
   have aG:(((as.map (·.2)).take (i+1)).map (·.2)).Nodup:=aA.sublist ((JD _ _).map _)
   rw[ar,k9,rb] at aG;exact aG.2.2 _ hm _ (by simp) rfl
  refine⟨q5,rfl,ba,h5,aJ,(),λs hs=>?_,λg hg hk=>?_,aE.trans s5,(a0.trans s4).trans s5⟩
  .obtain⟨e,he,x,hx,rfl,am⟩:=(aa s).mp hs
   obtain⟨g,ak,Y,_⟩:=hso e he;obtain⟨v,bd,rfl⟩:=g7.mp hx;refine⟨bY g y.2.2 v,DB ak bd,?_,λ_=>⟨_,_,ab,am⟩⟩
   rw[ar,jh,lg bc,Y];simp[fj,be]
  .rw[aa]
   refine⟨_,hcm g hg hk,y.2.1 * g y.2.2,g7.mpr ⟨g y.2.2,hg _ F,rfl⟩,?_,Ep ab hg hk⟩
   rw[ar,jh];simp[fj]
 .rintro σ H3 ⟨q,kv,v4,v5,rfl,h3,hik,hkl,hso,hcm,s3,s13⟩
  rw[c_] at hso hcm;have an:(as.map (·.2)).take as.length=as.map (·.2):=p_ (by simp)
  have aY:(as.map (·.2)).drop as.length=[]:=List.drop_of_length_le (by simp)
  rw[an] at hcm;simp only[an,aY] at hso;ctx_has v h3
  refine k _ kv H3 h3 ?_ s3
  have a8:0 < as.length:=by
   rcases as with _ | ⟨y,as⟩
   .exact absurd rfl aF
   .simp
  constructor
  .intro hpos
   rcases kv with _ | ⟨y,kv⟩
   .simp at hpos
   obtain⟨e0,aV⟩:=hik y (by simp)
   obtain⟨g,ak,Y,aW⟩:=hso e0 (mL ⟨y.2,by rw[<- aV];simp⟩)
   obtain⟨mn,mx,aX,am⟩:=aW a8;rw[Cu aX] at am;exact⟨g,ak,by rw[Y];exact am⟩
  .rintro⟨g,ak,Y⟩
   obtain⟨v,hv⟩:=mU (hcm g ak Y);have:=Jp hv
   omega
theorem pB (T:Txt w K mg) (L:cJ K (aO K (ap mg "Sum") "may_keep") "may_keep" "Sum.may_keep" gD ["self","rooms"]) (B:FnR P w K mg base (aO K (ap mg "Sum") "sums_kept") 4 ["self","rooms"] (vN mg)):FnR P w K mg base (aO K (ap mg "Sum") "may_keep") 22 ["self","rooms"] (eC mg):=by
 ctx_has z px <;> obtain⟨p,r,dat,cs,kvs,rm,rfl,M,k⟩:=h
 .rfl
 refine⟨_,(ai (az (bw oB (aF Ao T.b_len (ac (cy T.cl_Sum B (hr.mono (by ctx_has m)) (pvM 0) (ac (pvM 1) ag)) ag)) aj))),?_⟩
 obtain⟨dx,fs,te,h1,h2,l1,l2,l3,l4,l5,l6,l7,l8⟩:=id M.ob;ctx_has v h1
 refine⟨l8,p,r,dat,cs,kvs,rm,rfl,M,λq kv H3 Y F Z=>?_⟩
 ctx_has v Y
 refine k _ H3 ?_ Z
 rw[decide_eq_true_eq,<- F];omega
theorem oz (T:Txt w K mg) (L:cJ K (aO K (ap mg "Sum") "may_break") "may_break" "Sum.may_break" fS ["self","rooms"]) (Fg : @ES P w K mg base) (Fp:Fn P w K mg base "is_between" 1 ["number","low","high"] (EA)):FnR P w K mg base (aO K (ap mg "Sum") "may_break") 22 ["self","rooms"] (gY mg):=by
 ctx_has z nF <;> obtain⟨p,r,dat,cs,kvs,rm,rfl,M,k⟩:=h
 .rfl
 refine⟨_,(af (aB 2 (aC fI (aw Fg (ac (aS T.cl_Sum T.no_Sum_terms (pvM 0)) (ac (pvM 1) ag))) aj))
  (ai (az (mm (Bj (aw Fp (ac (aC aZ (pvM 2) aj) (ac (aS T.cl_Sum T.no_Sum_low (pvM 0)) (ac (aS T.cl_Sum T.no_Sum_high (pvM 0)) ag))))) (eZ (Bj (aw Fp (ac (aC aZ (pvM 2) aj) (ac (aS T.cl_Sum T.no_Sum_low (pvM 0)) (ac (aS T.cl_Sum T.no_Sum_high (pvM 0)) ag)))))))))),?_⟩
 obtain⟨dx,fs,te,h1,h2,l1,l2,l3,l4,l5,l6,l7,l8⟩:=M.ob;obtain⟨ts,lo,hi⟩:=dat;have ab:=M.ok;have am:=M.nd;have ah:=M.rd;simp only[ET] at ab h2 l2 l3;obtain⟨an,ay,ar⟩:=ab;subst an;have ao:=M.cl;rw[c_] at ao;ctx_has v h1 l1
 refine⟨te,r,ts,kvs,rm,rfl,h2,ah,M.rf,am,(),ar,λc hc=>(by have:=M.gd c hc;exact⟨λe=>by rw[e] at this;simp at this,()⟩),λsl zs H1 s1 e1 a0 ak aq=>?_⟩
 obtain⟨B,F⟩ : ∃B,zs[0]? = some B:=⟨zs[0]'(),by simp⟩
 have ad:B∈zs:=f_ F
 have ax:atI (zs.map λx=>V.ref x.1) 0=some (V.ref B.1):=cg (j:=0) (by rw[ei,F];rfl)
 have Y:=aq 0 B F;rw[drop_zero] at Y;have aa:=ak B ad;have g1:=s1 _ _ h1;ctx_has v e1 ax aa g1 l2 l3
 refine⟨B.2.1,lo,hi,rfl,λH2 s2=>?_⟩
 have g2:=(s1.trans s2) _ _ h1;have Z:=s2 _ _ aa;have key:=wC (lo:=lo) (hi:=hi) Y;cases eb:dU B.2.1 lo hi with
 | false =>
  ctx_has v Bool.not_false
  refine k true H2 ?_ (s1.trans s2)
  refine Iff.trans ?_ key
  rw[eb];simp
 | true =>
  ctx_has v Bool.not_true g_ Z g2 l2 l3
  refine⟨B.2.2,lo,hi,rfl,λH3 s3=>?_⟩
  refine⟨_,rfl,k _ H3 ?_ ((s1.trans s2).trans s3)⟩
  refine Iff.trans ?_ key
  rw[eb];simp
abbrev tz:=List Str
def WSU (H:Hp) (w:Addr) (dat:tz) (cs:List Str):Prop:=∃B,H w>>[.str "unlike",.ref B]/\H B>>(dat.map V.str)
def IC (dat:tz) (cs:List Str):Prop:=dat.Perm cs
def OBU (mg:Str->Option Value) (H:Hp) (t:Addr) (dat:tz) (cs:List Str):Prop:=∃dx fs B,H t=some (.ins (ap mg "Unlike") dx fs)/\fs.lookup (b_ "cells")=some (.ref B)/\H B>>(dat.map V.str)/\fs.lookup (b_ "may_keep")=none/\fs.lookup (b_ "may_break")=none
theorem yQ {t:Addr} {dat:tz} (h:OBU mg H t dat cs) : ∃dx fs,H t=some (.ins (ap mg "Unlike") dx fs)/\fs.lookup (b_ "may_keep")=none/\fs.lookup (b_ "may_break")=none:=by
 obtain⟨dx,fs,L,h1,h2,Y,B,F⟩:=h;exact⟨dx,fs,h1,B,F⟩
def Bq (dat:tz) (cs:List Str) (g:Str->Int):Bool:=decide ((dat.map g).Nodup)
def yK (mg:Str->Option Value):Sp:=λvs H Q _=>∃(p dx w:Addr) (dat:tz) (cs:List Str),vs=[.ref p,.ref w]/\H p=some (.ins (ap mg "Unlike") dx [])/\WSU H w dat cs/\∀H',OBU mg H' p dat cs->HW mg "Unlike" H' p w->gy p H H'->Q .non H'
structure CB (mg:Str->Option Value) (H:Hp) (p r:Addr) (dat:tz) (cs:List Str) (kvs:List (Key × V)) (rm:Str->List Int):Prop where
 ob:OBU mg H p dat cs
 rd:H r<*kvs
 rf:aX H kvs cs rm
 ok:IC dat cs
 nd:cs.Nodup
 cl:cs.length<=5
 gd : ∀c∈cs,1<=(rm c).length/\(rm c).length<=4/\(rm c).Nodup
def eG (mg:Str->Option Value):Sp:=λvs H Q _=>∃(p r:Addr) (dat:tz) (cs:List Str) (kvs:List (Key × V)) (rm:Str->List Int),vs=[.ref p,.ref r]/\CB mg H p r dat cs kvs rm/\∀(b:Bool) H',(b=true↔∃g,okF rm cs g/\Bq dat cs g=true)->au H H'->Q (.bl b) H'
def gX (mg:Str->Option Value):Sp:=λvs H Q _=>∃(p r:Addr) (dat:tz) (cs:List Str) (kvs:List (Key × V)) (rm:Str->List Int),vs=[.ref p,.ref r]/\CB mg H p r dat cs kvs rm/\∀(b:Bool) H',(b=true↔∃g,okF rm cs g/\Bq dat cs g=false)->au H H'->Q (.bl b) H'
theorem eR {dat:List Str} (hd:dat.Nodup) : ¬ (dat.map g).Nodup↔∃c∈dat,∃B∈dat,c≠B/\g c=g B:=by
 constructor
 .intro h
  refine nH λF=>h ?_
  refine Gt.mpr (G4 (λ{a b} ha hb q e=>F ⟨a,ha,b,hb,q,e⟩) hd)
 .rintro⟨c,hc,B,hc',hne,e⟩ h
  obtain⟨i,hi,L⟩:=uj hc;obtain⟨j,Z,Y⟩:=uj hc';have e1:(dat.map g)[i]? = some (g c):=by simp[hi,L]
  have e2:(dat.map g)[j]? = some (g c):=by simp[Z,Y,e]
  have:=fK h e1 e2
  subst this;exact hne (L.symm.trans Y)
theorem Gb {B:Str} (L:c≠B) (hv:v∈rm c) (F:v'∈rm B) (Y : ∀x∈cs,1<=(rm x).length) : ∃g,okF rm cs g/\g c=v/\g B=v':=by
 refine⟨λx=>if x=c then v else if x=B then v' else(rm x).headD 0,λx Z=>?_,by simp,by simp[tj L]⟩
 by_cases e:x=c
 .subst e;simp;exact hv
 .by_cases e':x=B
  .subst e';simp[e];exact F
  .simp[e,e']
   have:=Y x Z
   cases h:rm x with
   | nil=>rw[h] at this;simp at this
   | cons a b=>simp
def iu (x:Int × Str):Key × V:=(i_ x.1,.str x.2)
def jp (v:Int):Key × V:=(i_ v,.bl true)
def bF:List (Int × Str)->Int->Option Str
 | [],_=>none
 | (w,x) :: r,v=>if w=v then some x else bF r v
def dM:List (Int × Str)->Int->Str->List (Int × Str)
 | [],v,c=>[(v,c)]
 | (w,x) :: r,v,c=>if w=v then(w,c) :: r else(w,x) :: dM r v c
def eP:List (Int × Str)->Str->Nat
 | [],_=>0
 | (_,x) :: r,y=>(if x=y then 1 else 0)+eP r y
theorem mV : ∀(hl:List (Int × Str)) (v:Int),bQ (hl.map iu) (i_ v)=(bF hl v).map V.str
 | [],v=>rfl
 | (w,x) :: r,v=>by
  rw[i9]
  by_cases h:w=v
  .subst h
   rw[show iu (w,x)=(i_ w,.str x) from rfl,bB rfl]
   simp[bF]
  .rw[show iu (w,x)=(i_ w,.str x) from rfl,aW (λz=>h (Jy z)),mV r v]
   simp[bF,h]
theorem ye {k B:Key} {v v':V} {r:List (Key × V)}:bm ((k,v) :: r) B v'=if k=B then(k,v') :: r.map (λkv=>if kv.1=B then(kv.1,v') else kv) else(k,v) :: bm r B v':=by
 unfold bm
 by_cases h:k=B
 .simp[h]
 .simp only[Kh,decide_eq_false h,Bool.false_or,if_neg h,i9]
  split <;> simp
theorem oZ {B:Key} {v':V} : ∀{r:List (Key × V)},bQ r B=none->r.map (λkv=>if kv.1=B then(kv.1,v') else kv)=r
 | [],_=>rfl
 | (k,v) :: r,h=>by
  by_cases e:k=B
  .rw[bB e] at h;cases h
  .rw[aW e] at h
   rw[i9,oZ h];simp[e]
theorem xZ {hl:List (Int × Str)} (h:v∉hl.map (·.1)):bF hl v=none:=by
 induction hl with
 | nil=>rfl
 | cons p r B =>
  obtain⟨w,x⟩:=p;simp at h
  unfold bF;rw[if_neg (λz=>h.1 z.symm)]
  exact B (by simpa using h.2)
theorem mQ : ∀{hl:List (Int × Str)} (v:Int) (c:Str),(hl.map (·.1)).Nodup->bm (hl.map iu) (i_ v) (.str c)=(dM hl v c).map iu
 | [],v,c,_=>rfl
 | (w,x) :: r,v,c,hn=>by
  rw[i9,mu] at hn;rw[i9,show iu (w,x)=(i_ w,.str x) from rfl,ye]
  by_cases h:w=v
  .subst h
   rw[if_pos rfl,oZ (by rw[mV,xZ hn.1];rfl)]
   simp[dM,iu]
  .rw[if_neg (λz=>h (Jy z)),mQ v c hn.2]
   simp[dM,h,iu]
theorem mT (v:Int) (c:Str) (v':Int) : ∀hl:List (Int × Str),bF (dM hl v c) v'=if v'=v then some c else bF hl v'
 | []=>by
  by_cases h:v'=v
  .subst h;simp[dM,bF]
  .simp[dM,bF,h,tj h]
 | (w, x) :: r=>by
  unfold dM
  by_cases h:w=v
  .subst h
   by_cases h2:v'=w
   .subst h2;simp[bF]
   .simp[bF,h2,tj h2]
  .rw[if_neg h]
   by_cases h2:w=v'
   .subst h2
    simp[bF,h]
   .simp only[bF,if_neg h2,mT v c v' r]
theorem sM (v:Int) (c:Str) : ∀{hl:List (Int × Str)},(hl.map (·.1)).Nodup->((dM hl v c).map (·.1)).Nodup/\∀w,w∈(dM hl v c).map (·.1)↔w=v\/w∈hl.map (·.1)
 | [],_=>by simp[dM]
 | (w, x) :: r,hn=>by
  rw[i9,mu] at hn;unfold dM
  by_cases h:w=v
  .subst h
   rw[if_pos rfl];refine⟨by simpa using hn,λu=>?_⟩
   simp
  .rw[if_neg h]
   have B:=sM v c hn.2;refine⟨?_,λu=>?_⟩
   .rw[i9,mu]
    refine⟨λz=>?_,B.1⟩
    rcases (B.2 w).mp z with e | e
    .exact h e
    .exact hn.1 e
   .rw[i9,i6,B.2 u,i9,i6]
    constructor
    .rintro(e | e | e)
     .exact .inr (.inl e)
     .exact .inl e
     .exact .inr (.inr e)
    .rintro(e | e | e)
     .exact .inr (.inl e)
     .exact .inl e
     .exact .inr (.inr e)
theorem qu (v:Int) (c y:Str) : ∀{hl:List (Int × Str)},(hl.map (·.1)).Nodup->eP (dM hl v c) y+(if bF hl v=some y then 1 else 0)=eP hl y+(if c=y then 1 else 0)
 | [],_=>by simp[dM,eP,bF]
 | (w,x) :: r,hn=>by
  rw[i9,mu] at hn;unfold dM bF
  by_cases h:w=v
  .subst h
   rw[if_pos rfl,if_pos rfl];simp only[eP,Option.some.injEq]
   split <;> split <;> omega
  .rw[if_neg h,if_neg h]
   have B:=qu v c y hn.2;simp only[eP];omega
theorem uK {v:Int} {c:Str} {x:Int × Str} : ∀{hl:List (Int × Str)},x∈dM hl v c->x=(v,c)\/x∈hl
 | [],h=>by simp[dM] at h;exact .inl h
 | (w, z) :: r,h=>by
  unfold dM at h
  by_cases e:w=v
  .subst e
   rw[if_pos rfl] at h;rcases i6.mp h with q | q
   .exact .inl q
   .exact .inr (by simp[q])
  .rw[if_neg e] at h
   rcases i6.mp h with q | q
   .exact .inr (by simp[q])
   .rcases uK q with q | q
    .exact .inl q
    .exact .inr (by simp[q])
theorem gm {v:Int} {x:Str} : ∀{hl:List (Int × Str)},bF hl v=some x->(v,x)∈hl
 | (w,z) :: r,h=>by
  unfold bF at h
  by_cases e:w=v
  .subst e;rw[if_pos rfl] at h;cases h;simp
  .rw[if_neg e] at h;simp[gm h]
theorem mP {v:Int} {x:Str} : ∀{hl:List (Int × Str)},(hl.map (·.1)).Nodup->(v,x)∈hl->bF hl v=some x
 | (w,z) :: r,hn,h=>by
  rw[i9,mu] at hn;rcases i6.mp h with q | q
  .cases q;simp[bF]
  .have hne:w≠v:=λe=>hn.1 (by subst e;exact g7.mpr ⟨_,q,rfl⟩)
   unfold bF;rw[if_neg hne];exact mP hn.2 q
theorem kZ:(bQ (tl.map jp) (i_ v)).isSome=decide (v∈tl):=by
 induction tl with
 | nil=>rfl
 | cons w r B =>
  rw[i9]
  by_cases h:w=v
  .subst h
   rw[show jp w=(i_ w,.bl true) from rfl,bB rfl]
   simp
  .rw[show jp w=(i_ w,.bl true) from rfl,aW (λz=>h (Jy z)),B]
   simp[tj h]
theorem zS (h:v∉tl):bm (tl.map jp) (i_ v) (.bl true)=(tl++[v]).map jp:=by
 rw[eV]
 .simp[jp]
 .have:=kZ (tl:=tl) (v:=v)
  rw[decide_eq_false h] at this;cases e:bQ (tl.map jp) (i_ v) with
  | none=>rfl
  | some x=>rw[e] at this;cases this
structure dJ (H:Hp) (r ha ta:Addr) (CS:List Str) (kvs:List (Key × V)) (rm:Str->List Int) (U:List Int) (hl:List (Int × Str)) (tl:List Int):Prop where
 rd:H r<*kvs
 rf:aX H kvs CS rm
 hh:H ha<*(hl.map iu)
 ht:H ta<*(tl.map jp)
 ne:r≠ha/\r≠ta/\ha≠ta
 hk:(hl.map (·.1)).Nodup
 hv : ∀x∈hl,x.2∈CS/\x.1∈rm x.2
 tn:tl.Nodup
 tu : ∀v∈tl,v∈U
 ru : ∀x∈CS,∀v∈rm x,v∈U
 ul:U.length<=100
 rl : ∀x∈CS,(rm x).length<=100
def kA (n:Nat):Sp:=λvs H Q _=>∃(r ha ta:Addr) (CS:List Str) (kvs:List (Key × V)) (rm:Str->List Int) (U:List Int) (hl:List (Int × Str)) (tl:List Int) (c:Str),vs=[.str c,.ref r,.ref ha,.ref ta]/\dJ H r ha ta CS kvs rm U hl tl/\c∈CS/\(U.filter λv=>decide (v∉tl)).length<=n /\
 ∀ (b:Bool) (F:List (Int × Str)) (B:List Int) (H':Hp),dJ H' r ha ta CS kvs rm U F B->(∀v∈tl,v∈B)->(∀a o,a≠ha->a≠ta->H a=some o->H' a=some o) ->
  (b=true->(∀y,eP F y=eP hl y+if c=y then 1 else 0)/\∀v∈tl,bF F v=bF hl v)->(b=false->F=hl/\(∀v∈rm c,v∈B)/\∀v∈B,v∉tl->∃x,bF hl v=some x/\∀v'∈rm x,v'∈B)->Q (.bl b) H'
theorem dJ.small {ta:Addr} {hl:List (Int × Str)} (k:dJ H r ha ta CS kvs rm U hl tl):hl.length<=100/\tl.length<=100:=by
 have h1:=fc k.tn k.tu;have h2:=fc (ys:=U) k.hk λv hv=>by
  obtain⟨x,B,rfl⟩:=g7.mp hv;exact k.ru _ (k.hv x B).1 _ (k.hv x B).2
 rw[c_] at h2;have:=k.ul
 omega
theorem dJ.tryV {ta:Addr} {hl:List (Int × Str)} (k:dJ H r ha ta CS kvs rm U hl tl) (hv:v∉tl) (hu:v∈U):dJ (upd H ta (.dK ((tl++[v]).map jp))) r ha ta CS kvs rm U hl (tl++[v]):=by
 refine⟨by rw[ah k.ne.2.1];exact k.rd,k.rf.same λa vs e=>by rw[ah (aU e k.ht (by intro z;cases z))];exact e,by rw[ah k.ne.2.2];exact k.hh,ae,k.ne,k.hk,k.hv,?_,λx F=>?_,k.ru,k.ul,k.rl⟩
 .rw[rb]
  exact⟨k.tn,by simp,λa ha b B=>by rw[e_.mp B];rintro rfl;exact hv ha⟩
 .rcases ja.mp F with q | q
  .exact k.tu x q
  .rw[e_.mp q];exact hu
theorem dJ.hold {ta:Addr} {hl:List (Int × Str)} (k:dJ H r ha ta CS kvs rm U hl tl) (F:c∈CS) (hv:v∈rm c):dJ (upd H ha (.dK ((dM hl v c).map iu))) r ha ta CS kvs rm U (dM hl v c) tl:=by
 refine⟨by rw[ah k.ne.1];exact k.rd,k.rf.same λa vs e=>by rw[ah (aU e k.hh (by intro z;cases z))];exact e,ae,by rw[ah k.ne.2.2.symm];exact k.ht,k.ne,(sM v c k.hk).1,λx B=>?_,k.tn,k.tu,k.ru,k.ul,k.rl⟩
 rcases uK B with q | q
 .rw[q];exact⟨F,hv⟩
 .exact k.hv x q
theorem xW {F:List Int} (h : ∀v∈tl,v∈F):(U.filter λx=>decide (x∉F)).length<=(U.filter λx=>decide (x∉tl)).length:=by
 induction U with
 | nil=>simp
 | cons a r B =>
  rw[sn,sn]
  by_cases h1:a∈tl
  .have h2:=h a h1
   simp[h1,h2];simpa using B
  .by_cases h2:a∈F
   .simp[h1,h2];have:=B;simp at this;omega
   .simp[h1,h2];simpa using B
theorem BQ (hu:v∈U) (L:v∉tl):(U.filter λx=>decide (x∉tl++[v])).length < (U.filter λx=>decide (x∉tl)).length:=by
 induction U with
 | nil=>simp at hu
 | cons a r B =>
  have F : ∀r:List Int,(r.filter λx=>decide (x∉tl++[v])).length<=(r.filter λx=>decide (x∉tl)).length:=by
   intro r
   induction r with
   | nil=>simp
   | cons b r B =>
    rw[sn,sn]
    by_cases h1:b∈tl
    .simp[h1];simpa using B
    .by_cases h2:b=v
     .subst h2;simp[h1];have:=B;simp at this;omega
     .simp[h1,h2];simpa using B
  rw[sn,sn]
  by_cases h2:a=v
  .subst h2
   have:=F r
   simp[L]
   simp at this
   omega
  .have hr:v∈r:=by
    rcases i6.mp hu with q | q
    .exact absurd q.symm h2
    .exact q
   have:=B hr
   by_cases h1:a∈tl
   .simp[h1];simpa using this
   .simp[h1,h2];simpa using this
theorem mJ (T:Txt w K mg) (L:cJ K (gp K (ap mg "Wish") "__init__") "__init__" "Wish.__init__" bD ["self","wish"]):FnR P w K mg base (gp K (ap mg "Wish") "__init__") 1 ["self","wish"] (dq mg "Unlike"):=by
 ctx_has z bU <;> obtain⟨p,dx,fs,w,rfl,hp,B,k⟩:=h
 .rfl
 refine⟨_,(ai (bE T.cl_Unlike T.no_Unlike_wish (pvM 0) (pvM 1) rfl)),?_⟩
 ctx_has v hp
 exact⟨B,k⟩
theorem lx (T:Txt w K mg) (L:cJ K (Mk K (ap mg "Unlike")) "__init__" "Unlike.__init__" eY ["self","wish"]) (B:FnR P w K mg base (gp K (ap mg "Wish") "__init__") 1 ["self","wish"] (dq mg "Unlike")):FnR P w K mg base (Mk K (ap mg "Unlike")) 2 ["self","wish"] (yK mg):=by
 ctx_has z kT <;> obtain⟨p,dx,w,dat,cs,rfl,hp,W,k⟩:=h
 .rfl
 refine⟨_,(af (bW (jm B (hr.mono (by ctx_has m)) rfl T.at_Wish (ac (pvM 0) (ac (pvM 1) ag))))
  (ai (bE T.cl_Unlike T.no_Unlike_cells (pvM 0) (aC aZ (pvM 1) aj) rfl))),?_⟩
 obtain⟨Y,F,hc⟩:=W;ctx_has v F
 have pw:w≠p:=aU F hp (by intro z;cases z)
 have Z:Y≠p:=aU hc hp (by intro z;cases z)
 refine⟨p,dx,[],.ref w,rfl,hp,∅,?_⟩
 ctx_has v ae
 refine⟨_,by rw[ah pw];exact F,?_⟩
 ctx_has v
 refine⟨r_ (eA _ _ _) ∅,k _ ⟨dx,_,Y,ae,?_,by rw[ah Z,ah Z];exact hc,?_⟩ ⟨dx,_,ae,?_⟩ ?_⟩
 .simp only[bz,dY,String.reduceEq,if_true,if_false]
 .simp only[bz,dY,String.reduceEq,if_true,if_false,true_and,I0,and_self]
 .simp only[bz,dY,String.reduceEq,if_true,if_false,true_and,I0,and_self]
 .intro b o hb e
  rw[ah hb,ah hb];exact e
theorem kD (T:Txt w K mg) (L:cJ K (aO K (ap mg "Unlike") "may_break") "may_break" "Unlike.may_break" eL ["self","rooms"]):FnR P w K mg base (aO K (ap mg "Unlike") "may_break") 22 ["self","rooms"] (gX mg):=by
  ctx_has z kI <;> obtain⟨p,r,dat,cs,kvs,rm,rfl,M,k⟩:=h
  . rfl
  refine⟨_,(af (aB 2 fF)
    (af (bp (bK K (aS T.cl_Unlike T.no_Unlike_cells (pvM 0))) (ay 3) (ai (bp (bK K (bx hu (pvM 1) (pvM 3))) (ay 4) (af (bg (ql (Ei hu (pvM 4) (pvM 2))) (ai (az dz)) aM)
    (ai (gV hu (pvM 2) (pvM 4) dz rfl))))))
    (ai (az dz)))),?_⟩
  obtain⟨dx,fs,ce,h1,f1,aA,_,_⟩:=M.ob;have aQ:=M.rd;have aq:dat.Nodup:=M.ok.nodup_iff.mpr M.nd
  have aV:dat.length=cs.length:=M.ok.length_eq
  have aW:=M.cl;have ad : ∀c∈dat,c∈cs:=λc hc=>M.ok.mem_iff.mp hc
  ctx_has v
  intro se ax;have s1:au H (upd H se (.dK [])):=au.upd0 ax
  refine⟨dx,fs,s1 _ _ h1,_,f1,ce,rfl,_,s1 _ _ aA,?_⟩
  refine bS aT (λi σ H'=>∃(sv:List (Key × V)) (v3 v4:Option V),σ=[-p,-r,-se,v3,v4]/\H' se<*sv/\(∀v:Int,(bQ sv (i_ v)).isSome=true↔∃c∈dat.take i,v∈rm c)/\(∀c∈dat.take i,∀Y∈dat.take i,c≠Y->∀v∈rm c,v∉rm Y)/\sv.length<=4 * i/\au H H')
    ⟨[],_,_,rfl,ae,by simp[bQ],by simp,by simp,s1⟩ (λi σ H' aC=>by obtain⟨_,_,_,_,_,_,_,_,sm⟩:=aC;exact(.of (sm _ _ aA))) ?_ ?_
  . rintro i x σ H2 hi hx ⟨sv,v3,v4,rfl,h2,a0,ab,aI,ag⟩
    rw[c_] at hi;obtain⟨c,aw,rfl⟩ : ∃c,dat[i]? = some c/\V.str c=x:=by
      rw[ei] at hx;cases e:dat[i]? with
      | none=>rw[e] at hx;cases hx
      | some nm=>rw[e] at hx;exact⟨nm,rfl,e8 hx⟩
    have aF:c∈dat:=f_ aw
    have a9:=ad c aF;have aD:dat.take (i+1)=dat.take i++[c]:=by rw[i7,aw];rfl
    have aP:c∉dat.take i:=λhm=>by
      obtain⟨j,hj,e⟩:=uj hm;have a7:j < i:=by simp at hj;omega
      have e2:dat[j]? = some c:=by rw[<- e,List.getElem_take];simp
      have:=fK aq e2 aw
      omega
    obtain⟨ra,aN,a8⟩:=M.rf c a9;obtain⟨g1,g2,g3⟩:=M.gd c a9;have aL:=ag _ _ aQ;have aG:=ag _ _ a8;ctx_has v aL aN aG
    refine bS aT (λj σ H'=>∃(sv:List (Key × V)) (v4:Option V),σ=[-p,-r,-se,some (.str c),v4]/\H' se<*sv/\(∀v:Int,(bQ sv (i_ v)).isSome=true↔(∃c∈dat.take i,v∈rm c)\/v∈(rm c).take j)/\(∀v∈(rm c).take j,∀Y∈dat.take i,v∉rm Y)/\sv.length<=4 * i+j/\au H H')
      ⟨sv,_,rfl,h2,λv=>by rw[a0 v];simp,by simp,aI,ag⟩ (λi σ H' aH=>by obtain⟨_,_,_,_,_,_,_,sm⟩:=aH;exact(.of (sm _ _ a8))) ?_ ?_
    . rintro j y σ H3 hj hy ⟨sv,v4,rfl,h3,B,ac,ak,aj⟩
      rw[c_] at hj;obtain⟨v,ar,rfl⟩ : ∃v,(rm c)[j]? = some v/\V.int v=y:=by
        rw[ei] at hy;cases e:(rm c)[j]? with
        | none=>rw[e] at hy;cases hy
        | some nm=>rw[e] at hy;exact⟨nm,rfl,e8 hy⟩
      have aJ:v∈rm c:=f_ ar
      have aK:v∉(rm c).take j:=λhm=>by
        obtain⟨j',a7,e⟩:=uj hm;have aU:j' < j:=by simp at a7;omega
        have e2:(rm c)[j']? = some v:=by rw[<- e,List.getElem_take];simp
        have:=fK g3 e2 ar
        omega
      have am:(rm c).take (j+1)=(rm c).take j++[v]:=by rw[i7,ar];rfl
      ctx_has v h3
      refine cO (λh=>?_) (λh=>?_)
      . refine k true H3 ⟨λ_=>?_,λ_=>rfl⟩ aj
        rcases (B v).mp h with⟨Y,Z,F⟩ | z
        . have aa:c≠Y:=λe=>aP (e ▸ Z)
          obtain⟨g,hg,e1,e2⟩:=Gb aa aJ F (λx hx=>(M.gd x hx).1) (cs:=cs)
          refine⟨g,hg,decide_eq_false ((eR aq).mpr ⟨c,aF,Y,F_ Z,aa,by rw[e1,e2]⟩)⟩
        . exact absurd z aK
      . have aR : ¬ ((∃c∈dat.take i,v∈rm c)\/v∈(rm c).take j):=λz=>h ((B v).mpr z)
        refine⟨aE (),bm sv (i_ v) (.bl true),ae,λv'=>?_,λv' F Y Z an=>?_,gt (cQ _ _ _) (),λb o e=>?_⟩
        . rw[jV]
          by_cases ev:v'=v
          . subst ev
            rw[if_pos rfl,am];simp
          . rw[if_neg (λz=>ev (Jy z)),B v',am]
            simp[ev]
        . rw[am] at F
          rcases ja.mp F with z | z
          . exact ac v' z Y Z an
          . rw[e_.mp z] at an
            exact aR (.inl ⟨Y,Z,an⟩)
        . rw[ah (ao e ax)];exact aj b o e
    . rintro σ H3 ⟨sv,v4,rfl,h3,B,ac,ak,aj⟩
      rw[c_,ki] at B ac;rw[c_] at ak;refine⟨sv,_,_,rfl,h3,λv=>?_,λx hx y hy aa v hv F=>?_,(),aj⟩
      . rw[B v,aD]
        constructor
        . rintro(⟨Y,h5,h6⟩ | h5)
          . exact⟨Y,k4 _ h5,h6⟩
          . exact⟨c,by simp,h5⟩
        . rintro⟨Y,h5,h6⟩
          rcases ja.mp h5 with z | z
          . exact .inl ⟨Y,z,h6⟩
          . rw[e_.mp z] at h6;exact .inr h6
      . rw[aD] at hx hy
        rcases ja.mp hx with z | z
        . rcases ja.mp hy with z' | z'
          . exact ab x z y z' aa v hv F
          . rw[e_.mp z'] at F
            exact ac v F x z hv
        . rw[e_.mp z] at hv aa
          rcases ja.mp hy with z' | z'
          . exact ac v hv y z' F
          . exact aa (e_.mp z').symm
  . rintro σ H2 ⟨sv,v3,v4,rfl,h2,a0,ab,aI,ag⟩
    rw[c_,ki] at ab;ctx_has v
    refine k false H2 ⟨λz=>(by cases z),?_⟩ ag
    rintro⟨g,hg,hk⟩
    obtain⟨c,hc,Y,Z,aa,e⟩:=(eR aq).mp (of_decide_eq_false hk);exact absurd (e ▸ hg Y (ad Y Z)) (λz=>ab c hc Y Z aa (g c) (hg c (ad c hc)) z)
theorem pz (T : Txt w K mg) (L:FnL K mg "finds_value" da ["cell","rooms","holders","tried"]) (Fe:Fn P w K mg base "finds_value" (n+1) ["cell","rooms","holders","tried"] (kA n)):Fn P w K mg base "finds_value" (n+1+1) ["cell","rooms","holders","tried"] (kA (n+1)):=by
  ctx_has z jR <;> obtain⟨r,ha,ta,CS,kvs,rm,U,hl,tl,c,rfl,k0,hc,hm,k⟩:=h
  . rfl
  refine⟨_,(af (bp (bK K (bx hu (pvM 1) (pvM 0))) (ay 4) (ai (bg (ql (iG hu (pvM 4) (pvM 3))) (af (gV hu (pvM 3) (pvM 4) dz rfl)
    (ai (bg (PW.pt (kJ (ql (iG hu (pvM 4) (pvM 2))) (jM (dw (aw Fe (ac (bx hu (pvM 2) (pvM 4)) (ac (pvM 1) (ac (pvM 2) (ac (pvM 3) ag))))))))) (af (gV hu (pvM 2) (pvM 4) (pvM 0) rfl)
    (ai (az dz))) aM))) aM)))
    (ai (az dz))),?_⟩
  obtain⟨ra,aF,aj⟩:=k0.rf c hc;have aJ:=k0.rd;ctx_has v aJ aF aj
  refine bS aT (λj σ H'=>∃(Y:List Int) (v4:Option V),σ=[some (.str c),-r,-ha,-ta,v4]/\dJ H' r ha ta CS kvs rm U hl Y/\(∀v∈tl,v∈Y)/\(∀v∈(rm c).take j,v∈Y)/\(∀v∈Y,v∉tl->∃x,bF hl v=some x/\∀v'∈rm x,v'∈Y)/\∀a o,a≠ha->a≠ta->H a=some o->H' a=some o)
    ⟨tl,_,rfl,k0,λv h=>h,by simp,λv h h'=>absurd h h',λa o _ _ e=>e⟩ (λj σ H' a8=>by obtain⟨_,_,_,_,_,_,_,kp⟩:=a8;exact(.of (kp _ _ (aU aj k0.hh (by intro z;cases z)) (aU aj k0.ht (by intro z;cases z)) aj))) ?_ ?_
  . rintro j y σ H1 hj hy ⟨Y,v4,rfl,k1,F,B,aa,kp⟩
    rw[c_] at hj;obtain⟨v,aA,rfl⟩ : ∃v,(rm c)[j]? = some v/\V.int v=y:=by
      rw[ei] at hy;cases e:(rm c)[j]? with
      | none=>rw[e] at hy;cases hy
      | some nm=>rw[e] at hy;exact⟨nm,rfl,e8 hy⟩
    have am:v∈rm c:=f_ aA
    have ao:(rm c).take (j+1)=(rm c).take j++[v]:=by rw[i7,aA];rfl
    have a0:=k1.ru c hc v am;have aC:=k1.ht;ctx_has v aC
    rw[kZ];refine cO (λh=>?_) (λh=>?_)
    . have ad:v∉Y:=by simpa using h
      have ak:v∉tl:=λz=>ad (F v z)
      rw[zS ad];have k2:=k1.tryV ad a0;have ap:=k2.hh;have an : ∀a o,a≠ha->a≠ta->H a=some o->upd H1 ta (.dK ((Y++[v]).map jp)) a=some o:=λa o h1 h2 e=>by rw[ah h2];exact kp a o h1 h2 e
      generalize upd H1 ta (.dK ((Y++[v]).map jp))=H2 at k2 ap an ⊢;have ab : ∀u∈tl,u∈Y++[v]:=λu hu=>k4 _ (F u hu)
      refine⟨r_ (show(Y.map jp).length<=100 by rw[c_];exact k1.small.2) ∅,?_⟩
      ctx_has v ap
      rw[mV];cases hg:bF hl v with
      | none =>
        ctx_has v Option.map_none
        simp only[Option.isSome_none,Bool.not_false,if_true];refine⟨r_ (show(hl.map iu).length<=100 by rw[c_];exact k2.small.1) ∅,?_⟩
        rw[mQ v c k2.hk];refine k true (dM hl v c) (Y++[v]) _ (k2.hold hc am) ab (λa o h1 h2 e=>by rw[ah h1];exact an a o h1 h2 e) (λ_=>⟨λy=>?_,λu hu=>?_⟩) (λz=>by cases z)
        . have h1:=qu v c y k2.hk
          rw[hg,if_neg (by intro z;cases z)] at h1
          exact h1
        . rw[mT,if_neg (show ¬ u=v from λe=>ak (e ▸ hu))]
      | some x =>
        simp only[Jj,isSome_some,Bool.not_true,g_,if_false];rw[if_neg ∅]
        have aE:=gm hg;refine⟨_,rfl,r,ha,ta,CS,kvs,rm,U,hl,Y++[v],x,rfl,k2,(k2.hv _ aE).1,?_,λb2 a9 a7 H3 k3 Z aH ht hf=>⟨b2,rfl,?_⟩⟩
        . have h1:=BQ a0 ad
          have h2:=xW (U:=U) F;omega
        have aB : ∀a o,a≠ha->a≠ta->H a=some o->H3 a=some o:=λa o h1 h2 e=>aH a o h1 h2 (an a o h1 h2 e)
        cases b2 with
        | true =>
          rw[if_pos rfl];obtain⟨ax,aq⟩:=ht rfl;refine⟨_,k3.hh,r_ (show(a9.map iu).length<=100 by rw[c_];exact k3.small.1) ∅,?_⟩
          rw[mQ v c k3.hk];refine k true (dM a9 v c) a7 _ (k3.hold hc am) (λu hu=>Z u (ab u hu)) (λa o h1 h2 e=>by rw[ah h1];exact aB a o h1 h2 e) (λ_=>⟨λy=>?_,λu hu=>?_⟩) (λz=>by cases z)
          . have h1:=qu v c y k3.hk
            have h2:=ax y;rw[aq v (by simp),hg] at h1
            simp only[Option.some.injEq] at h1;omega
          . rw[mT,if_neg (show ¬ u=v from λe=>ak (e ▸ hu))]
            exact aq u (ab u hu)
        | false =>
          rw[if_neg ∅]
          obtain⟨rfl,aD,ar⟩:=hf rfl;refine⟨a7,k3,λu hu=>Z u (ab u hu),λu hu=>?_,λu hu aI=>?_,aB⟩
          . rw[ao] at hu
            rcases ja.mp hu with q | q
            . exact Z u (k4 _ (B u q))
            . rw[e_.mp q];exact Z v (by simp)
          . by_cases h1:u∈Y
            . obtain⟨x',h2,h3⟩:=aa u h1 aI
              exact⟨x',h2,λv' aG=>Z v' (k4 _ (h3 v' aG))⟩
            . by_cases h2:u=v
              . subst h2;exact⟨x,hg,aD⟩
              . exact ar u hu (by simp[h1,h2])
    . have ad:v∈Y:=by simpa using h
      refine⟨Y,k1,F,λu hu=>?_,aa,kp⟩
      rw[ao] at hu;rcases ja.mp hu with q | q
      . exact B u q
      . rw[e_.mp q];exact ad
  . rintro σ H1 ⟨Y,v4,rfl,k1,F,B,aa,kp⟩
    rw[c_,ki] at B;ctx_has v
    exact k false hl Y H1 k1 F kp (λz=>by cases z) (λ_=>⟨rfl,B,aa⟩)
theorem pG (T:Txt w K mg) (L:FnL K mg "finds_value" da ["cell","rooms","holders","tried"]):Fn P w K mg base "finds_value" (0+1) ["cell","rooms","holders","tried"] (kA 0):=by
 ctx_has z jR <;> obtain⟨r,ha,ta,CS,kvs,rm,U,hl,tl,c,rfl,k0,hc,hm,k⟩:=h
 .rfl
 refine⟨_,(af (bp (bK K (bx hu (pvM 1) (pvM 0))) (ay 4) (ai (bg (ql (iG hu (pvM 4) (pvM 3))) (af (gV hu (pvM 3) (pvM 4) dz rfl)
  (ai (bg (PW.pt (kJ (ql (iG hu (pvM 4) (pvM 2))) (jM (dw uM)))) (af (gV hu (pvM 2) (pvM 4) (pvM 0) rfl)
  (ai (az dz))) aM))) aM)))
  (ai (az dz))),?_⟩
 obtain⟨ra,aj,F⟩:=k0.rf c hc;have ad:=k0.rd;ctx_has v ad aj F
 refine bS aT (λj σ H'=>∃(B:List Int) (v4:Option V),σ=[some (.str c),-r,-ha,-ta,v4]/\dJ H' r ha ta CS kvs rm U hl B/\(∀v∈tl,v∈B)/\(∀v∈(rm c).take j,v∈B)/\(∀v∈B,v∉tl->∃x,bF hl v=some x/\∀v'∈rm x,v'∈B)/\∀a o,a≠ha->a≠ta->H a=some o->H' a=some o)
  ⟨tl,_,rfl,k0,λv h=>h,by simp,λv h h'=>absurd h h',λa o _ _ e=>e⟩ (λj σ H' ab=>by obtain⟨_,_,_,_,_,_,_,kp⟩:=ab;exact(.of (kp _ _ (aU F k0.hh (by intro z;cases z)) (aU F k0.ht (by intro z;cases z)) F))) ?_ ?_
 .rintro j y σ H1 hj hy ⟨B,v4,rfl,k1,hsub,hdone,hclo,kp⟩
  rw[c_] at hj;obtain⟨v,Y,rfl⟩ : ∃v,(rm c)[j]? = some v/\V.int v=y:=by
   rw[ei] at hy;cases e:(rm c)[j]? with
   | none=>rw[e] at hy;cases hy
   | some nm=>rw[e] at hy;exact⟨nm,rfl,e8 hy⟩
  have ak:v∈rm c:=f_ Y
  have ac:(rm c).take (j+1)=(rm c).take j++[v]:=by rw[i7,Y];rfl
  have ag:=k1.ru c hc v ak;have ah:=k1.ht;ctx_has v ah
  rw[kZ];refine cO (λh=>?_) (λh=>?_)
  .have hvn:v∉B:=by simpa using h
   have aa:v∉tl:=λz=>hvn (hsub v z)
   exfalso
   have Z:v∈U.filter (λx=>decide (x∉tl)):=y9.mpr ⟨ag,decide_eq_true aa⟩
   have:=Jp Z
   omega
  .have hvn:v∈B:=by simpa using h
   refine⟨B,k1,hsub,λu hu=>?_,hclo,kp⟩
   rw[ac] at hu;rcases ja.mp hu with q | q
   .exact hdone u q
   .rw[e_.mp q];exact hvn
 .rintro σ H1 ⟨B,v4,rfl,k1,hsub,hdone,hclo,kp⟩
  rw[c_,ki] at hdone;ctx_has v
  exact k false hl B H1 k1 hsub kp (λz=>by cases z) (λ_=>⟨rfl,hdone,hclo⟩)
theorem vE {P:Program} {w:World} {K:fx} {mg:Str->Option Value} {base:Heap} (T:Txt w K mg) (L:FnL K mg "finds_value" da ["cell","rooms","holders","tried"]) : ∀n,Fn P w K mg base "finds_value" (n+1) ["cell","rooms","holders","tried"] (kA n)
 | 0=>pG T L
 | n+1=>pz T L (vE T L n)
theorem pQ {v:Int} {x:Str} : ∀{hl:List (Int × Str)},(v,x)∈hl->1<=eP hl x
 | (w,z) :: r,h=>by
  simp only[eP];rcases i6.mp h with q | q
  .cases q;rw[if_pos rfl];omega
  .have:=pQ q;omega
theorem yo {v v':Int} {x:Str} (B:v≠v') : ∀{hl:List (Int × Str)},(v,x)∈hl->(v',x)∈hl->2<=eP hl x
 | (w, z) :: r,h,h'=>by
  simp only[eP];rcases i6.mp h with q | q
  .rcases i6.mp h' with q' | q'
   .cases q;cases q';exact absurd rfl B
   .cases q
    have:=pQ q'
    rw[if_pos rfl];omega
  .rcases i6.mp h' with q' | q'
   .cases q'
    have:=pQ q
    rw[if_pos rfl];omega
   .have:=yo B q q';omega
theorem zi {x:Str} : ∀{hl:List (Int × Str)},1<=eP hl x->∃v,(v,x)∈hl
 | [],h=>by simp[eP] at h
 | (w,z) :: r,h=>by
  by_cases e:z=x
  .subst e;exact⟨w,by simp⟩
  .simp only[eP,if_neg e] at h
   obtain⟨v,B⟩:=zi (x:=x) (hl:=r) ()
   exact⟨v,by simp[B]⟩
theorem zP {hl:List (Int × Str)} (tn:tl.Nodup) (h0:eP hl c=0) (h1 : ∀y,eP hl y<=1) (hc : ∀v∈rm c,v∈tl) (L : ∀v∈tl,∃x,bF hl v=some x/\∀v'∈rm x,v'∈tl)
  (inj : ∀x y,(x=c\/∃v,bF hl v=some x)->(y=c\/∃v,bF hl v=some y)->g x=g y->x=y) (Z:g c∈rm c) (ab : ∀v x,bF hl v=some x->g x∈rm x):False:=by
 have Y : ∀v∈tl,bF hl v=some ((bF hl v).getD c):=λv F=>by obtain⟨x,e,_⟩:=L v F;rw[e];rfl
 have aa:(c :: tl.map λv=>(bF hl v).getD c).Nodup:=by
  rw[mu];refine⟨λz=>?_,Gt.mpr (G4 (λ{a b} ha hb q e=>?_) tn)⟩
  .obtain⟨v,F,e⟩:=g7.mp z
   have h2:=pQ (gm (Y v F));rw[e] at h2;omega
  .have h2:=yo q (gm (Y a ha)) (by rw[e];exact gm (Y b hb))
   have:=h1 ((bF hl a).getD c)
   omega
 have B : ∀y∈(c :: tl.map λv=>(bF hl v).getD c),(y=c\/∃v,bF hl v=some y)/\g y∈tl:=λy hy=>by
  rcases i6.mp hy with q | q
  .subst q;exact⟨.inl rfl,hc _ Z⟩
  .obtain⟨v,F,rfl⟩:=g7.mp q
   obtain⟨x,e,hx⟩:=L v F;have e':=Y v F;refine⟨.inr ⟨v,e'⟩,?_⟩
   have:(bF hl v).getD c=x:=by rw[e];rfl
   rw[this];exact hx _ (ab v x e)
 have hg:((c :: tl.map λv=>(bF hl v).getD c).map g).Nodup:=Gt.mpr (G4 (λ{a b} ha hb q e=>q (inj a b (B a ha).1 (B b hb).1 e)) aa)
 have:=fc (ys:=tl) hg λv F=>by
  obtain⟨y,hy,rfl⟩:=g7.mp F;exact(B y hy).2
 simp at this
 omega
def AW (hl:List (Int × Str)) (y:Str):Int:=((hl.find? λx=>decide (x.2=y)).map (·.1)).getD 0
theorem og {hl:List (Int × Str)} {y:Str} (h:1<=eP hl y):(AW hl y,y)∈hl:=by
 obtain⟨v,F⟩:=zi h;unfold AW;cases e:hl.find? λx=>decide (x.2=y) with
 | none =>
  have:=List.find?_eq_none.mp e (v,y) F
  simp at this
 | some x =>
  have h1:=List.mem_of_find?_eq_some e;have h2:=List.find?_some e;have B:x.2=y:=by simpa using h2
  subst B;exact h1
theorem uF {rm:Str->List Int} : ∀{cs:List Str},(∀c∈cs,(rm c).length<=4)->(cs.flatMap rm).length<=4 * cs.length
 | [],_=>by simp
 | c :: cs,h=>by
  have h1:=h c (by simp)
  have h2:=uF (cs:=cs) λx B=>h x (by simp[B])
  rw[Kx,o9,u6];omega
theorem kR (T:Txt w K mg) (L:cJ K (aO K (ap mg "Unlike") "may_keep") "may_keep" "Unlike.may_keep" ff ["self","rooms"]) (Fe:Fn P w K mg base "finds_value" 21 ["cell","rooms","holders","tried"] (kA 20)):FnR P w K mg base (aO K (ap mg "Unlike") "may_keep") 22 ["self","rooms"] (eG mg):=by
 ctx_has z kX <;> obtain⟨p,r,dat,cs,kvs,rm,rfl,M,k⟩:=h
 .rfl
 refine⟨_,(af (aB 2 fF)
  (af (bp (bK K (aS T.cl_Unlike T.no_Unlike_cells (pvM 0))) (ay 3) (ai (bg (iP (dw (aw Fe (ac (pvM 3) (ac (pvM 1) (ac (pvM 2) (ac fF ag))))))) (ai (az dz)) aM)))
  (ai (az dz)))),?_⟩
 obtain⟨dx,fs,ce,h1,f1,aq,_,_⟩:=M.ob;have ah:=M.rd;have Z:dat.Nodup:=M.ok.nodup_iff.mpr M.nd
 have aI:dat.length=cs.length:=M.ok.length_eq
 have a7 : ∀c∈dat,c∈cs:=λc hc=>M.ok.mem_iff.mp hc
 have aA:(cs.flatMap rm).length<=20:=by
  have:=uF (rm:=rm) (cs:=cs) (λc hc=>(M.gd c hc).2.1)
  have:=M.cl
  omega
 have aJ:=M.cl;ctx_has v
 intro ha aa;have s1:au H (upd H ha (.dK [])):=au.upd0 aa
 refine⟨dx,fs,s1 _ _ h1,_,f1,ce,rfl,_,s1 _ _ aq,?_⟩
 refine bS aT (λi σ H'=>∃(hl:List (Int × Str)) (v3:Option V),σ=[-p,-r,-ha,v3]/\H' ha<*(hl.map iu)/\(hl.map (·.1)).Nodup/\(∀x∈hl,x.2∈cs/\x.1∈rm x.2)/\(∀y,eP hl y=if y∈dat.take i then 1 else 0)/\au H H')
  ⟨[],_,rfl,ae,by simp,by simp,by simp[eP],s1⟩ (λi σ H' ax=>by obtain⟨_,_,_,_,_,_,_,sm⟩:=ax;exact(.of (sm _ _ aq))) ?_ ?_
 .rintro i x σ H2 hi B ⟨hl,v3,rfl,h2,hkn,hkv,hcn,sm2⟩
  rw[c_] at hi;obtain⟨c,aj,rfl⟩ : ∃c,dat[i]? = some c/\V.str c=x:=by
   rw[ei] at B;cases e:dat[i]? with
   | none=>rw[e] at B;cases B
   | some nm=>rw[e] at B;exact⟨nm,rfl,e8 B⟩
  have ar:c∈dat:=f_ aj
  have an:=a7 c ar;have aC:dat.take (i+1)=dat.take i++[c]:=by rw[i7,aj];rfl
  have F:c∉dat.take i:=λhm=>by
   obtain⟨j,hj,e⟩:=uj hm;have aH:j < i:=by simp at hj;omega
   have e2:dat[j]? = some c:=by rw[<- e,List.getElem_take];simp
   have:=fK Z e2 aj
   omega
  ctx_has v
  intro ta Y;have s3:au H2 (upd H2 ta (.dK [])):=au.upd0 Y
  have aE:r≠ha:=ao ah aa
  have k0:dJ (upd H2 ta (.dK [])) r ha ta cs kvs rm (cs.flatMap rm) hl []:=⟨s3 _ _ (sm2 _ _ ah),(M.rf.same (λa vs e=>sm2 _ _ e)).same (λa vs e=>s3 _ _ e),s3 _ _ h2,ae,⟨aE,ao (sm2 _ _ ah) Y,ao h2 Y⟩,hkn,hkv,by simp,by simp,λx B v hv=>mem_flatMap.mpr ⟨x,B,hv⟩,(),λx B=>by have:=(M.gd x B).2.1;omega⟩
  refine⟨r,ha,ta,cs,kvs,rm,cs.flatMap rm,hl,[],c,rfl,k0,an,gt (Kk _ _) aA,λb ab aK H3 k3 _ kp ht hf=>?_⟩
  have a0:au H H3:=λa o e=>kp a o (ao e aa) (ao (sm2 _ _ e) Y) (s3 _ _ (sm2 _ _ e))
  ctx_has v
  cases b with
  | true =>
   rw[if_neg ∅]
   obtain⟨a9,_⟩:=ht rfl;refine⟨ab,k3.hh,k3.hk,k3.hv,λy=>?_,a0⟩
   rw[a9 y,hcn y,aC]
   by_cases e:c=y
   .subst e;simp[F]
   .simp[e,tj e]
  | false =>
   rw[if_pos rfl];obtain⟨rfl,aD,am⟩:=hf rfl;refine k false H3 ⟨λz=>(by cases z),?_⟩ a0
   rintro⟨g,hg,hk⟩
   exfalso
   have aG:(dat.map g).Nodup:=of_decide_eq_true hk
   have hold : ∀v x,bF ab v=some x->x∈dat/\x∈cs:=λv x e=>by
    have:=(hkv _ (gm e)).1
    exact⟨M.ok.mem_iff.mpr this,this⟩
   have inj : ∀x∈dat,∀y∈dat,g x=g y->x=y:=λx B y hy e=>nH λad=>(eR Z).mpr ⟨x,B,y,hy,ad,e⟩ aG
   have inD : ∀x,(x=c\/∃v,bF ab v=some x)->x∈dat:=λx h=>by
    rcases h with h | ⟨v,h⟩
    .rw[h];exact ar
    .exact(hold v x h).1
   refine zP (g:=g) k3.tn (by rw[hcn c,if_neg F]) (λy=>by rw[hcn y];split <;> omega) aD (λv hv=>am v hv (by simp)) (λx y B hy e=>inj x (inD x B) y (inD y hy) e) (hg c an) (λv x e=>hg x (hold v x e).2)
 .rintro σ H2 ⟨hl,v3,rfl,h2,hkn,hkv,hcn,sm2⟩
  rw[c_,ki] at hcn;ctx_has v
  refine k true H2 ⟨λ_=>⟨AW hl,λc hc=>?_,?_⟩,λ_=>rfl⟩ sm2
  .have hm:=og (hl:=hl) (y:=c) (by rw[hcn c,if_pos (M.ok.mem_iff.mpr hc)];exact hH _)
   exact(hkv _ hm).2
  .refine decide_eq_true (nH λaF=>?_)
   obtain⟨c,hc,c',a8,ad,e⟩:=(eR Z).mp aF;have hm:=og (hl:=hl) (y:=c) (by rw[hcn c,if_pos hc];exact hH _)
   have ak:=og (hl:=hl) (y:=c') (by rw[hcn c',if_pos a8];exact hH _)
   rw[<- e] at ak;have:=(mP hkn hm).symm.trans (mP hkn ak)
   exact ad (e8 this)
structure kh (mg:Str->Option Value) (H:Hp) (p:Addr) (am ce:V) (lo hi:Int):Prop where
 ex : ∃dx fs,H p=some (.ins (ap mg "Many") dx fs)/\fs.lookup (b_ "among")=some am/\fs.lookup (b_ "cells")=some ce/\fs.lookup (b_ "low")=some (.int lo)/\fs.lookup (b_ "high")=some (.int hi) /\
  fs.lookup (b_ "fewest")=none/\fs.lookup (b_ "most")=none/\fs.lookup (b_ "may_keep")=none/\fs.lookup (b_ "may_break")=none
theorem kh.same {F B:V} {hi:Int} (h:kh mg H p F B lo hi) (s:au H H'):kh mg H' p F B lo hi:=by
 obtain⟨dx,fs,h1,r⟩:=h.ex;exact⟨dx,fs,s _ _ h1,r⟩
def vO (mg:Str->Option Value):Sp:=λvs H Q _=>∃(p dx w:Addr) (F B:V) (lo hi:Int),vs=[.ref p,.ref w]/\H p=some (.ins (ap mg "Many") dx [])/\H w>>[.str "many",F,B,.int lo,.int hi]/\∀H',kh mg H' p F B lo hi->HW mg "Many" H' p w->gy p H H'->Q .non H'
def dW (av:List Int) (rm:Str->List Int) (cs:List Str):Nat:=(cs.filter λc=>(rm c).all λv=>decide (v∈av)).length
def cN (av:List Int) (rm:Str->List Int) (cs:List Str):Nat:=(cs.filter λc=>(rm c).any λv=>decide (v∈av)).length
structure iC (mg:Str->Option Value) (H:Hp) (p r:Addr) (av:List Int) (cs:List Str) (lo hi:Int) (kvs:List (Key × V)) (rm:Str->List Int):Prop where
 ob : ∃am ce,kh mg H p (.ref am) (.ref ce) lo hi/\H am>>(av.map V.int)/\H ce>>(cs.map V.str)
 rd:H r<*kvs
 rf:aX H kvs cs rm
 sm:av.length<=20/\cs.length<=20/\∀c∈cs,(rm c).length<=20
def wV (mg:Str->Option Value):Sp:=λvs H Q _=>∃(p r:Addr) (av:List Int) (cs:List Str) (lo hi:Int) (kvs:List (Key × V)) (rm:Str->List Int),vs=[.ref p,.ref r]/\iC mg H p r av cs lo hi kvs rm/\∀H',au H H'->Q (.int (dW av rm cs)) H'
def tW (mg:Str->Option Value):Sp:=λvs H Q _=>∃(p r:Addr) (av:List Int) (cs:List Str) (lo hi:Int) (kvs:List (Key × V)) (rm:Str->List Int),vs=[.ref p,.ref r]/\iC mg H p r av cs lo hi kvs rm/\∀H',au H H'->Q (.int (cN av rm cs)) H'
def iq (lo hi:Int) (a b:Nat):Bool:=decide (lo<=hi) && decide (lo<=b) && decide ((a:Int)<=hi) && decide (a<=b)
def gH (lo hi:Int) (a b:Nat):Bool:=decide ((a:Int) < lo) || decide (hi < (b:Int))
def eE (mg:Str->Option Value):Sp:=λvs H Q _=>∃(p r:Addr) (av:List Int) (cs:List Str) (lo hi:Int) (kvs:List (Key × V)) (rm:Str->List Int),vs=[.ref p,.ref r]/\iC mg H p r av cs lo hi kvs rm/\∀H',au H H'->Q (.bl (iq lo hi (dW av rm cs) (cN av rm cs))) H'
def gU (mg:Str->Option Value):Sp:=λvs H Q _=>∃(p r:Addr) (av:List Int) (cs:List Str) (lo hi:Int) (kvs:List (Key × V)) (rm:Str->List Int),vs=[.ref p,.ref r]/\iC mg H p r av cs lo hi kvs rm/\∀H',au H H'->Q (.bl (gH lo hi (dW av rm cs) (cN av rm cs))) H'
theorem iC.same {mg:Str->Option Value} {H H':Hp} {p r:Addr} {av:List Int} {cs:List Str} {lo hi:Int} {kvs:List (Key × V)} {rm:Str->List Int} (h:iC mg H p r av cs lo hi kvs rm) (s:au H H'):iC mg H' p r av cs lo hi kvs rm:=by
 obtain⟨Y,B,h1,h2,F⟩:=h.ob;refine⟨⟨Y,B,h1.same s,s _ _ h2,s _ _ F⟩,s _ _ h.rd,λc L=>?_,h.sm⟩
 obtain⟨a,e1,e2⟩:=h.rf c L;exact⟨a,e1,s _ _ e2⟩
def jq (av:List Int) (cs:List Str) (g:Str->Int):Nat:=(cs.filter λc=>decide (g c∈av)).length
def tm (lo hi:Int) (av:List Int) (cs:List Str) (g:Str->Int):Bool:=decide (lo<=(jq av cs g:Int)) && decide ((jq av cs g:Int)<=hi)
theorem jz {av:List Int} {rm:Str->List Int} {g:Str->Int} : ∀{cs:List Str},okF rm cs g->dW av rm cs<=jq av cs g/\jq av cs g<=cN av rm cs
 | [],_=>⟨hH _,hH _⟩
 | c :: cs,h=>by
  have Y:=jz (av:=av) (cs:=cs) λx L=>h x (by simp[L])
  have F:=h c (by simp)
  unfold dW jq cN at *;rw[sn,sn,sn]
  by_cases B:g c∈av
  .have h3:(rm c).any (λv=>decide (v∈av))=true:=w_.mpr ⟨g c,F,by simp[B]⟩
   rw[if_pos h3,if_pos (decide_eq_true B)]
   split <;> (try simp only[u6]) <;> omega
  .have h3 : ¬ ((rm c).all (λv=>decide (v∈av))=true):=λz=>B (by simpa using z_.mp z (g c) F)
   rw[if_neg h3,if_neg (by simpa using B)]
   split <;> (try simp only[u6]) <;> omega
theorem CH : ∀{cs:List Str},c∉cs->jq av cs (bY g c v)=jq av cs g:=λ{cs} h=>by
 unfold jq
 congr 1
 refine List.filter_congr λx B=>?_
 rw[bZ];rintro rfl
 exact h B
theorem jo {av:List Int} {rm:Str->List Int} : ∀{cs:List Str},(∀c∈cs,1<=(rm c).length)->dW av rm cs<=cN av rm cs
 | [],_=>hH _
 | c :: cs,h=>by
  have F:=jo (av:=av) (rm:=rm) (cs:=cs) λx L=>h x (by simp[L])
  have B:=h c (by simp)
  unfold dW cN at *;rw[sn,sn]
  by_cases h1:(rm c).all (λv=>decide (v∈av))=true
  .have h3:(rm c).any (λv=>decide (v∈av))=true:=by
    cases e:rm c with
    | nil=>rw[e] at B;simp at B
    | cons a b=>rw[e] at h1;simp at h1 ⊢;exact .inl h1.1
   rw[if_pos h1,if_pos h3];simp;exact F
  .rw[if_neg h1]
   split <;> (try simp only[u6]) <;> omega
theorem lD {av:List Int} {rm:Str->List Int} : ∀{cs:List Str} {n:Nat},(∀c∈cs,1<=(rm c).length)->cs.Nodup->dW av rm cs<=n->n<=cN av rm cs->∃g,okF rm cs g/\jq av cs g=n
 | [],n,_,_,h1,h2=>⟨λ_=>0,λc hc=>by simp at hc,by simp[dW,cN,jq] at *;omega⟩
 | c :: cs,n,hne,hnd,h1,h2=>by
  have ah:c∉cs:=(mu.mp hnd).1
  have ac:=(mu.mp hnd).2;have Z : ∀x∈cs,1<=(rm x).length:=λx hx=>hne x (by simp[hx])
  have hc:=hne c (by simp)
  have am:=jo (av:=av) Z;have ab : ∀(v:Int) (m:Nat),v∈rm c->dW av rm cs<=m->m<=cN av rm cs->n=m+(if v∈av then 1 else 0)->∃g,okF rm (c :: cs) g/\jq av (c :: cs) g=n:=λv m hv ak F e=>by
   obtain⟨g,hg,L⟩:=lD (av:=av) Z ac ak F;refine⟨bY g c v,λx hx=>?_,?_⟩
   .by_cases ex:x=c
    .subst ex;rw[be];exact hv
    .rw[bZ _ _ ex]
     rcases i6.mp hx with z | z
     .exact absurd z ex
     .exact hg x z
   .have e2:=CH (av:=av) (v:=v) (g:=g) ah
    unfold jq at e2 L ⊢;rw[sn,be]
    by_cases Y:v∈av
    .rw[if_pos Y] at e
     rw[if_pos (decide_eq_true Y),u6,e2,L];omega
    .rw[if_neg Y] at e
     rw[if_neg (by simpa using Y),e2,L];omega
  obtain⟨v0,aa⟩ : ∃v,v∈rm c:=by
   cases e:rm c with
   | nil=>rw[e] at hc;simp at hc
   | cons a b=>exact⟨a,by simp⟩
  have f1:dW av rm (c :: cs)=dW av rm cs+(if (rm c).all (λv=>decide (v∈av))=true then 1 else 0):=by
   unfold dW;rw[sn];split <;> simp
  have f2:cN av rm (c :: cs)=cN av rm cs+(if (rm c).any (λv=>decide (v∈av))=true then 1 else 0):=by
   unfold cN;rw[sn];split <;> simp
  rw[f1] at h1;rw[f2] at h2
  by_cases ha:(rm c).all (λv=>decide (v∈av))=true
  .rw[if_pos ha] at h1
   have hm:v0∈av:=by simpa using z_.mp ha v0 aa
   have B:(rm c).any (λv=>decide (v∈av))=true:=w_.mpr ⟨v0,aa,by simp[hm]⟩
   rw[if_pos B] at h2;exact ab v0 (n - 1) aa () () (by rw[if_pos hm];omega)
  .rw[if_neg ha] at h1
   obtain⟨v1,ad,ai⟩ : ∃v∈rm c,v∉av:=nH λaf=>ha (z_.mpr λv hv=>decide_eq_true (nH λz=>af ⟨v,hv,z⟩))
   by_cases ag:n<=cN av rm cs
   .exact ab v1 n ad () ag (by rw[if_neg ai];omega)
   .by_cases B:(rm c).any (λv=>decide (v∈av))=true
    .rw[if_pos B] at h2
     obtain⟨v2,aj,F⟩:=w_.mp B;have F:v2∈av:=by simpa using F
     exact ab v2 (n - 1) aj () () (by rw[if_pos F];omega)
    .rw[if_neg B] at h2;omega
theorem zF {hi:Int} (L : ∀c∈cs,1<=(rm c).length) (B:cs.Nodup):(∃g,okF rm cs g/\tm lo hi av cs g=true)↔iq lo hi (dW av rm cs) (cN av rm cs)=true:=by
 unfold tm iq;simp only[k_,decide_eq_true_eq]
 constructor
 .rintro⟨g,F,h1,h2⟩
  have:=jz (av:=av) F
  omega
 .rintro⟨⟨⟨h1,h2⟩,h3⟩,h4⟩
  obtain⟨g,F,e⟩:=lD (av:=av) (n:=if lo<=(dW av rm cs:Int) then dW av rm cs else lo.toNat) L B (by split <;> omega) (by split <;> omega)
  refine⟨g,F,?_⟩
  rw[e]
  split <;> omega
theorem xn {hi:Int} (B : ∀c∈cs,1<=(rm c).length) (F:cs.Nodup):(∃g,okF rm cs g/\tm lo hi av cs g=false)↔gH lo hi (dW av rm cs) (cN av rm cs)=true:=by
 unfold tm gH;simp only[Ke,decide_eq_false_iff_not,Bool.or_eq_true,decide_eq_true_eq];have L:=jo (av:=av) B
 constructor
 .rintro⟨g,hg,h⟩
  have:=jz (av:=av) hg
  omega
 .rintro(h | h)
  .obtain⟨g,hg,e⟩:=lD (av:=av) (n:=dW av rm cs) B F (hH _) L
   exact⟨g,hg,by rw[e];omega⟩
  .obtain⟨g,hg,e⟩:=lD (av:=av) (n:=cN av rm cs) B F L (hH _)
   exact⟨g,hg,by rw[e];omega⟩
theorem mv (T:Txt w K mg) (L:cJ K (gp K (ap mg "Wish") "__init__") "__init__" "Wish.__init__" bD ["self","wish"]):FnR P w K mg base (gp K (ap mg "Wish") "__init__") 1 ["self","wish"] (dq mg "Many"):=by
 ctx_has z bU <;> obtain⟨p,dx,fs,w,rfl,hp,B,k⟩:=h
 .rfl
 refine⟨_,(ai (bE T.cl_Many T.no_Many_wish (pvM 0) (pvM 1) rfl)),?_⟩
 ctx_has v hp
 exact⟨B,k⟩
theorem ou (T:Txt w K mg) (L:cJ K (Mk K (ap mg "Many")) "__init__" "Many.__init__" fM ["self","wish"]) (B:FnR P w K mg base (gp K (ap mg "Wish") "__init__") 1 ["self","wish"] (dq mg "Many")):FnR P w K mg base (Mk K (ap mg "Many")) 2 ["self","wish"] (vO mg):=by
 ctx_has z mR <;> obtain⟨p,dx,w,am,Z,lo,hi,rfl,hp,Y,k⟩:=h
 .rfl
 refine⟨_,(af (bW (jm B (hr.mono (by ctx_has m)) rfl T.at_Wish (ac (pvM 0) (ac (pvM 1) ag))))
  (af (bE T.cl_Many T.no_Many_among (pvM 0) (aC aZ (pvM 1) aj) rfl)
  (af (bE T.cl_Many T.no_Many_cells (pvM 0) (aC aZ (pvM 1) aj) rfl)
  (af (bE T.cl_Many T.no_Many_low (pvM 0) (aC aZ (pvM 1) aj) rfl)
  (ai (bE T.cl_Many T.no_Many_high (pvM 0) (aC aZ (pvM 1) aj) rfl)))))),?_⟩
 ctx_has v Y
 have F:w≠p:=aU Y hp (by intro z;cases z)
 refine⟨p,dx,[],.ref w,rfl,hp,∅,?_⟩
 ctx_has v ae
 refine⟨_,by rw[ah F];exact Y,?_⟩
 ctx_has v
 refine⟨dB (Aw _ "" "" "" _ .non .non .non),_,by rw[ah F,ah F];exact Y,?_⟩
 ctx_has v
 refine⟨dB (zE _ _ "" "" _ _ .non .non),_,by rw[ah F,ah F,ah F];exact Y,?_⟩
 ctx_has v
 refine⟨dB (DJ _ _ _ "" _ _ _ .non),_,by rw[ah F,ah F,ah F,ah F];exact Y,?_⟩
 ctx_has v
 refine⟨dB (IN _ _ _ _ _ _ _ _),k _ ⟨dx,_,ae,?_⟩ ⟨dx,_,ae,?_⟩ ?_⟩
 .simp only[bz,dY,String.reduceEq,if_true,if_false,true_and,I0,and_self]
 .simp only[bz,dY,String.reduceEq,if_true,if_false,true_and,I0,and_self]
 .intro b o hb e
  rw[ah hb,ah hb,ah hb,ah hb,ah hb];exact e
theorem pZ (T:Txt w K mg) (L:cJ K (aO K (ap mg "Many") "fewest") "fewest" "Many.fewest" cY ["self","rooms"]):FnR P w K mg base (aO K (ap mg "Many") "fewest") 1 ["self","rooms"] (wV mg):=by
 ctx_has z qb <;> obtain⟨p,r,av,cs,lo,hi,kvs,rm,rfl,M,k⟩:=h
 .rfl
 refine⟨_,(ai (az (aF bO T.b_len (ac (ba (N:=["cell","self","rooms"]) (nt:=1) (js:=[0,1]) (aH ["self","rooms"] (ak cY).names) (bK K (aS T.cl_Many T.no_Many_cells (pvM 0))) (ay 0) aQ (dn (dw (aF (no rfl) T.b_all (ac (ba (N:=["value","self"]) (nt:=1) (js:=[1]) (aH ["cell","self","rooms"] (Ib (ak cY).kind (ak cY).names _)) (bK K (bx hu (pvM 2) (pvM 0))) (ay 0) aQ bR (bw iW (pvM 0) (aS T.cl_Many T.no_Many_among (pvM 1)))) ag)))) (pvM 0)) ag)))),?_⟩
 obtain⟨am,ce,⟨dx,fs,h1,f1,f2,f3,f4,f5,f6,f7,f8⟩,ha,hc⟩:=M.ob;have aa:=M.rd;obtain⟨z1,z2,z3⟩:=M.sm;ctx_has v h1 f2 hc
 intro q hq;refine cT aT (λv=>match v with | .str c=>(rm c).all (λx=>decide (x∈av)) | _=>false) id hq (λH' s=>.of (s _ _ hc)) (by simp;omega) ?_ ?_ ?_
 .intro x H2 Q2 hx sm q2
  obtain⟨c,F,rfl⟩:=g7.mp hx;obtain⟨a,hv,ad⟩:=M.rf c F;have ab:=sm _ _ aa;have B:=sm _ _ ad;ctx_has v ab hv B
  intro g hg;refine cL aT (λv=>match v with | .int i=>.bl (decide (i∈av)) | _=>.non) hg (λH' s=>.of (s _ _ B)) (by simp;have:=z3 c F;omega) ?_ ?_
  .intro y H3 Q3 hy s3 q3
   obtain⟨i,_,rfl⟩:=g7.mp hy;have Z:=s3 _ _ (sm _ _ h1);have Y:=s3 _ _ (sm _ _ ha);ctx_has v Z f1 Y
   refine⟨rfl,cu _,?_⟩
   rw[dR];exact q3 H3 (au.refl _)
  .intro H3 s3 h3
   ctx_has v
   refine⟨(rm c).map (λi=>decide (i∈av)),by rw[h3,l_,l_];rfl,?_⟩
   have:=q2 H3 s3
   rw[List.all_map];exact this
 .intro x H2 Q2 hx _ sm q2
  ctx_has v
  exact q2 H2 (au.refl _)
 .intro H2 sm h2
  ctx_has v h2
  have:=k H2 sm
  rw[c_,Kj,c_];exact this
theorem tJ (T:Txt w K mg) (L:cJ K (aO K (ap mg "Many") "most") "most" "Many.most" eN ["self","rooms"]):FnR P w K mg base (aO K (ap mg "Many") "most") 1 ["self","rooms"] (tW mg):=by
 ctx_has z uA <;> obtain⟨p,r,av,cs,lo,hi,kvs,rm,rfl,M,k⟩:=h
 .rfl
 refine⟨_,(ai (az (aF bO T.b_len (ac (ba (N:=["cell","self","rooms"]) (nt:=1) (js:=[0,1]) (aH ["self","rooms"] (ak eN).names) (bK K (aS T.cl_Many T.no_Many_cells (pvM 0))) (ay 0) aQ (dn (dw (aF (gl rfl) T.b_any (ac (ba (N:=["value","self"]) (nt:=1) (js:=[1]) (aH ["cell","self","rooms"] (Ib (ak eN).kind (ak eN).names _)) (bK K (bx hu (pvM 2) (pvM 0))) (ay 0) aQ bR (bw iW (pvM 0) (aS T.cl_Many T.no_Many_among (pvM 1)))) ag)))) (pvM 0)) ag)))),?_⟩
 obtain⟨am,ce,⟨dx,fs,h1,f1,f2,f3,f4,f5,f6,f7,f8⟩,ha,hc⟩:=M.ob;have aa:=M.rd;obtain⟨z1,z2,z3⟩:=M.sm;ctx_has v h1 f2 hc
 intro q hq;refine cT aT (λv=>match v with | .str c=>(rm c).any (λx=>decide (x∈av)) | _=>false) id hq (λH' s=>.of (s _ _ hc)) (by simp;omega) ?_ ?_ ?_
 .intro x H2 Q2 hx sm q2
  obtain⟨c,F,rfl⟩:=g7.mp hx;obtain⟨a,hv,ad⟩:=M.rf c F;have ab:=sm _ _ aa;have B:=sm _ _ ad;ctx_has v ab hv B
  intro g hg;refine cL aT (λv=>match v with | .int i=>.bl (decide (i∈av)) | _=>.non) hg (λH' s=>.of (s _ _ B)) (by simp;have:=z3 c F;omega) ?_ ?_
  .intro y H3 Q3 hy s3 q3
   obtain⟨i,_,rfl⟩:=g7.mp hy;have Z:=s3 _ _ (sm _ _ h1);have Y:=s3 _ _ (sm _ _ ha);ctx_has v Z f1 Y
   refine⟨rfl,cu _,?_⟩
   rw[dR];exact q3 H3 (au.refl _)
  .intro H3 s3 h3
   ctx_has v
   refine⟨(rm c).map (λi=>decide (i∈av)),by rw[h3,l_,l_];rfl,?_⟩
   have:=q2 H3 s3
   rw[any_map];exact this
 .intro x H2 Q2 hx _ sm q2
  ctx_has v
  exact q2 H2 (au.refl _)
 .intro H2 sm h2
  ctx_has v h2
  have:=k H2 sm
  rw[c_,Kj,c_];exact this
theorem nw (T:Txt w K mg) (L:cJ K (aO K (ap mg "Many") "may_keep") "may_keep" "Many.may_keep" fU ["self","rooms"]) (B:FnR P w K mg base (aO K (ap mg "Many") "fewest") 1 ["self","rooms"] (wV mg)) (F:FnR P w K mg base (aO K (ap mg "Many") "most") 1 ["self","rooms"] (tW mg)):FnR P w K mg base (aO K (ap mg "Many") "may_keep") 22 ["self","rooms"] (eE mg):=by
 ctx_has z nL <;> obtain⟨p,r,av,cs,lo,hi,kvs,rm,rfl,M,k⟩:=h
 .rfl
 refine⟨_,(ai (az (bw kL (aF (sP rfl) T.b_max (ac (aS T.cl_Many T.no_Many_low (pvM 0)) (ac (cy T.cl_Many B (hr.mono (by ctx_has m)) (pvM 0) (ac (pvM 1) ag)) ag))) (aF (sf rfl) T.b_min (ac (aS T.cl_Many T.no_Many_high (pvM 0)) (ac (cy T.cl_Many F (hr.mono (by ctx_has m)) (pvM 0) (ac (pvM 1) ag)) ag)))))),?_⟩
 obtain⟨am,ce,⟨dx,fs,h1,f1,f2,f3,f4,f5,f6,f7,f8⟩,ha,hc⟩:=M.ob;ctx_has v h1 f3 f4 f5 f6
 refine⟨p,r,av,cs,lo,hi,kvs,rm,rfl,M,λH1 Z=>?_⟩
 have Y:=Z _ _ h1;ctx_has v Y f4 f6
 refine⟨p,r,av,cs,lo,hi,kvs,rm,rfl,M.same Z,λH2 s2=>?_⟩
 ctx_has v
 have:=k H2 (Z.trans s2)
 have e:iq lo hi (dW av rm cs) (cN av rm cs)=decide ((if (dW av rm cs:Int) > lo then(dW av rm cs:Int) else lo)<=if (cN av rm cs:Int) < hi then(cN av rm cs:Int) else hi):=by
  unfold iq;rw[ow];simp only[k_,decide_eq_true_eq]
  split <;> split <;> omega
 rw[e] at this;exact this
theorem mj (T:Txt w K mg) (L:cJ K (aO K (ap mg "Many") "may_break") "may_break" "Many.may_break" ft ["self","rooms"]) (B:FnR P w K mg base (aO K (ap mg "Many") "fewest") 1 ["self","rooms"] (wV mg)) (F:FnR P w K mg base (aO K (ap mg "Many") "most") 1 ["self","rooms"] (tW mg)):FnR P w K mg base (aO K (ap mg "Many") "may_break") 22 ["self","rooms"] (gU mg):=by
 ctx_has z lQ <;> obtain⟨p,r,av,cs,lo,hi,kvs,rm,rfl,M,k⟩:=h
 .rfl
 refine⟨_,(ai (az (mm (bw By (cy T.cl_Many B (hr.mono (by ctx_has m)) (pvM 0) (ac (pvM 1) ag)) (aS T.cl_Many T.no_Many_low (pvM 0))) (eZ (bw By (aS T.cl_Many T.no_Many_high (pvM 0)) (cy T.cl_Many F (hr.mono (by ctx_has m)) (pvM 0) (ac (pvM 1) ag))))))),?_⟩
 obtain⟨am,ce,⟨dx,fs,h1,f1,f2,f3,f4,f5,f6,f7,f8⟩,ha,hc⟩:=M.ob;ctx_has v h1 f3 f4 f5 f6
 refine⟨p,r,av,cs,lo,hi,kvs,rm,rfl,M,λH1 Y=>?_⟩
 have Z:=Y _ _ h1;ctx_has v Z f3 f4 f6
 refine cO (λh=>?_) (λh=>?_)
 .have:=k H1 Y
  unfold gH at this;rw[decide_eq_true h,Bool.true_or] at this;exact this
 .refine⟨p,r,av,cs,lo,hi,kvs,rm,rfl,M.same Y,λH2 s2=>⟨_,rfl,?_⟩⟩
  have:=k H2 (Y.trans s2)
  unfold gH at this;rw[decide_eq_false h,Bool.false_or] at this;exact this
def mN (mg:Str->Option Value) (H:Hp) (p:Addr):Wi->Prop
 | .un cs=>OBU mg H p cs cs
 | .mn av cs lo hi=>∃F B,kh mg H p (.ref F) (.ref B) lo hi/\H F>>(av.map V.int)/\H B>>(cs.map V.str)
 | .sm ts lo hi=>OBS mg H p (ts,lo,hi) (ts.map (·.2))
 | .tb cs rows=>OBT mg H p (cs,rows)
 | .wy cs ps es=>OBW mg H p (cs,ps,es)
 | .bh cs gap=>OBB mg H p (cs,gap)
theorem mN.obj {W:Wi} (h:mN mg H p W) (B : ∀a xs,H a>>xs->H' a>>xs) (kd : ∀a ks,H a=some (.dT ks)->H' a=some (.dT ks)) (L : ∀C dx fs,H p=some (.ins C dx fs)->H' p=some (.ins C dx fs)):mN mg H' p W:=by
 cases W with
 | un cs =>
  obtain⟨dx,fs,Y,h1,h2,F,r⟩:=h;exact⟨dx,fs,Y,L _ _ _ h1,h2,B _ _ F,r⟩
 | mn av cs lo hi =>
  obtain⟨am,Y,⟨dx,fs,h1,r⟩,h2,F⟩:=h;exact⟨am,Y,⟨dx,fs,L _ _ _ h1,r⟩,B _ _ h2,B _ _ F⟩
 | sm ts lo hi =>
  obtain⟨dx,fs,te,h1,h2,r⟩:=h;exact⟨dx,fs,te,L _ _ _ h1,h2.keep B,r⟩
 | tb cs rows =>
  obtain⟨dx,fs,w,c,t,vs,h1,h2,F,Z,h5,r⟩:=h;exact⟨dx,fs,w,c,t,vs,L _ _ _ h1,cE (W:=.tb cs rows) h2 B,B _ _ F,B _ _ Z,h5.keep B,r⟩
 | wy cs ps es =>
  obtain⟨dx,fs,w,c,e,l,h1,h2,F,Z,h5,r⟩:=h;exact⟨dx,fs,w,c,e,l,L _ _ _ h1,cE (W:=.wy cs ps es) h2 B,B _ _ F,B _ _ Z,kd _ _ h5,r⟩
 | bh cs gap =>
  obtain⟨dx,fs,w,c,h1,h2,F,r⟩:=h;exact⟨dx,fs,w,c,L _ _ _ h1,cE (W:=.bh cs gap) h2 B,B _ _ F,r⟩
theorem mN.keep {W:Wi} (h:mN mg H p W) (k:fi H H'):mN mg H' p W:=h.obj k.tup k.dt λ_ _ _ e=>k.ins _ _ _ _ e
def CsK (mg:Str->Option Value):List (Addr × Sp):=[(ap mg "Unlike",eG mg),(ap mg "Many",eE mg),(ap mg "Sum",eC mg),(ap mg "Table",eF mg),(ap mg "Way",eD mg),(ap mg "Behind",eB mg)]
def CsB (mg:Str->Option Value):List (Addr × Sp):=[(ap mg "Unlike",gX mg),(ap mg "Many",gU mg),(ap mg "Sum",gY mg),(ap mg "Table",gP mg),(ap mg "Way",gR mg),(ap mg "Behind",gZ mg)]
theorem HH {P:Addr->Sp->Prop} {B b2 F Y Z L:Sp} (h1:P a1 B) (h2:P a2 b2) (h3:P a3 F) (h4:P a4 Y) (h5:P a5 Z) (h6:P a6 L) : ∀C sp,(C,sp)∈[(a1,B),(a2,b2),(a3,F),(a4,Y),(a5,Z),(a6,L)]->P C sp:=λC sp h=>by
 simp only[i6,Prod.mk.injEq,m4,or_false] at h;rcases h with⟨rfl,rfl⟩ | ⟨rfl,rfl⟩ | ⟨rfl,rfl⟩ | ⟨rfl,rfl⟩ | ⟨rfl,rfl⟩ | ⟨rfl,rfl⟩
 .exact h1
 .exact h2
 .exact h3
 .exact h4
 .exact h5
 .exact h6
structure BI (mg:Str->Option Value) (H:Hp) (i r:Addr) (W:Wi) (kvs:List (Key × V)) (rm:Str->List Int):Prop where
 ob:mN mg H i W
 rd:H r<*kvs
 rf:aX H kvs (bv W) rm
 ok : ∃ws ns,okW ws ns W
 cl:(bv W).length<=5
 ne : ∀c∈bv W,rm c≠[]/\(rm c).length<=4/\(rm c).Pairwise (· < ·)
theorem mS (ne : ∀c∈cs,rm c≠[]/\(rm c).length<=4/\(rm c).Pairwise (· < ·)) : ∀c∈cs,1<=(rm c).length/\(rm c).length<=4/\(rm c).Nodup:=λc B=>⟨J5.mpr (ne c B).1,(ne c B).2.1,(ne c B).2.2.imp λh=>by omega⟩
theorem nQ (ne : ∀c∈cs,rm c≠[]/\(rm c).length<=4/\(rm c).Pairwise (· < ·)) : ∀c∈cs,rm c≠[]/\(rm c).length<=10/\(rm c).Pairwise (· < ·):=λc B=>⟨(ne c B).1,gt (ne c B).2.1 ∅,(ne c B).2.2⟩
theorem vJ {i:Addr} {W:Wi} {Q:VK} (M:BI mg H i r W kvs rm) (k : ∀(b:Bool) H',(b=true↔∃g,okF rm (bv W) g/\cC W g=true)->au H H'->Q (.bl b) H') :
  ∃C sp,(C,sp)∈CsK mg/\∃dx fs,H i=some (.ins C dx fs)/\fs.lookup (b_ "may_keep")=none/\sp [.ref i,.ref r] H Q E0:=by
 obtain⟨ob,F,rf,⟨ws,ns,ok⟩,cl,ne⟩:=M;cases W with
 | un cs =>
  obtain⟨dx,fs,h1,h2,B⟩:=yQ (cs:=cs) ob;exact⟨_,eG mg,by simp[CsK],dx,fs,h1,h2,i,r,cs,cs,kvs,rm,rfl,⟨ob,F,rf,.refl _,ok.2.1,cl,mS ne⟩,k⟩
 | mn av cs lo hi =>
  obtain⟨am,Z,m,h2,B⟩:=id ob;obtain⟨dx,fs,h1,_,_,_,_,_,_,q1,q2⟩:=m.ex;exact⟨_,eE mg,by simp[CsK],dx,fs,h1,q1,i,r,av,cs,lo,hi,kvs,rm,rfl,⟨⟨am,Z,m,h2,B⟩,F,rf,ok.2.2.2,gt cl ∅,λc L=>gt (ne c L).2.1 ∅⟩,λH' s=>k _ H' (zF (λc L=>(mS ne c L).1) ok.1.2.1).symm s⟩
 | sm ts lo hi =>
  obtain⟨dx,fs,h1,h2,B⟩:=yE (cs:=ts.map (λx:Int × Str=>x.2)) ob
  exact⟨_,eC mg,by simp[CsK],dx,fs,h1,h2,i,r,(ts,lo,hi),ts.map (λx:Int × Str=>x.2),kvs,rm,rfl,⟨ob,F,rf,⟨rfl,ok.1.1,λx Y=>⟨(ok.2 x Y).1,(ok.2 x Y).2.1⟩⟩,ok.1.2.1,cl,mS ne⟩,k⟩
 | tb cs rows =>
  obtain⟨dx,fs,h1,_,h2,B⟩:=yW ob;exact⟨_,eF mg,by simp[CsK],dx,fs,h1,h2,i,r,(cs,rows),kvs,rm,rfl,⟨ob,F,rf,⟨ok.1.1,ok.1.2.1,ok.1.2.2.2,ok.2.1,ok.2.2.1,gt ok.2.2.2 ∅⟩,nQ ne⟩,k⟩
 | wy cs ps es =>
  obtain⟨dx,fs,h1,_,h2,B⟩:=yt ob;exact⟨_,eD mg,by simp[CsK],dx,fs,h1,h2,i,r,(cs,ps,es),kvs,rm,rfl,⟨ob,F,rf,⟨ok.1.1,ok.1.2.1,ok.1.2.2.2,ok.2.1,ok.2.2.1,ok.2.2.2⟩,nQ ne⟩,k⟩
 | bh cs gap =>
  obtain⟨dx,fs,h1,_,h2,B⟩:=yH ob;exact⟨_,eB mg,by simp[CsK],dx,fs,h1,h2,i,r,(cs,gap),kvs,rm,rfl,⟨ob,F,rf,⟨ok.1,ok.2.1,ok.2.2.2⟩,nQ ne⟩,k⟩
theorem sk {i:Addr} {W:Wi} {Q:VK} (M:BI mg H i r W kvs rm) (k : ∀(b:Bool) H',(b=true↔∃g,okF rm (bv W) g/\cC W g=false)->au H H'->Q (.bl b) H') :
  ∃C sp,(C,sp)∈CsB mg/\∃dx fs,H i=some (.ins C dx fs)/\fs.lookup (b_ "may_break")=none/\sp [.ref i,.ref r] H Q E0:=by
 obtain⟨ob,F,rf,⟨ws,ns,ok⟩,cl,ne⟩:=M;cases W with
 | un cs =>
  obtain⟨dx,fs,h1,h2,B⟩:=yQ (cs:=cs) ob;exact⟨_,gX mg,by simp[CsB],dx,fs,h1,B,i,r,cs,cs,kvs,rm,rfl,⟨ob,F,rf,.refl _,ok.2.1,cl,mS ne⟩,k⟩
 | mn av cs lo hi =>
  obtain⟨am,Z,m,h2,B⟩:=id ob;obtain⟨dx,fs,h1,_,_,_,_,_,_,q1,q2⟩:=m.ex;exact⟨_,gU mg,by simp[CsB],dx,fs,h1,q2,i,r,av,cs,lo,hi,kvs,rm,rfl,⟨⟨am,Z,m,h2,B⟩,F,rf,ok.2.2.2,gt cl ∅,λc L=>gt (ne c L).2.1 ∅⟩,λH' s=>k _ H' (xn (λc L=>(mS ne c L).1) ok.1.2.1).symm s⟩
 | sm ts lo hi =>
  obtain⟨dx,fs,h1,h2,B⟩:=yE (cs:=ts.map (λx:Int × Str=>x.2)) ob
  exact⟨_,gY mg,by simp[CsB],dx,fs,h1,B,i,r,(ts,lo,hi),ts.map (λx:Int × Str=>x.2),kvs,rm,rfl,⟨ob,F,rf,⟨rfl,ok.1.1,λx Y=>⟨(ok.2 x Y).1,(ok.2 x Y).2.1⟩⟩,ok.1.2.1,cl,mS ne⟩,k⟩
 | tb cs rows =>
  obtain⟨dx,fs,h1,_,h2,B⟩:=yW ob;exact⟨_,gP mg,by simp[CsB],dx,fs,h1,B,i,r,(cs,rows),kvs,rm,rfl,⟨ob,F,rf,⟨ok.1.1,ok.1.2.1,ok.1.2.2.2,ok.2.1,ok.2.2.1,gt ok.2.2.2 ∅⟩,nQ ne⟩,k⟩
 | wy cs ps es =>
  obtain⟨dx,fs,h1,_,h2,B⟩:=yt ob;exact⟨_,gR mg,by simp[CsB],dx,fs,h1,B,i,r,(cs,ps,es),kvs,rm,rfl,⟨ob,F,rf,⟨ok.1.1,ok.1.2.1,ok.1.2.2.2,ok.2.1,ok.2.2.1,ok.2.2.2⟩,nQ ne⟩,k⟩
 | bh cs gap =>
  obtain⟨dx,fs,h1,_,h2,B⟩:=yH ob;exact⟨_,gZ mg,by simp[CsB],dx,fs,h1,B,i,r,(cs,gap),kvs,rm,rfl,⟨ob,F,rf,⟨ok.1,ok.2.1,ok.2.2.2⟩,nQ ne⟩,k⟩
def G9:Wi->Str
 | .un _ => "Unlike"
 | .mn _ _ _ _ => "Many"
 | .sm _ _ _ => "Sum"
 | .tb _ _ => "Table"
 | .wy _ _ _ => "Way"
 | .bh _ _ => "Behind"
def F1:Wx->Str
 | .pl W=>G9 W
 | .sa _ _ _ => "Same"
def HX (mg:Str->Option Value) (H:Hp) (p:Addr) (X:Wx):Prop:=∃w,HW mg (F1 X) H p w/\WX H w X
theorem HX.keep {X:Wx} (h:HX mg H p X) (k:fi H H'):HX mg H' p X:=by
 obtain⟨w,⟨dx,fs,h1,r⟩,h2⟩:=h;exact⟨w,⟨dx,fs,k.ins _ _ _ _ h1,r⟩,fE h2 k.tup⟩
theorem Id (h:OBT mg H p (cs,rows)):HX mg H p (.pl (.tb cs rows)):=by
 obtain⟨dx,fs,w,c,t,vs,h1,h2,Y,L,Z,F,_,_,B,_⟩:=h;exact⟨w,⟨dx,fs,h1,F,B⟩,h2⟩
theorem IA {ps:List (Int × Int × Int)} {es:List Int} (h:OBW mg H p (cs,ps,es)):HX mg H p (.pl (.wy cs ps es)):=by
 obtain⟨dx,fs,w,c,e,l,h1,h2,Y,L,Z,F,_,_,_,B,_⟩:=h;exact⟨w,⟨dx,fs,h1,F,B⟩,h2⟩
theorem Iz (h:OBB mg H p (cs,gap)):HX mg H p (.pl (.bh cs gap)):=by
 obtain⟨dx,fs,w,c,h1,h2,L,F,_,_,B,_⟩:=h;exact⟨w,⟨dx,fs,h1,F,B⟩,h2⟩
def HR (mg:Str->Option Value):Sp:=λvs H Q _=>∃(w:Addr) (W:Wi),vs=[.ref w]/\WS H w W/\(∃ws ns,okW ws ns W)/\∀p H',H p=none->mN mg H' p W->HX mg H' p (.pl W)->au H H'->Q (.ref p) H'
theorem fz {x:Addr} (L:H x=none) (F:H dx=none) (B:dx≠x):au H (upd (upd H dx (.own x)) x (.ins C dx [])):=(au.upd0 F).upd_new (by rw[ah B.symm];exact L)
theorem cX {x:Addr} (B:H x=none) (s:au H H1) (b:gy x H1 H2):au H H2:=λa o e=>b a o (ao e B) (s a o e)
abbrev EY:=Fn P w K mg base "plain_wish_of" 6 ["wish"] (HR mg)
theorem on (T:Txt w K mg) (L:FnL K mg "plain_wish_of" fO ["wish"]) (F:FnR P w K mg base (Mk K (ap mg "Unlike")) 2 ["self","wish"] (yK mg)) (aa:FnR P w K mg base (Mk K (ap mg "Many")) 2 ["self","wish"] (vO mg)) (ad:FnR P w K mg base (Mk K (ap mg "Sum")) 2 ["self","wish"] (yp mg)) (Z:FnR P w K mg base (Mk K (ap mg "Table")) 2 ["self","wish"] (yF mg "Table")) (ah:FnR P w K mg base (Mk K (ap mg "Way")) 2 ["self","wish"] (vD mg "Way")) (B:FnR P w K mg base (Mk K (ap mg "Behind")) 2 ["self","wish"] (zk mg "Behind")) : @EY P w K mg base:=by
 ctx_has z mM <;> obtain⟨w,W,rfl,hW,an,k⟩:=h
 .rfl
 refine⟨_,(af (bg (aG bM (aC aZ (pvM 0) aj) aJ) (ai (az (gz F (hr.mono (by ctx_has m)) rfl T.at_Unlike (ac (pvM 0) ag)))) aM)
  (af (bg (aG bM (aC aZ (pvM 0) aj) aJ) (ai (az (gz aa (hr.mono (by ctx_has m)) rfl T.at_Many (ac (pvM 0) ag)))) aM)
  (af (bg (aG bM (aC aZ (pvM 0) aj) aJ) (ai (az (gz ad (hr.mono (by ctx_has m)) rfl T.at_Sum (ac (pvM 0) ag)))) aM)
  (af (bg (aG bM (aC aZ (pvM 0) aj) aJ) (ai (az (gz Z (hr.mono (by ctx_has m)) rfl T.at_Table (ac (pvM 0) ag)))) aM)
  (af (bg (aG bM (aC aZ (pvM 0) aj) aJ) (ai (az (gz ah (hr.mono (by ctx_has m)) rfl T.at_Way (ac (pvM 0) ag)))) aM)
  (ai (az (gz B (hr.mono (by ctx_has m)) rfl T.at_Behind (ac (pvM 0) ag))))))))),?_⟩
 cases W with
 | un cs =>
  obtain⟨c,h1,h2⟩:=id hW;ctx_has v h1
  intro x dx Y ab ak;have s1:=fz (C:=ap mg (b_ "Unlike")) Y ab ak;exact⟨x,dx,w,cs,cs,rfl,ae,cE hW λa xs e=>s1 _ _ e,λH2 ob hw b2=>⟨rfl,k x H2 Y ob ⟨w,hw,cE hW λa xs e=>cX Y s1 b2 _ _ e⟩ (cX Y s1 b2)⟩⟩
 | mn av cs lo hi =>
  obtain⟨am,c,h1,h2,h3⟩:=id hW;ctx_has v h1
  intro x dx Y ab ak;have s1:=fz (C:=ap mg (b_ "Many")) Y ab ak;exact⟨x,dx,w,_,_,lo,hi,rfl,ae,s1 _ _ h1,λH2 ob hw b2=>⟨rfl,k x H2 Y ⟨am,c,ob,cX Y s1 b2 _ _ h2,cX Y s1 b2 _ _ h3⟩ ⟨w,hw,cE hW λa xs e=>cX Y s1 b2 _ _ e⟩ (cX Y s1 b2)⟩⟩
 | sm ts lo hi =>
  obtain⟨t,h1,h2⟩:=id hW;ctx_has v h1
  intro x dx Y ab ak;have s1:=fz (C:=ap mg (b_ "Sum")) Y ab ak;exact⟨x,dx,w,(ts,lo,hi),ts.map (·.2),rfl,ae,cE hW λa xs e=>s1 _ _ e,λH2 ob hw b2=>⟨rfl,k x H2 Y ob ⟨w,hw,cE hW λa xs e=>cX Y s1 b2 _ _ e⟩ (cX Y s1 b2)⟩⟩
 | tb cs rows =>
  obtain⟨c,t,vs,h1,h2⟩:=id hW;ctx_has v h1
  intro x dx Y ab ak;have s1:=fz (C:=ap mg (b_ "Table")) Y ab ak;exact⟨x,dx,w,(cs,rows),rfl,ae,cE hW λa xs e=>s1 _ _ e,λH2 ob b2=>⟨rfl,k x H2 Y ob (Id ob) (cX Y s1 b2)⟩⟩
 | wy cs ps es =>
  obtain⟨c,t,e,vs,h1,h2⟩:=id hW;obtain⟨ws,ns,ok⟩:=an;ctx_has v h1
  intro x dx Y ab ak;have s1:=fz (C:=ap mg (b_ "Way")) Y ab ak;exact⟨x,dx,w,(cs,ps,es),rfl,ae,cE hW λa xs e=>s1 _ _ e,⟨ok.1.1,ok.1.2.1,ok.1.2.2.2,ok.2.1,ok.2.2.1,ok.2.2.2⟩,λH2 ob b2=>⟨rfl,k x H2 Y ob (IA ob) (cX Y s1 b2)⟩⟩
 | bh cs gap =>
  obtain⟨c,h1,h2⟩:=id hW;ctx_has v h1
  intro x dx Y ab ak;have s1:=fz (C:=ap mg (b_ "Behind")) Y ab ak;exact⟨x,dx,w,(cs,gap),rfl,ae,cE hW λa xs e=>s1 _ _ e,λH2 ob b2=>⟨rfl,k x H2 Y ob (Iz ob) (cX Y s1 b2)⟩⟩
abbrev kC:=Str × List Int × Wi
def mo (dat:kC):List Str:=dat.1 :: bv dat.2.2
def DN (dat:kC):Prop:=(∃ws ns,okW ws ns dat.2.2)/\(bv dat.2.2).length<=5/\dat.2.1.length<=20/\dat.1∉bv dat.2.2
def Cm (dat:kC) (g:Str->Int):Bool:=gG (.sa dat.1 dat.2.1 dat.2.2) g
def WSX (H:Hp) (w:Addr) (dat:kC):Prop:=WX H w (.sa dat.1 dat.2.1 dat.2.2)
theorem BK {w:Addr} {dat:kC} (h:WSX H w dat) (k:fi H H'):WSX H' w dat:=fE h k.tup
def OBX (mg:Str->Option Value) (H:Hp) (p:Addr) (dat:kC):Prop:=∃dx fs w u i,H p=some (.ins (ap mg "Same") dx fs)/\WSX H w dat/\H u>>(dat.2.1.map V.int)/\mN mg H i dat.2.2/\fs.lookup (b_ "wish")=some (.ref w)/\fs.lookup (b_ "cell")=some (.str dat.1)/\fs.lookup (b_ "among")=some (.ref u)/\fs.lookup (b_ "inner")=some (.ref i) /\
 fs.lookup (b_ "kept")=none/\fs.lookup (b_ "may_keep")=none/\fs.lookup (b_ "may_break")=none/\fs.lookup (b_ "may_be_among")=none/\fs.lookup (b_ "may_be_none_of_them")=none
theorem va {dat:kC} (h:OBX mg H p dat) (k:fi H H'):OBX mg H' p dat:=by
 obtain⟨dx,fs,w,u,i,h1,h2,F,B,r⟩:=h;exact⟨dx,fs,w,u,i,k.ins _ _ _ _ h1,BK h2 k,k.tup _ _ F,B.keep k,r⟩
theorem DG {dat:kC} (h:OBX mg H p dat) : ∃dx fs,H p=some (.ins (ap mg "Same") dx fs)/\fs.lookup (b_ "kept")=none/\fs.lookup (b_ "may_keep")=none/\fs.lookup (b_ "may_break")=none:=by
 obtain⟨dx,fs,w,u,i,h1,h2,Z,Y,_,_,_,_,L,B,F,_⟩:=h;exact⟨dx,fs,h1,L,B,F⟩
theorem jw {W:Wi} {g':Str->Int} (h : ∀c∈bv W,g c=g' c):cC W g=cC W g':=by
 have e : ∀cs:List Str,(∀c∈cs,g c=g' c)->cs.map g=cs.map g':=λcs h=>m9 h
 cases W with
 | un cs=>show decide (cs.map g).Nodup=decide (cs.map g').Nodup;rw[e cs h]
 | mn av cs lo hi =>
  have e2:(cs.filter λc=>decide (g c∈av))=cs.filter λc=>decide (g' c∈av):=List.filter_congr λc F=>by rw[h c F]
  simp only[cC,e2]
 | sm ts lo hi=>show dU ((ts.map λx=>x.1 * g x.2).sum) lo hi=dU ((ts.map λx=>x.1 * g' x.2).sum) lo hi;rw[m9 λx B=>by rw[h x.2 (List.mem_map_of_mem (f:=Prod.snd) B)]]
 | tb cs rows=>show decide (cs.map g∈rows)=decide (cs.map g'∈rows);rw[e cs h]
 | wy cs ps es=>show tP es (ic ps (some 0) (cs.map g))=tP es (ic ps (some 0) (cs.map g'));rw[e cs h]
 | bh cs gap=>show chB gap (cs.map g)=chB gap (cs.map g');rw[e cs h]
structure jZ (mg:Str->Option Value) (H:Hp) (p r:Addr) (dat:kC) (kvs:List (Key × V)) (rm:Str->List Int):Prop where
 ob:OBX mg H p dat
 rd:H r<*kvs
 rf:aX H kvs (mo dat) rm
 ok:DN dat
 ne : ∀c∈mo dat,rm c≠[]/\(rm c).length<=4/\(rm c).Pairwise (· < ·)
theorem jZ.same {mg:Str->Option Value} {H H':Hp} {p r:Addr} {dat:kC} {kvs:List (Key × V)} {rm:Str->List Int} (h:jZ mg H p r dat kvs rm) (s:au H H'):jZ mg H' p r dat kvs rm :=
 ⟨va h.ob (au.keepTI s),s _ _ h.rd,h.rf.same (λa vs e=>s _ _ e),h.ok,h.ne⟩
def gw (mg:Str->Option Value):Sp:=λvs H Q _=>∃(p r:Addr) (dat:kC) (kvs:List (Key × V)) (rm:Str->List Int),vs=[.ref p,.ref r]/\jZ mg H p r dat kvs rm/\∀(b:Bool) H',(b=true↔∃g,okF rm (mo dat) g/\Cm dat g=true)->au H H'->Q (.bl b) H'
theorem pT {x:V} {g':Str->Int} (h:cD H x cs g) (h':cD H x cs g') : ∀c∈cs,g c=g' c:=by
 obtain⟨a,kvs,rfl,h1,h2,_⟩:=h;obtain⟨Z,L,e,B,F,_⟩:=h';cases e;rw[h1] at B;cases B;intro c Y;have:=(h2 c Y).symm.trans (F c Y)
 exact V.int.inj (e8 this)
def yU (mg:Str->Option Value) (C:Str):Sp:=λvs H Q _=>∃(p dx w:Addr) (dat:kC),vs=[.ref p,.ref w]/\H p=some (.ins (ap mg C) dx [])/\WSX H w dat/\DN dat/\∀H',OBX mg H' p dat->gy p H H'->Q .non H'
def Bp (mg:Str->Option Value):Sp:=λvs H Q _=>∃(p r:Addr) (dat:kC) (kvs:List (Key × V)) (rm:Str->List Int),vs=[.ref p,.ref r]/\jZ mg H p r dat kvs rm/\∀H',au H H'->Q (.bl ((rm dat.1).any λv=>decide (v∈dat.2.1))) H'
def Cl (mg:Str->Option Value):Sp:=λvs H Q _=>∃(p r:Addr) (dat:kC) (kvs:List (Key × V)) (rm:Str->List Int),vs=[.ref p,.ref r]/\jZ mg H p r dat kvs rm/\∀H',au H H'->Q (.bl ((rm dat.1).any λv=>decide (v∉dat.2.1))) H'
theorem jZ.inn {i:Addr} {dat:kC} (M:jZ mg H p r dat kvs rm) (hi:mN mg H i dat.2.2):BI mg H i r dat.2.2 kvs rm :=
 ⟨hi,M.rd,λc B=>M.rf c (j7 _ B),M.ok.1,M.ok.2.1,λc B=>M.ne c (j7 _ B)⟩
theorem im {dat:kC} (Y:DN dat) (F:Bool):(∃g,okF rm (mo dat) g/\Cm dat g=F)↔((∃v∈rm dat.1,v∈dat.2.1)/\∃g,okF rm (bv dat.2.2) g/\cC dat.2.2 g=F)\/((∃v∈rm dat.1,v∉dat.2.1)/\∃g,okF rm (bv dat.2.2) g/\cC dat.2.2 g = !F):=by
 constructor
 .rintro⟨g,h1,h2⟩
  have h2:decide (decide (g dat.1∈dat.2.1)=cC dat.2.2 g)=F:=h2
  have Z:okF rm (bv dat.2.2) g:=λc B=>h1 c (j7 _ B)
  have L:=h1 dat.1 k7
  by_cases z:g dat.1∈dat.2.1
  .refine .inl ⟨⟨_,L,z⟩,g,Z,?_⟩
   rw[decide_eq_true z] at h2;cases e:cC dat.2.2 g <;> rw[e] at h2 <;> simpa using h2
  .refine .inr ⟨⟨_,L,z⟩,g,Z,?_⟩
   rw[decide_eq_false z] at h2;cases e:cC dat.2.2 g <;> rw[e] at h2 <;> cases F <;> simp at h2 ⊢
 .have key : ∀v∈rm dat.1,∀g,okF rm (bv dat.2.2) g->okF rm (mo dat) (bY g dat.1 v)/\bY g dat.1 v dat.1=v/\cC dat.2.2 (bY g dat.1 v)=cC dat.2.2 g:=λv L g hg=>by
   have ne : ∀c∈bv dat.2.2,c≠dat.1:=λc B e=>Y.2.2.2 (e ▸ B)
   refine⟨λc B=>?_,be _ _ _,jw λc B=>bZ _ _ (ne c B)⟩
   rcases i6.mp B with e | B
   .rw[e,be];exact L
   .rw[bZ _ _ (ne c B)];exact hg c B
  rintro(⟨⟨v,L,z⟩,g,h1,h2⟩ | ⟨⟨v,L,z⟩,g,h1,h2⟩)
  .obtain⟨a1,a2,a3⟩:=key v L g h1
   refine⟨_,a1,?_⟩
   show decide (decide (bY g dat.1 v dat.1∈dat.2.1)=cC dat.2.2 (bY g dat.1 v))=F
   rw[a2,a3,h2,decide_eq_true z];cases F <;> rfl
  .obtain⟨a1,a2,a3⟩:=key v L g h1
   refine⟨_,a1,?_⟩
   show decide (decide (bY g dat.1 v dat.1∈dat.2.1)=cC dat.2.2 (bY g dat.1 v))=F
   rw[a2,a3,h2,decide_eq_false z];cases F <;> rfl
theorem lE (T:Txt w K mg) (L:cJ K (gp K (ap mg "Wish") "__init__") "__init__" "Wish.__init__" bD ["self","wish"]):FnR P w K mg base (gp K (ap mg "Wish") "__init__") 1 ["self","wish"] (dq mg "Same"):=by
 ctx_has z bU <;> obtain⟨p,dx,fs,w,rfl,hp,B,k⟩:=h
 .rfl
 refine⟨_,(ai (bE T.cl_Same T.no_Same_wish (pvM 0) (pvM 1) rfl)),?_⟩
 ctx_has v hp
 exact⟨B,k⟩
theorem nJ (T:Txt w K mg) (L:cJ K (Mk K (ap mg "Same")) "__init__" "Same.__init__" fQ ["self","wish"]) (B:FnR P w K mg base (gp K (ap mg "Wish") "__init__") 1 ["self","wish"] (dq mg "Same")) (Fb : @EY P w K mg base):FnR P w K mg base (Mk K (ap mg "Same")) 8 ["self","wish"] (yU mg "Same"):=by
 ctx_has z nN <;> obtain⟨p,dx,w,dat,rfl,hp,hW,aa,k⟩:=h
 .rfl
 refine⟨_,(af (bW (jm B (hr.mono (by ctx_has m)) rfl T.at_Wish (ac (pvM 0) (ac (pvM 1) ag))))
  (af (bE T.cl_Same T.no_Same_cell (pvM 0) (aC aZ (pvM 1) aj) rfl)
  (af (bE T.cl_Same T.no_Same_among (pvM 0) (aC aZ (pvM 1) aj) rfl)
  (ai (bE T.cl_Same T.no_Same_inner (pvM 0) (aw Fb (ac (aC aZ (pvM 1) aj) ag)) rfl))))),?_⟩
 obtain⟨c,us,W⟩:=dat;obtain⟨t,u,hw,h2,h3⟩:=hW;ctx_has v hw
 have Y:w≠p:=aU hw hp (by intro z;cases z)
 refine⟨p,dx,[],.ref w,rfl,hp,∅,?_⟩
 refine⟨_,by rw[ah Y];exact hw,_,rfl,dx,_,ae,dB (Aw _ "" "" "" _ .non .non .non),_,by rw[ah Y,ah Y];exact hw,_,rfl,dx,_,ae,dB (zE _ _ "" "" _ _ .non .non),_,by rw[ah Y,ah Y,ah Y];exact hw,_,rfl,?_⟩
 rw[lP,lP];have b1 : ∀o,gy p H (upd H p o):=λo b x Z e=>by rw[ah Z];exact e
 have kt : ∀o a xs,H a>>xs->upd H p o a>>xs:=λo a xs e=>b1 o _ _ (aU e hp (by intro z;cases z)) e
 refine⟨u,W,rfl,cE h3 (kt _),aa.1,λi H2 hi ob _ s2=>⟨dx,_,s2 _ _ ae,dB (DJ _ _ _ "" _ _ _ .non),?_⟩⟩
 have g2:=s2 _ _ ae;have ip:i≠p:=λe=>by rw[e,ae] at hi;cases hi
 have k2 : ∀o a x,a≠p->H2 a=some x->upd H2 p o a=some x:=λo a x Z e=>by rw[ah Z];exact e
 have F : ∀o a xs,H a>>xs->upd H2 p o a>>xs:=λo a xs e=>k2 o _ _ (aU e hp (by intro z;cases z)) (s2 _ _ (kt _ _ _ e))
 refine k _ ⟨dx,_,w,t,i,ae,⟨t,u,F _ _ _ hw,F _ _ _ h2,cE h3 (F _)⟩,F _ _ _ h2,ob.obj (λa xs e=>k2 _ _ _ (aU e g2 (by intro z;cases z)) e) (λa xs e=>k2 _ _ _ (aU e g2 (by intro z;cases z)) e) (λC dx fs e=>k2 _ _ _ ip e),?_⟩ ?_
 .simp only[bz,dY,String.reduceEq,if_true,if_false,true_and,I0,and_self]
 .intro b o Z e
  exact k2 _ _ _ Z (s2 _ _ (b1 _ b o Z e))
theorem C3 (h:cD H (.ref f) ws g) (L : ∀c∈cs,c∈ws) (hl:ws.length<=40) (Y : ∀c∈cs,-2000000<=g c/\g c<=2000000):lj H f cs g:=by
 obtain⟨a,kvs,e,h1,h2,F,B⟩:=h;cases e;exact⟨⟨kvs,h1,λc Z=>h2 c (L c Z),B,gt F hl⟩,Y⟩
theorem jY (T:Txt w K mg) (L:cJ K (aO K (ap mg "Same") "may_be_among") "may_be_among" "Same.may_be_among" cK ["self","rooms"]):FnR P w K mg base (aO K (ap mg "Same") "may_be_among") 1 ["self","rooms"] (Bp mg):=by
 ctx_has z jy <;> obtain⟨p,r,dat,kvs,rm,rfl,M,k⟩:=h
 .rfl
 refine⟨_,(ai (az (aF (gl rfl) T.b_any (ac (ba (N:=["value","self"]) (nt:=1) (js:=[0]) (aH ["self","rooms"] (ak cK).names) (bK K (bx hu (pvM 1) (aS T.cl_Same T.no_Same_cell (pvM 0)))) (ay 0) aQ bR (bw iW (pvM 0) (aS T.cl_Same T.no_Same_among (pvM 1)))) ag)))),?_⟩
 obtain⟨dx,fs,w,u,i,h1,h2,h3,h4,l1,l2,l3,l4,r⟩:=M.ob;obtain⟨a0,Z,B⟩:=M.rf dat.1 k7;have aa:=M.ne dat.1 k7;have Y:=M.rd;ctx_has v h1 l2 Y Z B
 refine λD hD=>cM aT (λj ys H'=>ys=((rm dat.1).take j).map (λv=>V.bl (decide (v∈dat.2.1)))/\au H H'/\H' D*>ys) ⟨rfl,au.upd0 hD,ae⟩ (λj ys H' F=>by obtain⟨_,s,_⟩:=F;exact(.of (s _ _ B))) ?_ ?_
 .rintro j x ys H1 hj hx ⟨rfl,s1,h1D⟩
  obtain⟨v,hv,rfl⟩ : ∃v,(rm dat.1)[j]? = some v/\V.int v=x:=by
   rw[ei] at hx;cases e:(rm dat.1)[j]? with
   | none=>rw[e] at hx;cases hx
   | some u=>rw[e] at hx;exact⟨u,rfl,e8 hx⟩
  have g1:=s1 _ _ h1;have g3:=s1 _ _ h3;ctx_has v g1 l3 g3
  refine⟨rfl,cu _,h1D,?_,?_,λb o e=>(by rw[ah (ao e hD)];exact s1 _ _ e),ae⟩
  .rw[c_,IZ]
   exact aE ()
  .rw[i7,hv,dR]
   simp
 .rintro ys H1 ⟨rfl,s1,h1D⟩
  rw[c_,ki] at h1D;have:=k H1 s1
  refine⟨D,rfl,(rm dat.1).map λv=>decide (v∈dat.2.1),by rw[h1D,l_];rfl,?_⟩
  rw[any_map];exact this
theorem gi (T:Txt w K mg) (L:cJ K (aO K (ap mg "Same") "may_be_none_of_them") "may_be_none_of_them" "Same.may_be_none_of_them" bN ["self","rooms"]):FnR P w K mg base (aO K (ap mg "Same") "may_be_none_of_them") 1 ["self","rooms"] (Cl mg):=by
 ctx_has z gf <;> obtain⟨p,r,dat,kvs,rm,rfl,M,k⟩:=h
 .rfl
 refine⟨_,(ai (az (aF (gl rfl) T.b_any (ac (ba (N:=["value","self"]) (nt:=1) (js:=[0]) (aH ["self","rooms"] (ak bN).names) (bK K (bx hu (pvM 1) (aS T.cl_Same T.no_Same_cell (pvM 0)))) (ay 0) aQ bR (bw ky (pvM 0) (aS T.cl_Same T.no_Same_among (pvM 1)))) ag)))),?_⟩
 obtain⟨dx,fs,w,u,i,h1,h2,h3,h4,l1,l2,l3,l4,r⟩:=M.ob;obtain⟨a0,Z,B⟩:=M.rf dat.1 k7;have aa:=M.ne dat.1 k7;have Y:=M.rd;ctx_has v h1 l2 Y Z B
 refine λD hD=>cM aT (λj ys H'=>ys=((rm dat.1).take j).map (λv=>V.bl (decide (v∉dat.2.1)))/\au H H'/\H' D*>ys) ⟨rfl,au.upd0 hD,ae⟩ (λj ys H' F=>by obtain⟨_,s,_⟩:=F;exact(.of (s _ _ B))) ?_ ?_
 .rintro j x ys H1 hj hx ⟨rfl,s1,h1D⟩
  obtain⟨v,hv,rfl⟩ : ∃v,(rm dat.1)[j]? = some v/\V.int v=x:=by
   rw[ei] at hx;cases e:(rm dat.1)[j]? with
   | none=>rw[e] at hx;cases hx
   | some u=>rw[e] at hx;exact⟨u,rfl,e8 hx⟩
  have g1:=s1 _ _ h1;have g3:=s1 _ _ h3;ctx_has v g1 l3 g3
  refine⟨rfl,cu _,h1D,?_,?_,λb o e=>(by rw[ah (ao e hD)];exact s1 _ _ e),ae⟩
  .rw[c_,IZ]
   exact aE ()
  .rw[i7,hv,dR]
   simp
 .rintro ys H1 ⟨rfl,s1,h1D⟩
  rw[c_,ki] at h1D;have:=k H1 s1
  refine⟨D,rfl,(rm dat.1).map λv=>decide (v∉dat.2.1),by rw[h1D,l_];rfl,?_⟩
  rw[any_map];exact this
theorem yA {l us:List Int}:(l.any λv=>decide (v∈us))=true↔∃v∈l,v∈us:=by simp
theorem pK {l us:List Int}:(l.any λv=>decide (v∉us))=true↔∃v∈l,v∉us:=by simp
theorem nA (T:Txt w K mg) (L:cJ K (aO K (ap mg "Same") "may_keep") "may_keep" "Same.may_keep" fV ["self","rooms"]) (F:FnR P w K mg base (aO K (ap mg "Same") "may_be_among") 1 ["self","rooms"] (Bp mg)) (B:FnR P w K mg base (aO K (ap mg "Same") "may_be_none_of_them") 1 ["self","rooms"] (Cl mg)) (ad:FnR P w K mg base (aO K (ap mg "Unlike") "may_keep") 22 ["self","rooms"] (eG mg)) (aj:FnR P w K mg base (aO K (ap mg "Many") "may_keep") 22 ["self","rooms"] (eE mg)) (ao:FnR P w K mg base (aO K (ap mg "Sum") "may_keep") 22 ["self","rooms"] (eC mg)) (af:FnR P w K mg base (aO K (ap mg "Table") "may_keep") 22 ["self","rooms"] (eF mg)) (aq:FnR P w K mg base (aO K (ap mg "Way") "may_keep") 22 ["self","rooms"] (eD mg)) (aa:FnR P w K mg base (aO K (ap mg "Behind") "may_keep") 22 ["self","rooms"] (eB mg)) (Z:FnR P w K mg base (aO K (ap mg "Unlike") "may_break") 22 ["self","rooms"] (gX mg)) (ah:FnR P w K mg base (aO K (ap mg "Many") "may_break") 22 ["self","rooms"] (gU mg)) (ak:FnR P w K mg base (aO K (ap mg "Sum") "may_break") 22 ["self","rooms"] (gY mg)) (ab:FnR P w K mg base (aO K (ap mg "Table") "may_break") 22 ["self","rooms"] (gP mg)) (am:FnR P w K mg base (aO K (ap mg "Way") "may_break") 22 ["self","rooms"] (gR mg)) (Y:FnR P w K mg base (aO K (ap mg "Behind") "may_break") 22 ["self","rooms"] (gZ mg)):FnR P w K mg base (aO K (ap mg "Same") "may_keep") 23 ["self","rooms"] (gw mg):=by
 ctx_has z mX <;> obtain⟨p,r,dat,kvs,rm,rfl,M,k⟩:=h
 .rfl
 refine⟨_,(ai (az (mm (qm (cy T.cl_Same F (hr.mono (by ctx_has m)) (pvM 0) (ac (pvM 1) ag)) (eZ (jN (HH ⟨T.cl_Unlike,ad⟩ ⟨T.cl_Many,aj⟩ ⟨T.cl_Sum,ao⟩ ⟨T.cl_Table,af⟩ ⟨T.cl_Way,aq⟩ ⟨T.cl_Behind,aa⟩) (hr.mono (by ctx_has m)) (aS T.cl_Same T.no_Same_inner (pvM 0)) (ac (pvM 1) ag)))) (eZ (qm (cy T.cl_Same B (hr.mono (by ctx_has m)) (pvM 0) (ac (pvM 1) ag)) (eZ (jN (HH ⟨T.cl_Unlike,Z⟩ ⟨T.cl_Many,ah⟩ ⟨T.cl_Sum,ak⟩ ⟨T.cl_Table,ab⟩ ⟨T.cl_Way,am⟩ ⟨T.cl_Behind,Y⟩) (hr.mono (by ctx_has m)) (aS T.cl_Same T.no_Same_inner (pvM 0)) (ac (pvM 1) ag)))))))),?_⟩
 obtain⟨dx,fs,w,u,i,h1,h2,h3,h4,l1,l2,l3,l4,r1,r2,r3,r4,r5⟩:=M.ob;ctx_has v h1 r4
 refine⟨p,r,dat,kvs,rm,rfl,M,λH1 s1=>⟨_,rfl,?_⟩⟩
 by_cases hA:((rm dat.1).any λv=>decide (v∈dat.2.1))=true
 .rw[if_pos hA]
  refine⟨dx,fs,s1 _ _ h1,_,l4,i,rfl,vJ ((M.same s1).inn (h4.keep (au.keepTI s1))) λb1 H2 ax s2=>⟨_,rfl,?_⟩⟩
  have s3:=s1.trans s2;cases b1 with
  | true =>
   rw[if_pos rfl];refine k true H2 ?_ s3
   rw[im M.ok];exact⟨λ_=>.inl ⟨yA.mp hA,ax.mp rfl⟩,λ_=>rfl⟩
  | false =>
   rw[if_neg ∅]
   have ar : ¬ ((∃v∈rm dat.1,v∈dat.2.1)/\∃g,okF rm (bv dat.2.2) g/\cC dat.2.2 g=true):=λz=>by cases ax.mpr z.2
   refine⟨dx,fs,s3 _ _ h1,r5,p,r,dat,kvs,rm,rfl,M.same s3,λHB sB=>⟨_,rfl,?_⟩⟩
   have an:=s3.trans sB
   by_cases hN:((rm dat.1).any λv=>decide (v∉dat.2.1))=true
   .rw[if_pos hN]
    refine⟨dx,fs,an _ _ h1,_,l4,i,rfl,sk ((M.same an).inn (h4.keep (au.keepTI an))) λb2 HC aw sC=>k b2 HC ?_ (an.trans sC)⟩
    rw[im M.ok,aw];exact⟨λz=>.inr ⟨pK.mp hN,z⟩,λz=>z.elim (λz=>absurd z ar) λz=>z.2⟩
   .rw[if_neg hN]
    refine k false HB ?_ an
    rw[im M.ok];exact⟨λz=>(by cases z),λz=>z.elim (λz=>absurd z ar) λz=>absurd (pK.mpr z.1) hN⟩
 .rw[if_neg hA]
  have ar : ¬ ((∃v∈rm dat.1,v∈dat.2.1)/\∃g,okF rm (bv dat.2.2) g/\cC dat.2.2 g=true):=λz=>hA (yA.mpr z.1)
  refine⟨dx,fs,s1 _ _ h1,r5,p,r,dat,kvs,rm,rfl,M.same s1,λHB sB=>⟨_,rfl,?_⟩⟩
  have an:=s1.trans sB
  by_cases hN:((rm dat.1).any λv=>decide (v∉dat.2.1))=true
  .rw[if_pos hN]
   refine⟨dx,fs,an _ _ h1,_,l4,i,rfl,sk ((M.same an).inn (h4.keep (au.keepTI an))) λb2 HC aw sC=>k b2 HC ?_ (an.trans sC)⟩
   rw[im M.ok,aw];exact⟨λz=>.inr ⟨pK.mp hN,z⟩,λz=>z.elim (λz=>absurd z ar) λz=>z.2⟩
  .rw[if_neg hN]
   refine k false HB ?_ an
   rw[im M.ok];exact⟨λz=>(by cases z),λz=>z.elim (λz=>absurd z ar) λz=>absurd (pK.mpr z.1) hN⟩
def uX (mg:Str->Option Value) (H:Hp) (p:Addr) (X:Wx):Prop:=HX mg H p X/\match X with
 | .pl W=>mN mg H p W
 | .sa c us W=>OBX mg H p (c,us,W)
def okO:Wx->Prop
 | .pl W=>(∃ws ns,okW ws ns W)/\(bv W).length<=5
 | .sa c us W=>DN (c,us,W)
theorem uX.keep {mg:Str->Option Value} {H H':Hp} {p:Addr} {X:Wx} (h:uX mg H p X) (k:fi H H'):uX mg H' p X:=by
 refine⟨h.1.keep k,?_⟩
 cases X with
 | pl W=>exact mN.keep h.2 k
 | sa c us W=>exact va h.2 k
theorem IP {us:List Int} {W:Wi} (h:OBX mg H p (c,us,W)):HX mg H p (.sa c us W):=by
 obtain⟨dx,fs,w,u,i,h1,h2,Y,L,F,_,_,_,B,_⟩:=h;exact⟨w,⟨dx,fs,h1,F,B⟩,h2⟩
theorem EN {X:Wx} (h:okO X):szX X:=by
 cases X with
 | pl W=>obtain⟨⟨_,_,h⟩,_⟩:=h;exact Bi h
 | sa c us W=>obtain⟨⟨_,_,h⟩,_⟩:=h;exact Bi h
theorem vc {X:Wx} {g':Str->Int} (h : ∀c∈aI X,g c=g' c):gG X g=gG X g':=by
 cases X with
 | pl W=>exact jw h
 | sa c us W =>
  show decide (decide (g c∈us)=cC W g)=decide (decide (g' c∈us)=cC W g')
  rw[h c k7,jw λc B=>h c (j7 _ B)]
def Hi (mg:Str->Option Value):Sp:=λvs H Q _=>∃(w:Addr) (X:Wx),vs=[.ref w]/\WX H w X/\okO X/\∀p H',H p=none->uX mg H' p X->au H H'->Q (.ref p) H'
theorem xy (T:Txt w K mg) (L:FnL K mg "wish_of" oa ["wish"]) (Fb : @EY P w K mg base) (B:FnR P w K mg base (Mk K (ap mg "Same")) 8 ["self","wish"] (yU mg "Same")):Fn P w K mg base "wish_of" 10 ["wish"] (Hi mg):=by
 ctx_has z yb <;> obtain⟨w,X,rfl,F,Y,k⟩:=h
 .rfl
 refine⟨_,(af (bg (aG bM (aC aZ (pvM 0) aj) aJ) (ai (az (gz B (hr.mono (by ctx_has m)) rfl T.at_Same (ac (pvM 0) ag)))) aM)
  (ai (az (aw Fb (ac (pvM 0) ag))))),?_⟩
 cases X with
 | pl W =>
  have k2 : ∀p H',H p=none->mN mg H' p W->HX mg H' p (.pl W)->au H H'->Q (.ref p) H':=λp H' hp ob Z s=>k p H' hp ⟨Z,ob⟩ s
  clear k;have F:WS H w W:=F
  cases W with
  | un cs =>
   obtain⟨c,h1,h2⟩:=id F;ctx_has v h1
   exact⟨w,_,rfl,F,Y.1,k2⟩
  | mn av cs lo hi =>
   obtain⟨am,c,h1,h2,h3⟩:=id F;ctx_has v h1
   exact⟨w,_,rfl,F,Y.1,k2⟩
  | sm ts lo hi =>
   obtain⟨t,h1,h2⟩:=id F;ctx_has v h1
   exact⟨w,_,rfl,F,Y.1,k2⟩
  | tb cs rows =>
   obtain⟨c,t,vs,h1,h2⟩:=id F;ctx_has v h1
   exact⟨w,_,rfl,F,Y.1,k2⟩
  | wy cs ps es =>
   obtain⟨c,t,e,vs,h1,h2⟩:=id F;ctx_has v h1
   exact⟨w,_,rfl,F,Y.1,k2⟩
  | bh cs gap =>
   obtain⟨c,h1,h2⟩:=id F;ctx_has v h1
   exact⟨w,_,rfl,F,Y.1,k2⟩
 | sa c us W =>
  obtain⟨t,u,h1,h2,h3⟩:=id F;ctx_has v h1
  intro x dx Z aa ab;have s1:=fz (C:=ap mg (b_ "Same")) Z aa ab;exact⟨x,dx,w,(c,us,W),rfl,ae,fE F λa xs e=>s1 _ _ e,Y,λH2 ob b2=>⟨rfl,k x H2 Z ⟨IP ob,ob⟩ (cX Z s1 b2)⟩⟩
theorem FnR.lift {R:Addr->Prop} (F:FnR P w K mg base R j ps sp) (h:j<=k):FnR P w K mg base R k ps sp:=by
 obtain⟨f,fd,F,r⟩:=F;exact⟨f,fd,F.mono h,r⟩
def De (mg:Str->Option Value):List (Addr × Sp):=[(ap mg "Unlike",eG mg),(ap mg "Many",eE mg),(ap mg "Sum",eC mg),(ap mg "Table",eF mg),(ap mg "Way",eD mg),(ap mg "Behind",eB mg),(ap mg "Same",gw mg)]
theorem Gn {P:Addr->Sp->Prop} {a7:Addr} {b1 b2 F Y Z L B:Sp} (h1:P a1 b1) (h2:P a2 b2) (h3:P a3 F) (h4:P a4 Y) (h5:P a5 Z) (h6:P a6 L) (h7:P a7 B) : ∀C sp,(C,sp)∈[(a1,b1),(a2,b2),(a3,F),(a4,Y),(a5,Z),(a6,L),(a7,B)]->P C sp:=λC sp h=>by
 simp only[i6,Prod.mk.injEq,m4,or_false] at h;rcases h with⟨rfl,rfl⟩ | ⟨rfl,rfl⟩ | ⟨rfl,rfl⟩ | ⟨rfl,rfl⟩ | ⟨rfl,rfl⟩ | ⟨rfl,rfl⟩ | ⟨rfl,rfl⟩
 .exact h1
 .exact h2
 .exact h3
 .exact h4
 .exact h5
 .exact h6
 .exact h7
structure IB (mg:Str->Option Value) (H:Hp) (p r:Addr) (X:Wx) (kvs:List (Key × V)) (rm:Str->List Int):Prop where
 ob:uX mg H p X
 rd:H r<*kvs
 rf:aX H kvs (aI X) rm
 ok:okO X
 ne : ∀c∈aI X,rm c≠[]/\(rm c).length<=4/\(rm c).Pairwise (· < ·)
theorem BY {i:Addr} {X:Wx} {Q:VK} (M:IB mg H i r X kvs rm) (k : ∀(b:Bool) H',(b=true↔∃g,okF rm (aI X) g/\gG X g=true)->au H H'->Q (.bl b) H') :
  ∃C sp,(C,sp)∈De mg/\∃dx fs,H i=some (.ins C dx fs)/\fs.lookup (b_ "may_keep")=none/\sp [.ref i,.ref r] H Q E0:=by
 obtain⟨ob,B,rf,ok,ne⟩:=M;cases X with
 | pl W =>
  obtain⟨C,sp,h1,r⟩:=vJ (Q:=Q) ⟨ob.2,B,rf,ok.1,ok.2,ne⟩ k;exact⟨C,sp,(by simp only[CsK,De,i6,m4,or_false] at h1 ⊢;rcases h1 with h | h | h | h | h | h <;> simp[h]),r⟩
 | sa c us W =>
  obtain⟨dx,fs,h1,_,h2,F⟩:=DG ob.2;exact⟨_,gw mg,by simp[De],dx,fs,h1,h2,i,r,(c,us,W),kvs,rm,rfl,⟨ob.2,B,rf,ok,ne⟩,k⟩
open L2.Irr
theorem AD {a b c d rest:TS} (h : ∀R:TS,R=rest->oy a (oy b (oy c (oy d R))) D σ H):oy a (oy b (oy c (oy d rest))) D σ H:=h rest rfl
theorem cV {a rest:TS} (h : ∀R:TS,R=rest->oy a R D σ H):oy a rest D σ H:=h rest rfl
local macro_rules | `(tactic| ctx_has s $ids*) => `(tactic| (refine cV λR hR => ?_; ctx_has v $ids*; subst hR))
theorem lL {α:Type} : ∀{l m:List α},l.Nodup->(∀x∈l,x∈m)->l.length<=m.length
 | [],m,_,_=>x5 _
 | x :: l,m,hn,h=>by
  rw[mu] at hn;obtain⟨s,t,rfl⟩:=List.append_of_mem (h x k7);have:=lL (m:=s++t) hn.2 λy B=>by
   rcases ja.mp (h y (j7 _ B)) with z | z
   .exact k4 _ z
   .rcases i6.mp z with z | z
    .subst z;exact absurd B hn.1
    .exact m7 _ z
  simp at this ⊢
  omega
def yP (K:fx):Sp:=λvs H Q _=>∃(a:Addr) (ns:List Int),vs=[.ref a]/\SqL K H a (ns.map V.int)/\ns.length<=63/\∀H',Q (.bl true) H'
def CC (H H':Hp):Prop:=∀a vs,H a>>vs->H' a>>vs
theorem au.keepT (a:au H H1):CC H H1:=λp vs h=>a p _ h
def uz (H:Hp) (x:V) (B:Str):Prop:=∃p c,x = .ref p/\H p>>[.int c,.str B]
def kO (H:Hp) (v:V) (cells:List Str):Prop:=∃p,v = .ref p /\
  ((∃(s:Str) (t:Addr) (rest:List V),(s = "unlike" \/ s = "table" \/ s = "way" \/ s = "behind")/\H p>>(.str s :: .ref t :: rest)/\H t>>(cells.map V.str)) \/
   (∃(x:V) (t:Addr) (rest:List V),H p>>(.str "many" :: x :: .ref t :: rest)/\H t>>(cells.map V.str)) \/
   (∃(t:Addr) (rest ts:List V),H p>>(.str "sum" :: .ref t :: rest)/\H t>>ts/\ts.length=cells.length/\∀(i:Nat) x,ts[i]? = some x->∃B,cells[i]? = some B/\uz H x B))
theorem uz.keep {x:V} {B:Str} (k:CC H H') (h:uz H x B):uz H' x B:=by
 obtain⟨p,c,rfl,h⟩:=h;exact⟨p,c,rfl,k _ _ h⟩
theorem kO.keep {H H':Hp} {v:V} {cells:List Str} (k:CC H H') (h:kO H v cells):kO H' v cells:=by
 obtain⟨p,rfl,h⟩:=h;refine⟨p,rfl,?_⟩
 rcases h with⟨s,t,rest,B,h1,h2⟩ | ⟨x,t,rest,h1,h2⟩ | ⟨t,rest,ts,h1,h2,h3,h4⟩
 .exact .inl ⟨s,t,rest,B,k _ _ h1,k _ _ h2⟩
 .exact .inr (.inl ⟨x,t,rest,k _ _ h1,k _ _ h2⟩)
 .exact .inr (.inr ⟨t,rest,ts,k _ _ h1,k _ _ h2,h3,λi x e=>by obtain⟨F,a,b⟩:=h4 i x e;exact⟨F,a,b.keep k⟩⟩)
def Bg (H:Hp) (v:V) (cells:List Str):Prop:=kO H v cells\/∃(p:Addr) (own:Str) (x cI:V) (cs:List Str),v = .ref p/\H p>>[.str "same",.str own,x,cI]/\kO H cI cs/\cells=own :: cs
def uP:Sp:=λvs H Q _=>∃(v:V) (cells:List Str),vs=[v]/\kO H v cells/\cells.length<=15/\∀(p:Addr) (H':Hp),H' p>>(cells.map V.str)->au H H'->Q (.ref p) H'
def Et:Sp:=λvs H Q _=>∃(v:V) (cells:List Str),vs=[v]/\Bg H v cells/\cells.length<=15/\∀(p:Addr) (H':Hp),H' p>>(cells.map V.str)->au H H'->Q (.ref p) H'
theorem vP {w:Addr} {W:Wi} (h:WS H w W):kO H (.ref w) (bv W):=by
 refine⟨w,rfl,?_⟩
 cases W with
 | un cs=>obtain⟨c,h1,h2⟩:=h;exact .inl ⟨_,c,_,.inl rfl,h1,h2⟩
 | mn av cs lo hi=>obtain⟨a,c,h1,h2,B⟩:=h;exact .inr (.inl ⟨_,c,_,h1,B⟩)
 | sm ts lo hi =>
  obtain⟨t,h1,as,h2,rfl,B⟩:=h;refine .inr (.inr ⟨t,_,_,h1,h2,by simp[bv],λi x e=>?_⟩)
  rw[ei] at e;cases e2:as[i]? with
  | none=>rw[e2] at e;cases e
  | some y =>
   rw[e2] at e;obtain rfl:=e8 e
   exact⟨y.2.2,by simp[bv,e2],y.1,y.2.1,rfl,B y (f_ e2)⟩
 | tb cs rows=>obtain⟨c,t,vs,h1,h2,B,F⟩:=h;exact .inl ⟨_,c,_,.inr (.inl rfl),h1,h2⟩
 | wy cs ps es=>obtain⟨c,t,e,vs,h1,h2,B,F,L⟩:=h;exact .inl ⟨_,c,_,.inr (.inr (.inl rfl)),h1,h2⟩
 | bh cs gap=>obtain⟨c,h1,h2⟩:=h;exact .inl ⟨_,c,_,.inr (.inr (.inr rfl)),h1,h2⟩
theorem ze {w:Addr} {W:Wx} (h:WX H w W):Bg H (.ref w) (aI W):=by
 cases W with
 | pl W=>exact .inl (vP h)
 | sa c vs W=>obtain⟨t,u,h1,h2,B⟩:=h;exact .inr ⟨w,c,_,_,_,rfl,h1,vP B,rfl⟩
theorem mI (T:Txt w K mg) (L:FnL K mg "plain_cells_of" dD ["wish"]):Fn P w K mg base "plain_cells_of" 1 ["wish"] (uP):=by
 ctx_has z mf <;> obtain⟨v,cells,rfl,hp,hl,k⟩:=h
 .rfl
 refine⟨_,(af (bg (aG bM (aC aZ (pvM 0) aj) aJ) (ai (az (aY cq T.b_tuple (ac (ba (N:=["term"]) (nt:=1) (js:=[]) (aH ["wish"] (ak dD).names) (bK K (aC aZ (pvM 0) aj)) (ay 0) aQ bR (aC aZ (pvM 0) aj)) ag)))) aM)
  (af (bg (aG bM (aC aZ (pvM 0) aj) aJ) (ai (az (aC aZ (pvM 0) aj))) aM)
  (ai (az (aC aZ (pvM 0) aj))))),?_⟩
 obtain⟨p,rfl,⟨s',t,rest,hs,h1,h2⟩ | ⟨x,t,rest,h1,h2⟩ | ⟨t,rest,ts,h1,h2,h3,h4⟩⟩:=hp
 .rcases hs with rfl | rfl | rfl | rfl
  all_goals
   ctx_has v h1
   exact k t H h2 (au.refl _)
 .ctx_has v h1
  exact k t H h2 (au.refl _)
 .ctx_has v h1 h2
  intro q hq;refine cM aT (λi ys H'=>ys=(cells.take i).map V.str/\H' q*>ys/\au H H')
   ⟨by simp,ae,au.upd0 hq⟩ (λi ys H' B=>by obtain⟨_,_,sm⟩:=B;exact(.of (sm _ _ h2))) ?_ ?_
  .rintro i x ys H' hi hx ⟨rfl,h5,sm⟩
   obtain⟨nm,Z,g,c,rfl,hg⟩:=h4 i x hx;have F:=sm _ _ hg;ctx_has v F
   refine⟨h5,by simp;exact aE (),?_,ae,?_⟩
   .rw[i7,Z];simp
   .exact λb o e=>by rw[ah (ao e hq)];exact sm b o e
  .rintro ys H' ⟨rfl,h5,sm⟩
   rw[h3,ki] at h5;ctx_has v h5
   exact λu Y=>k u _ ae (sm.upd_new Y)
abbrev E4:=Fn P w K mg base "cells_of" 2 ["wish"] (Et)
theorem uI (T:Txt w K mg) (L:FnL K mg "cells_of" ly ["wish"]) (Fj:Fn P w K mg base "plain_cells_of" 1 ["wish"] (uP)) : @E4 P w K mg base:=by
 ctx_has z vf <;> obtain⟨v,cells,rfl,hp,hl,k⟩:=h
 .rfl
 refine⟨_,(af (aB 1 (bG ag))
  (af (aB 2 (pvM 0))
  (af (qY PassesOwn.never (aG bM (aC aZ (pvM 2) aj) aJ) (af (bW (gN o7 o8 db (pvM 1) (ac (aC aZ (pvM 2) aj) ag)))
  (ai (aB 2 (aC aZ (pvM 2) aj)))))
  (ai (az (aR Bz (aY cq T.b_tuple (ac (pvM 1) ag)) (aw Fj (ac (pvM 2) ag)))))))),?_⟩
 ctx_has v
 refine⟨∅,λg hg=>?_⟩
 refine pV (λμ σ H'=>∃(B cs':List Str) (w:V),σ=[some v,-g,some w]/\H' g*>(B.map V.str)/\au H H'/\cells=B++cs'/\((μ=0/\kO H w cs')\/(μ=1/\∃(p:Addr) (own:Str) (x cI:V) (cs:List Str),w = .ref p/\H p>>[.str "same",.str own,x,cI]/\kO H cI cs/\cs'=own :: cs)))
  (λσ H'=>∃(B cs':List Str) (w:V),σ=[some v,-g,some w]/\H' g*>(B.map V.str)/\au H H'/\cells=B++cs'/\kO H w cs') ?_ ?_ ?_
 .rcases hp with hp | ⟨p,own,x,cI,cs,rfl,h1,h2,rfl⟩
  .exact⟨0,[],cells,v,rfl,ae,au.upd0 hg,rfl,.inl ⟨rfl,hp⟩⟩
  .exact⟨1,[],_,_,rfl,ae,au.upd0 hg,rfl,.inr ⟨rfl,p,own,x,cI,cs,rfl,h1,h2,rfl⟩⟩
 .rintro R hR μ σ H1 ⟨B,cs',w',rfl,h1,sm,rfl,⟨rfl,hp1⟩ | ⟨rfl,p,own,x,cI,cs,rfl,hp1,hp2,rfl⟩⟩
  .have hr:=hR _ _ ⟨B,cs',w',rfl,h1,sm,rfl,hp1⟩
   obtain⟨p,rfl,⟨s',t,rest,hs,h2,h3⟩ | ⟨x,t,rest,h2,h3⟩ | ⟨t,rest,ts,h2,h3,h4,h5⟩⟩:=hp1
   .have h2':=sm _ _ h2
    rcases hs with rfl | rfl | rfl | rfl
    all_goals
     ctx_has v h2'
     exact hr
   .have h2':=sm _ _ h2
    ctx_has v h2'
    exact hr
   .have h2':=sm _ _ h2
    ctx_has v h2'
    exact hr
  .have h2':=sm _ _ hp1
   ctx_has v h2' h1
   refine⟨λσ' H'=>σ'=[some v,-g,some cI]/\H'=upd H1 g (.lst ((B++[own]).map V.str)),?_,?_⟩
   .rintro _ _ ⟨rfl,rfl⟩
    exact⟨0,Nat.zero_lt_one,B++[own],cs,cI,rfl,ae,λb o e=>by rw[ah (ao e hg)];exact sm b o e,by simp,.inl ⟨rfl,hp2⟩⟩
   .refine⟨by simp at hl ⊢;exact aE (),_,by rw[ah (aU h2' h1 (by intro z;cases z))];exact h2',?_⟩
    ctx_has v
    simp
 .rintro σ H1 ⟨B,cs',w',rfl,h1,sm,rfl,hp1⟩
  ctx_has v h1
  intro u Z;have s1:=sm.upd_new (o:=.tup (B.map V.str)) Z;refine⟨w',cs',rfl,hp1.keep (au.keepT s1),by simp at hl;omega,λq H2 hq Y=>?_⟩
  refine⟨q,rfl,_,Y _ _ ae,_,hq,x8 (aE (by simp at hl ⊢;omega)),λy H3 hy aa=>?_⟩
  exact k y H3 (by rw[hy];simp) ((s1.trans Y).trans aa)
theorem gk (h:au H H') {q:Addr} (e:H' q=none):H q=none:=by
 cases e2:H q with
 | none=>rfl
 | some o=>rw[h _ _ e2] at e;cases e
def onI (p:Int->Bool):V->Bool | .int v=>p v | _=>false
theorem wX (p:Int->Bool) (ns:List Int):(ns.map V.int).filter (onI p)=(ns.filter p).map V.int:=by
 induction ns with
 | nil=>rfl
 | cons n ns B =>
  rw[i9,sn,sn,B]
  show(if p n=true then _ else _)=_
  by_cases h:p n=true
  .simp[h]
  .simp[h]
structure RD (H:Hp) (r:Addr) (cs:List Str) (rm:Str->List Int):Prop where
 ex : ∃kvs,H r<*kvs/\aX H kvs cs rm/\iQ kvs cs
theorem RD.same {H H':Hp} {r:Addr} {cs:List Str} {rm:Str->List Int} (h:RD H r cs rm) (s:au H H'):RD H' r cs rm:=by
 obtain⟨kvs,h1,h2,B⟩:=h.ex;exact⟨kvs,s _ _ h1,h2.same λa vs e=>s _ _ e,B⟩
theorem Bf (h:iQ kvs cs):kvs.length<=cs.length:=by
 have e:(kvs.map (·.1)).length<=(cs.map (fy:Str->Key)).length:=lL h.1 λk B=>by
  obtain⟨x,F,rfl⟩:=g7.mp B;obtain⟨c,L,e⟩:=h.2 x F;exact g7.mpr ⟨c,L,e.symm⟩
 simpa using e
def In1 (cs:List Str) (fm rm:Str->List Int):Prop:=∀c∈cs,rm c≠[]/\(rm c).Sublist (fm c)/\(fm c).length<=4/\(fm c).Pairwise (· < ·)
theorem In1.ne (h:In1 cs fm rm) : ∀c∈cs,rm c≠[]/\(rm c).length<=4/\(rm c).Pairwise (· < ·):=λc B=>⟨(h c B).1,gt (h c B).2.1.length_le (h c B).2.2.1,(h c B).2.2.2.sublist (h c B).2.1⟩
theorem In1.set (h:In1 cs fm rm) (L:c∈cs) (hn:ns≠[]) (F:ns.Sublist (fm c)):In1 cs fm (bY rm c ns):=λx B=>by
 unfold bY
 split
 .rename_i e;rw[e];exact⟨hn,F,(h c L).2.2⟩
 .exact h x B
def sE:Sp:=λvs H Q _=>∃(t r:Addr) (cs:List Str) (kvs:List (Key × V)) (rm:Str->List Int),vs=[.ref t,.ref r]/\H t>>(cs.map V.str)/\cs.length<=15/\cs.Nodup/\H r<*kvs/\aX H kvs cs rm/\∀q H',H q=none->RD H' q cs rm->au H H'->Q (.ref q) H'
def FV:Sp:=λvs H Q _=>∃(r t:Addr) (c:Str) (cs:List Str) (rm:Str->List Int) (ns:List Int),vs=[.ref r,.str c,.ref t]/\RD H r cs rm/\c∈cs/\cs.length<=15/\H t>>(ns.map V.int)/\∀q H',H q=none->RD H' q cs (bY rm c ns)->au H H'->Q (.ref q) H'
def EF:Sp:=λvs H Q _=>∃(v:Int) (t u:Addr) (ns fs:List Int),vs=[.int v,.ref t,.ref u]/\H t>>(ns.map V.int)/\H u>>(fs.map V.int)/\fs.length<=1000/\∀q H',H q=none->H' q>>((fs.filter λo=>decide (o=v) || decide (o∈ns)).map V.int)->au H H'->Q (.ref q) H'
abbrev GD:=Fn P w K mg base "with_room" 1 ["rooms","cell","room"] (FV)
theorem ur (T:Txt w K mg) (L:FnL K mg "with_room" jU ["rooms","cell","room"]) : @GD P w K mg base:=by
 ctx_has z uq <;> obtain⟨r,t,c,cs,rm,ns,rfl,R,hc,hl,ht,k⟩:=h
 .rfl
 refine⟨_,(af (aB 3 (aY ji T.b_dict (ac (pvM 0) ag)))
  (af (gV hu (pvM 3) (pvM 1) (pvM 2) rfl)
  (ai (az (pvM 3))))),?_⟩
 obtain⟨kvs,h1,h2,Z⟩:=R.ex;have aa:=Bf Z;ctx_has v h1
 intro q B;have tq:t≠q:=ao ht B
 refine⟨kvs,ae,aE (),?_⟩
 have Y:au H (upd (upd H q (.dK kvs)) q (.dK (bm kvs (fy c) (.ref t)))):=λb o e=>by rw[ah (ao e B),ah (ao e B)];exact e
 exact k q _ B ⟨_,ae,h2.putG (λa vs e=>Y _ _ e) (Y _ _ ht) (λx F=>.inr F),Z.put hc λx F=>F⟩ Y
theorem wF (T:Txt w K mg) (L:FnL K mg "room_and" iU ["value","room","first_room"]):Fn P w K mg base "room_and" 1 ["value","room","first_room"] (EF):=by
 ctx_has z uN <;> obtain⟨v,t,u,ns,fs,rfl,Z,B,hl,k⟩:=h
 .rfl
 refine⟨_,(ai (az (aY cq T.b_tuple (ac (ba (N:=["one","value","room"]) (nt:=1) (js:=[0,1]) (aH ["value","room","first_room"] (ak iU).names) (bK K (pvM 2)) (ay 0) aQ (dn (PW.pt (kJ (aG bM (pvM 0) (pvM 1)) (jM (aG iW (pvM 0) (pvM 2)))))) (pvM 0)) ag)))),?_⟩
 ctx_has v B
 intro D hD;refine cT aT (onI λo=>decide (o=v) || decide (o∈ns)) id hD (λH' s=>.of (s _ _ B)) (by simp;omega) ?_ ?_ ?_
 .intro x H3 Q3 hx sm q3
  obtain⟨o,_,rfl⟩:=g7.mp hx;have e:=sm _ _ Z;ctx_has v e
  have F:=q3 H3 (au.refl _);refine cO (λh=>?_) (λh=>⟨rfl,cu _,?_⟩)
  .rw[show onI (λo=>decide (o=v) || decide (o∈ns)) (V.int o)=true by simp[onI,h]] at F
   exact F
  .rw[show onI (λo=>decide (o=v) || decide (o∈ns)) (V.int o)=inV (V.int o) (ns.map V.int) by rw[dR];simp[onI,h]] at F
   exact F
 .intro x H3 Q3 hx hp sm q3
  ctx_has v
  exact q3 H3 (au.refl _)
 .intro H3 sm h3
  rw[wX,map_id] at h3;ctx_has v h3
  intro q Y;exact k q _ (gk sm Y) ae (sm.upd_new Y)
def dO (as:List (Addr × Str × Addr)):List (Key × V):=as.map λx=>(fy x.2.1,.ref x.2.2)
theorem vG {c:Str} : ∀{as:List (Addr × Str × Addr)},c∉as.map (·.2.1)->bQ (dO as) (fy c)=none
 | [],_=>rfl
 | x :: as,h=>by
  have h1:x.2.1≠c:=λe=>h (by rw[i9,e];exact k7)
  have h2:c∉as.map (·.2.1):=λe=>h (by rw[i9];exact j7 _ e)
  unfold dO;rw[i9,aW (λe=>h1 (Kq e))]
  exact vG h2
theorem DL {x:Addr × Str × Addr} (hn:(as.map (·.2.1)).Nodup) (L:as[i]? = some x):bm (dO (as.take i)) (fy x.2.1) (.ref x.2.2)=dO (as.take (i+1)):=by
 have B:as.take (i+1)=as.take i++[x]:=by rw[i7,L];rfl
 have F:((as.take i++[x]).map (·.2.1)).Nodup:=by
  rw[<- B,map_take];exact hn.sublist (JD _ _)
 rw[k9,rb] at F;rw[eV _ (vG λh=>F.2.2 _ h _ (by simp) rfl),B]
 unfold dO;rw[k9];rfl
theorem zK (hn:(as.map (·.2.1)).Nodup):eJ [] (dO as)=dO as:=by
 have key : ∀i,i<=as.length->eJ [] (dO (as.take i))=dO (as.take i):=by
  intro i
  induction i with
  | zero=>intro _;rfl
  | succ i F =>
   intro hi;have B:as[i]? = some as[i]:=by simp
   have L:as.take (i+1)=as.take i++[as[i]]:=by rw[i7,B];rfl
   have e1:dO (as.take (i+1))=dO (as.take i)++[(fy as[i].2.1,.ref as[i].2.2)]:=by rw[L];unfold dO;rw[k9];rfl
   have e2:eJ [] (dO (as.take i)++[(fy as[i].2.1,.ref as[i].2.2)])=bm (eJ [] (dO (as.take i))) (fy as[i].2.1) (.ref as[i].2.2):=by unfold eJ;rw[J4];rfl
   rw[e1,e2,F (),DL hn B,e1]
 have:=key as.length (hH _)
 rwa [ki] at this
theorem Go (hn:(as.map (·.2.1)).Nodup) {x:Addr × Str × Addr} (B:x∈as):bQ (dO as) (fy x.2.1)=some (.ref x.2.2):=by
 induction as with
 | nil=>cases B
 | cons y as F =>
  rw[i9,mu] at hn;unfold dO;rw[i9];rcases i6.mp B with rfl | B
  .exact bB rfl
  .rw[aW (λe=>hn.1 (by rw[show y.2.1=x.2.1 from Kq e];exact g7.mpr ⟨x,B,rfl⟩))]
   exact F hn.2 B
theorem vC (T:Txt w K mg) (L:FnL K mg "rooms_of" jg ["cells","rooms"]):Fn P w K mg base "rooms_of" 1 ["cells","rooms"] (sE):=by
 ctx_has z vM <;> obtain⟨t,r,cs,kvs,rm,rfl,ht,hl,hn,an,R,k⟩:=h
 .rfl
 refine⟨_,(ai (az (aY (xJ rfl) T.b_dict (ac (ba (N:=["cell","rooms"]) (nt:=1) (js:=[1]) (aH ["cells","rooms"] (ak jg).names) (bK K (pvM 0)) (ay 0) aQ bR (bT (ac (pvM 0) (ac (bx hu (pvM 1) (pvM 0)) ag)))) ag)))),?_⟩
 ctx_has v ht Bs
 intro D hD;refine cM aT (λi ys H'=>∃as:List (Addr × Str × Addr),ys=as.map (λx=>V.ref x.1)/\as.map (·.2.1)=cs.take i/\(∀x∈as,H' x.1>>[.str x.2.1,.ref x.2.2]/\H x.2.2>>((rm x.2.1).map V.int))/\au H H'/\H' D*>ys) ⟨[],rfl,rfl,λx B=>(by simp at B),au.upd0 hD,ae⟩ (λi ys H' ab=>by obtain⟨_,_,_,_,s,_⟩:=ab;exact(.of (s _ _ ht))) ?_ ?_
 .rintro i x ys H1 hi B ⟨as,rfl,has,hat,s1,h1⟩
  obtain⟨c,aa,rfl⟩ : ∃c,cs[i]? = some c/\V.str c=x:=by
   rw[ei] at B;cases e:cs[i]? with
   | none=>rw[e] at B;cases B
   | some nm=>rw[e] at B;exact⟨nm,rfl,e8 B⟩
  have ad:=f_ aa;obtain⟨a0,hk,am⟩:=R c ad;have af:=s1 _ _ an;have aj:as.length<=15:=by have:=congrArg List.length has;simp at this;omega
  ctx_has v af hk
  refine⟨∅,λp hp=>?_⟩
  have F:=au.upd0 (o:=.tup [V.str c,V.ref a0]) hp;have h2:=F _ _ h1;have kt : ∀o a vs,upd H1 p (.tup [V.str c,V.ref a0]) a>>vs->upd (upd H1 p (.tup [V.str c,V.ref a0])) D (.lst o) a>>vs:=λo a vs e=>by rw[ah (aU e h2 (by intro z;cases z))];exact e
  refine⟨h2,aE (by rw[c_];omega),as++[(p,c,a0)],by simp,by rw[k9,has,i7,aa];rfl,λx B=>?_,λb o e=>(by rw[ah (ao e hD)];exact F _ _ (s1 _ _ e)),ae⟩
  rcases ja.mp B with z | z
  .exact⟨kt _ _ _ (F _ _ (hat x z).1),(hat x z).2⟩
  .rw[e_.mp z];exact⟨kt _ _ _ ae,am⟩
 .rintro ys H1 ⟨as,rfl,has,hat,s1,h1⟩
  rw[c_,ki] at has;have Z:(as.map (·.2.1)).Nodup:=by rw[has];exact hn
  have aj:as.length<=15:=by have:=congrArg List.length has;simp at this;omega
  refine⟨D,rfl,_,.inr h1,dO as,⟨as.map λx=>(x.1,fy x.2.1,V.ref x.2.2),by rw[l_];rfl,by rw[l_];rfl,λx B=>?_⟩,?_,λd hd=>?_⟩
  .obtain⟨y,Y,rfl⟩:=g7.mp B
   exact(hat y Y).1
  .unfold dO
   rw[c_];exact x8 (aE ())
  .rw[zK Z]
   have F:=s1.upd_new (o:=.dK (dO as)) hd;refine k d _ (gk s1 hd) ⟨dO as,ae,λc hc=>?_,?_,λx B=>?_⟩ F
   .rw[<- has] at hc
    obtain⟨y,Y,rfl⟩:=g7.mp hc;exact⟨y.2.2,Go Z Y,F _ _ (hat y Y).2⟩
   .rw[show(dO as).map (·.1)=(as.map (·.2.1)).map (fy:Str->Key) by unfold dO;rw[l_,l_];rfl,has]
    exact hn.map (f:=(fy:Str->Key)) λa b h e=>h (Kq e)
   .obtain⟨y,Y,rfl⟩:=g7.mp B
    exact⟨y.2.1,by rw[<- has];exact g7.mpr ⟨y,Y,rfl⟩,rfl⟩
theorem sO {us:List V} {ls ms:List L3} (h:dN H us ls) (k:dN H vs ms):dN H (us++vs) (ls++ms):=by
 obtain⟨as,h1,h2,L⟩:=h;obtain⟨bs,Y,k2,B⟩:=k;exact⟨as++bs,by rw[h1,Y,k9],by rw[h2,k2,k9],λx F=>(ja.mp F).elim (L x) (B x)⟩
def RF (H:Hp) (r:Addr) (cs:List Str) (rm:Str->List Int):Prop:=∃kvs,H r<*kvs/\aX H kvs cs rm
theorem RF.same {H H':Hp} {r:Addr} {cs:List Str} {rm:Str->List Int} (h:RF H r cs rm) (s:au H H'):RF H' r cs rm:=by
 obtain⟨kvs,h1,h2⟩:=h;exact⟨kvs,s _ _ h1,h2.same λa vs e=>s _ _ e⟩
def sr:Sp:=λvs H Q _=>∃(c:Str) (f r:Addr) (cs:List Str) (fm rm:Str->List Int),vs=[.str c,.ref f,.ref r]/\c∈cs/\RF H f cs fm/\RD H r cs rm/\(fm c).length<=4/\∀q us ls H',H q=none->H' q*>us->dN H' us ls->ls.length<=4->au H H'->Q (.ref q) H'
def vQ:Sp:=λvs H Q _=>∃(a f r:Addr) (ds cs:List Str) (fm rm:Str->List Int),vs=[.ref a,.ref f,.ref r]/\H a*>(ds.map V.str)/\ds.length<=6/\(∀c∈ds,c∈cs)/\RF H f cs fm/\RD H r cs rm/\(∀c∈cs,(fm c).length<=4)/\∀q us ls H',H q=none->H' q*>us->dN H' us ls->ls.length<=24->au H H'->Q (.ref q) H'
theorem xI (T:Txt w K mg) (L:FnL K mg "missing" kB ["cell","first","rooms"]):Fn P w K mg base "missing" 1 ["cell","first","rooms"] (sr):=by
 ctx_has z yf <;> obtain⟨c,f,r,cs,fm,rm,rfl,hc,F,R,am,k⟩:=h
 .rfl
 refine⟨_,(ai (az (ba (N:=["value","cell","rooms"]) (nt:=1) (js:=[0,2]) (aH ["cell","first","rooms"] (ak kB).names) (bK K (bx hu (pvM 1) (pvM 0))) (ay 0) aQ (dn (aG ky (pvM 0) (bx hu (pvM 2) (pvM 1)))) (bT (ac (pvM 1) (ac aJ (ac (pvM 0) ag))))))),?_⟩
 obtain⟨kf,aa,aj⟩:=F;obtain⟨kr,ab,ad,_⟩:=R.ex;obtain⟨tf,ef,B⟩:=aj c hc;obtain⟨tr,er,af⟩:=ad c hc;ctx_has v aa ef B
 intro D hD;refine cM aT (λi ys H'=>∃ls:List L3,dN H' ys ls/\ls.length<=i/\au H H'/\H' D*>ys) ⟨[],dN.nil,hH _,au.upd0 hD,ae⟩ (λi ys H' Y=>by obtain⟨_,_,_,s,_⟩:=Y;exact(.of (s _ _ B))) ?_ ?_
 .rintro i x ys H1 hi hx ⟨ls,hl1,hll,s1,h1⟩
  rw[c_] at hi;obtain⟨v,hv,rfl⟩ : ∃v,(fm c)[i]? = some v/\V.int v=x:=by
   rw[ei] at hx;cases e:(fm c)[i]? with
   | none=>rw[e] at hx;cases hx
   | some nm=>rw[e] at hx;exact⟨nm,rfl,e8 hx⟩
  have g1:=s1 _ _ ab;have g2:=s1 _ _ af;have an:=hl1.length;ctx_has v g1 er g2
  refine⟨rfl,cu _,cO (λh=>⟨∅,λp hp=>?_⟩) (λh=>⟨ls,hl1,(),s1,h1⟩)⟩
  have Z:=au.upd0 (o:=.tup [V.str c,V.str "is",V.int v]) hp;have h2:=Z _ _ h1;have kt : ∀a vs,upd H1 p (.tup [V.str c,V.str "is",V.int v]) a>>vs->upd (upd H1 p (.tup [V.str c,V.str "is",V.int v])) D (.lst (ys++[V.ref p])) a>>vs:=λa vs e=>by rw[ah (aU e h2 (by intro z;cases z))];exact e
  exact⟨h2,aE (),ls++[(c,b_ "is",v)],((hl1.keep λa vs e=>Z _ _ e).keep kt).snoc (kt _ _ ae),by simp;omega,λb o e=>(by rw[ah (ao e hD)];exact Z _ _ (s1 _ _ e)),ae⟩
 .rintro ys H1 ⟨ls,hl1,hll,s1,h1⟩
  rw[c_] at hll;ctx_has v
  exact k D ys ls H1 hD h1 hl1 () s1
theorem rG (T:Txt w K mg) (L:FnL K mg "missing_of" iI ["cells","first","rooms"]) (FL:Fn P w K mg base "missing" 1 ["cell","first","rooms"] (sr)):Fn P w K mg base "missing_of" 2 ["cells","first","rooms"] (vQ):=by
 ctx_has z qZ <;> obtain⟨a,f,r,ds,cs,fm,rm,rfl,ha,an,aj,F,R,ab,k⟩:=h
 .rfl
 refine⟨_,(af (aB 3 (bG ag))
  (af (bp (fX K (pvM 0)) (ay 4) (ai (bW (gN PySem.F.slot_list_extend PySem.F.type_list_extend nI (pvM 3) (ac (aw FL (ac (pvM 4) (ac (pvM 1) (ac (pvM 2) ag)))) ag)))))
  (ai (az (pvM 3))))),?_⟩
 ctx_has v
 refine⟨∅,λq hq=>?_⟩
 have s0:=au.upd0 (o:=.lst []) hq;refine⟨_,s0 _ _ ha,?_⟩
 refine bS ck (λi σ H'=>∃(us:List V) (ls:List L3) (v4:Option V),σ=[-a,-f,-r,-q,v4]/\H' q*>us/\dN H' us ls/\ls.length<=4 * i/\au H H')
  ⟨[],[],_,rfl,ae,dN.nil,hH _,s0⟩ (λi σ H' B=>by obtain⟨_,_,_,_,_,_,_,s⟩:=B;exact(.of (s _ _ ha))) ?_ ?_
 .rintro i x σ H1 hi hx ⟨us,ls,v4,rfl,h1,hr1,hl1,s1⟩
  rw[c_] at hi;obtain⟨c,ak,rfl⟩ : ∃c,ds[i]? = some c/\V.str c=x:=by
   rw[ei] at hx;cases e:ds[i]? with
   | none=>rw[e] at hx;cases hx
   | some nm=>rw[e] at hx;exact⟨nm,rfl,e8 hx⟩
  have Y:=aj c (f_ ak);ctx_has v
  refine⟨⟨_,h1⟩,c,f,r,cs,fm,rm,rfl,Y,F.same s1,R.same s1,ab c Y,λb aa ad H2 hb h2 Z am s2=>⟨b,rfl,us,s2 _ _ h1,aa,h2,?_,_,ae,ls++ad,?_,by simp;omega,λa o e=>?_⟩⟩
  .rw[hr1.length,Z.length]
   exact x8 (aE ())
  .have kt : ∀a vs,H2 a>>vs->upd H2 q (.lst (us++aa)) a>>vs:=λa vs e=>by rw[ah (aU e (s2 _ _ h1) (by intro z;cases z))];exact e
   exact sO ((hr1.keep λa vs e=>s2 _ _ e).keep kt) (Z.keep kt)
  .rw[ah (ao e hq)];exact s2 _ _ (s1 _ _ e)
 .rintro σ H1 ⟨us,ls,v4,rfl,h1,hr1,hl1,s1⟩
  rw[c_] at hl1;ctx_has v
  exact k q us ls H1 hq h1 hr1 () s1
theorem ub {X:Wx} (h:okO X):(aI X).length<=6:=by
 cases X with
 | pl W=>exact gt h.2 ∅
 | sa c us W=>exact Nat.succ_le_succ h.2.1
structure Wid (mg:Str->Option Value) (H:Hp) (p f r:Addr) (X:Wx) (fm rm:Str->List Int):Prop where
 ob:uX mg H p X
 ok:okO X
 F:RF H f (aI X) fm
 R:RD H r (aI X) rm
 i1:In1 (aI X) fm rm
theorem Wid.same {mg:Str->Option Value} {H H':Hp} {p f r:Addr} {X:Wx} {fm rm:Str->List Int} (h:Wid mg H p f r X fm rm) (s:au H H'):Wid mg H' p f r X fm rm:=⟨h.ob.keep (au.keepTI s),h.ok,h.F.same s,h.R.same s,h.i1⟩
theorem Wid.ask {X:Wx} {Q:VK} (h:Wid mg H p f r X fm rm) (k : ∀(b:Bool) H',(b=true↔∃g,okF rm (aI X) g/\gG X g=true)->au H H'->Q (.bl b) H') : ∃C sp,(C,sp)∈De mg/\∃dx fs,H p=some (.ins C dx fs)/\fs.lookup (b_ "may_keep")=none/\sp [.ref p,.ref r] H Q E0:=by
 obtain⟨kvs,h1,h2,_⟩:=h.R.ex;exact BY ⟨h.ob,h1,h2,h.ok,h.i1.ne⟩ k
def Dg (mg:Str->Option Value):Sp:=λvs H Q _=>∃(p f r:Addr) (c:Str) (X:Wx) (fm rm:Str->List Int),vs=[.ref p,.str c,.ref f,.ref r]/\Wid mg H p f r X fm rm/\c∈aI X/\∀q B H',Wid mg H' p f q X fm B->au H H'->Q (.ref q) H'
def Hy (mg:Str->Option Value):Sp:=λvs H Q _=>∃(p a f r:Addr) (ds:List Str) (X:Wx) (fm rm:Str->List Int),vs=[.ref p,.ref a,.ref f,.ref r]/\Wid mg H p f r X fm rm/\H a*>(ds.map V.str)/\(∀c∈ds,c∈aI X)/\∀q B H',Wid mg H' p f q X fm B->au H H'->Q (.ref q) H'
abbrev Hv:=Fn P w K mg base "widened_at" 25 ["asked","cell","first","rooms"] (Dg mg)
theorem rJ (T:Txt w K mg) (L:FnL K mg "widened_at" iH ["asked","cell","first","rooms"]) (Fc : @GD P w K mg base) (FF:Fn P w K mg base "room_and" 1 ["value","room","first_room"] (EF)) (Y:FnR P w K mg base (aO K (ap mg "Unlike") "may_keep") 22 ["self","rooms"] (eG mg)) (aa:FnR P w K mg base (aO K (ap mg "Many") "may_keep") 22 ["self","rooms"] (eE mg)) (ah:FnR P w K mg base (aO K (ap mg "Sum") "may_keep") 22 ["self","rooms"] (eC mg)) (Z:FnR P w K mg base (aO K (ap mg "Table") "may_keep") 22 ["self","rooms"] (eF mg)) (ad:FnR P w K mg base (aO K (ap mg "Way") "may_keep") 22 ["self","rooms"] (eD mg)) (B:FnR P w K mg base (aO K (ap mg "Behind") "may_keep") 22 ["self","rooms"] (eB mg)) (ab:FnR P w K mg base (aO K (ap mg "Same") "may_keep") 23 ["self","rooms"] (gw mg)) : @Hv P w K mg base:=by
 ctx_has z rH <;> obtain⟨p,f0,r,c,X,fm,rm,rfl,M,hc,k⟩:=h
 .rfl
 refine⟨_,(af (aB 4 (aw Fc (ac (pvM 3) (ac (pvM 1) (ac (bx hu (pvM 2) (pvM 1)) ag)))))
  (af (bg (iP (dw (jN (Gn ⟨T.cl_Unlike,FnR.lift Y ∅⟩ ⟨T.cl_Many,FnR.lift aa ∅⟩ ⟨T.cl_Sum,FnR.lift ah ∅⟩ ⟨T.cl_Table,FnR.lift Z ∅⟩ ⟨T.cl_Way,FnR.lift ad ∅⟩ ⟨T.cl_Behind,FnR.lift B ∅⟩ ⟨T.cl_Same,ab⟩) (hr.mono (by ctx_has m)) (pvM 0) (ac (pvM 4) ag)))) (ai (az (pvM 4))) aM)
  (af (aB 5 (pvM 3))
  (af (bp (bK K (bx hu (pvM 2) (pvM 1))) (ay 6) (ai (bg (aG ky (pvM 6) (bx hu (pvM 3) (pvM 1))) (af (aB 7 (aw Fc (ac (pvM 5) (ac (pvM 1) (ac (aw FF (ac (pvM 6) (ac (bx hu (pvM 5) (pvM 1)) (ac (bx hu (pvM 2) (pvM 1)) ag)))) ag)))))
  (ai (bg (iP (dw (jN (Gn ⟨T.cl_Unlike,FnR.lift Y ∅⟩ ⟨T.cl_Many,FnR.lift aa ∅⟩ ⟨T.cl_Sum,FnR.lift ah ∅⟩ ⟨T.cl_Table,FnR.lift Z ∅⟩ ⟨T.cl_Way,FnR.lift ad ∅⟩ ⟨T.cl_Behind,FnR.lift B ∅⟩ ⟨T.cl_Same,ab⟩) (hr.mono (by ctx_has m)) (pvM 0) (ac (pvM 7) ag)))) (ai (aB 5 (pvM 7))) aM))) aM)))
  (ai (az (pvM 5))))))),?_⟩
 have aH:=ub M.ok;obtain⟨kf,an,ax⟩:=M.F;obtain⟨tf,ef,am⟩:=ax c hc;have ao:=M.i1 c hc;ctx_has v an ef
 refine⟨r,tf,c,_,rm,fm c,rfl,M.R,hc,(),am,λq1 H1 aE R1 s1=>?_⟩
 have M1:Wid mg H1 p f0 q1 X fm (bY rm c (fm c)):=⟨M.ob.keep (au.keepTI s1),M.ok,M.F.same s1,R1,M.i1.set hc (λe=>ao.1 (List.sublist_nil.mp (by rw[<- e];exact ao.2.1))) (List.Sublist.refl _)⟩
 refine M1.ask λb H2 hb s2=>⟨b,rfl,cO (λh=>k q1 _ H2 (M1.same s2) (s1.trans s2)) (λh=>?_)⟩
 have ak:=s1.trans s2;refine⟨kf,ak _ _ an,_,ef,tf,rfl,_,ak _ _ am,?_⟩
 refine bS aT (λi σ H'=>∃(wa:Addr) (wm:Str->List Int) (v6 v7:Option V),σ=[-p,some (.str c),-f0,-r,-q1,-wa,v6,v7]/\Wid mg H' p f0 wa X fm wm/\au H H')
  ⟨r,rm,_,_,rfl,M.same ak,ak⟩ (λi σ H' aq=>by obtain⟨_,_,_,_,_,_,s⟩:=aq;exact(.of (s _ _ am))) ?_ ?_
 .rintro i x σ H3 hi hx ⟨wa,wm,v6,v7,rfl,M3,s3⟩
  obtain⟨v,hv,rfl⟩ : ∃v,(fm c)[i]? = some v/\V.int v=x:=by
   rw[ei] at hx;cases e:(fm c)[i]? with
   | none=>rw[e] at hx;cases hx
   | some nm=>rw[e] at hx;exact⟨nm,rfl,e8 hx⟩
  obtain⟨kr,a7,a8,_⟩:=(M.R.same s3).ex;obtain⟨tr,er,aA⟩:=a8 c hc;obtain⟨kw,ar,a0,_⟩:=M3.R.ex;obtain⟨tw,ew,a9⟩:=a0 c hc;ctx_has v a7 er aA ar ew
  refine⟨rfl,cu _,cO (λh=>?_) (λh=>⟨wm,M3,s3⟩)⟩
  refine⟨kf,s3 _ _ an,_,ef,v,tw,tf,wm c,fm c,rfl,a9,s3 _ _ am,gt ao.2.2.1 ∅,λq4 H4 aF h4 s4=>?_⟩
  refine⟨wa,q4,c,_,wm,_,rfl,M3.R.same s4,hc,(),h4,λq5 H5 aD R5 s5=>?_⟩
  have aj:=s4.trans s5;have M5:Wid mg H5 p f0 q5 X fm (bY wm c ((fm c).filter λo=>decide (o=v) || decide (o∈wm c))):=⟨M3.ob.keep (au.keepTI aj),M.ok,M3.F.same aj,R5,M3.i1.set hc (List.ne_nil_of_mem (y9.mpr ⟨f_ hv,by simp⟩)) List.filter_sublist⟩
  exact M5.ask λb6 H6 aC s6=>⟨b6,rfl,cO (λh=>⟨q5,rfl,_,M5.same s6,(s3.trans aj).trans s6⟩) (λh=>⟨wm,M3.same (aj.trans s6),(s3.trans aj).trans s6⟩)⟩
 .rintro σ H3 ⟨wa,wm,v6,v7,rfl,M3,s3⟩
  ctx_has v
  exact k wa wm H3 M3 s3
abbrev GO:=Fn P w K mg base "widened" 26 ["asked","cells","first","rooms"] (Hy mg)
theorem xA (T:Txt w K mg) (L:FnL K mg "widened" nv ["asked","cells","first","rooms"]) (Fx : @Hv P w K mg base) : @GO P w K mg base:=by
 ctx_has z xL <;> obtain⟨p,a,f0,r,ds,X,fm,rm,rfl,M,ha,aj,k⟩:=h
 .rfl
 refine⟨_,(af (aB 4 (pvM 3))
  (af (bp (fX K (pvM 1)) (ay 5) (ai (bg (aG (yN rfl (pR hr)) (bx hu (pvM 4) (pvM 5)) (bx hu (pvM 2) (pvM 5))) (ai (aB 4 (aw Fx (ac (pvM 0) (ac (pvM 5) (ac (pvM 2) (ac (pvM 4) ag))))))) aM)))
  (ai (az (pvM 4))))),?_⟩
 ctx_has v ha
 refine bS ck (λi σ H'=>∃(Z:Addr) (Y:Str->List Int) (v5:Option V),σ=[-p,-a,-f0,-r,-Z,v5]/\Wid mg H' p f0 Z X fm Y/\au H H')
  ⟨r,rm,_,rfl,M,λb o e=>e⟩ (λi σ H' aa=>by obtain⟨_,_,_,_,_,s⟩:=aa;exact(.of (s _ _ ha))) ?_ ?_
 .rintro i x σ H1 hi hx ⟨Z,Y,v5,rfl,M1,s1⟩
  obtain⟨c,an,rfl⟩ : ∃c,ds[i]? = some c/\V.str c=x:=by
   rw[ei] at hx;cases e:ds[i]? with
   | none=>rw[e] at hx;cases hx
   | some nm=>rw[e] at hx;exact⟨nm,rfl,e8 hx⟩
  have B:=aj c (f_ an);obtain⟨kf,ad,ap⟩:=M1.F;obtain⟨tf,ef,ao⟩:=ap c B;obtain⟨kw,ab,ak,_⟩:=M1.R.ex;obtain⟨tw,ew,am⟩:=ak c B;ctx_has v ad ef ab ew
  refine⟨iO (Y c),iO (fm c),.tup (.of am) (fR.ints _),.tup (.of ao) (fR.ints _),iB _,iB _,gt (ku _) ∅,⟨_,rfl,cO (λh=>?_) (λh=>⟨Y,M1,s1⟩)⟩⟩
  exact⟨p,f0,Z,c,X,fm,Y,rfl,M1,B,λq ah H2 M2 s2=>⟨q,rfl,ah,M2,s1.trans s2⟩⟩
 .rintro σ H1 ⟨Z,Y,v5,rfl,M1,s1⟩
  ctx_has v
  exact k Z Y H1 M1 s1
def AL (Cs:List Addr) (ta:TE) (f:Str):TE:=λσ H Q=>ta σ H λx H1=>∃a,x = .ref a/\∃C dx fs,C∈Cs/\H1 a=some (.ins C dx fs)/\∃v,fs.lookup f=some v/\Q v H1
theorem yx {Cs:List Addr} {f:Str} (F : ∀C∈Cs,Cls X.K C/\aP X.K C f) (Y:PE X e ta) (Z:JN e f X.env (eval e X.env)=eval e X.env:=by rfl):PE X (.Attribute e f pos) (AL Cs ta f):=by
 unfold PE at Y ⊢;intro pins s σ H Q I h;refine yB Z (thn (Y pins s σ H _ I h) λu s1 B=>?_)
 obtain⟨x,H1,I1,rx,a,ex,C,dx,fs,L,ea,v,l,q⟩:=B;subst ex;obtain rfl:u=g9 a:=rx
 exact pU I1 ea (F C L).1 (F C L).2 l λu' s2 I2 ru=>⟨v,H1,I2,ru,q⟩
theorem EE {P:Addr->Prop} {B:Addr} (h1:P a1) (h2:P a2) (Z:P a3) (L:P a4) (h5:P a5) (F:P a6) (Y:P B) : ∀C∈[a1,a2,a3,a4,a5,a6,B],P C:=λC h=>by
 simp only[i6,m4,or_false] at h;rcases h with rfl | rfl | rfl | rfl | rfl | rfl | rfl <;> assumption
theorem vZ {X:Wx} (h:uX mg H p X) : ∃C dx fs w,C∈[ap mg (b_ "Unlike"),ap mg (b_ "Many"),ap mg (b_ "Sum"),ap mg (b_ "Table"),ap mg (b_ "Way"),ap mg (b_ "Behind"),ap mg (b_ "Same")]/\H p=some (.ins C dx fs)/\fs.lookup (b_ "wish")=some (.ref w)/\WX H w X:=by
 obtain⟨⟨w,⟨dx,fs,h1,B,_⟩,F⟩,_⟩:=h;exact⟨_,dx,fs,w,(by cases X with
  | pl W=>cases W <;> simp[F1,G9]
  | sa c us W=>simp[F1]),h1,B,F⟩
theorem wP {ls:List L3} (h:dN H vs ls) : ∃as:List Addr,vs=as.map V.ref/\∀a∈as,∃x y z,H a>>[.str x,.str y,.int z]:=by
 obtain⟨as,h1,h2,B⟩:=h;refine⟨as.map (·.1),by rw[h1,l_];rfl,λa ha=>?_⟩
 obtain⟨x,F,rfl⟩:=g7.mp ha;exact⟨_,_,_,B x F⟩
def Hs (mg:Str->Option Value):Sp:=λvs H Q _=>∃(p f r:Addr) (c:Str) (v:Int) (X:Wx) (fm rm:Str->List Int),vs=[.ref p,.str c,.int v,.ref f,.ref r]/\Wid mg H p f r X fm rm/\∀q us H',H' q>>us->au H H'->Q (.ref q) H'
abbrev GW:=Fn P w K mg base "clause_against" 28 ["asked","cell","value","first","rooms"] (Hs mg)
theorem lN (T:Txt w K mg) (L:FnL K mg "clause_against" dI ["asked","cell","value","first","rooms"]) (Fi : @E4 P w K mg base) (FK : @GO P w K mg base) (Fw:Fn P w K mg base "missing_of" 2 ["cells","first","rooms"] (vQ)) : @GW P w K mg base:=by
 ctx_has z mr <;> obtain⟨p,f0,r,c,v,X,fm,rm,rfl,M,k⟩:=h
 .rfl
 refine⟨_,(af (fG 5 (N:=["other","cell"]) (nt:=1) (js:=[1]) (aH ["asked","cell","value","first","rooms","others","widest"] (ak dI).names) (bK K (aw Fi (ac (yx (EE ⟨T.cl_Unlike,T.no_Unlike_wish⟩ ⟨T.cl_Many,T.no_Many_wish⟩ ⟨T.cl_Sum,T.no_Sum_wish⟩ ⟨T.cl_Table,T.no_Table_wish⟩ ⟨T.cl_Way,T.no_Way_wish⟩ ⟨T.cl_Behind,T.no_Behind_wish⟩ ⟨T.cl_Same,T.no_Same_wish⟩) (pvM 0)) ag))) (ay 0) aQ (dn (aG zm (pvM 0) (pvM 1))) (pvM 0))
  (af (aB 6 (aw FK (ac (pvM 0) (ac (pvM 5) (ac (pvM 3) (ac (pvM 4) ag))))))
  (ai (az (aY cq T.b_tuple (ac (aF uk T.b_sorted (ac (aR ud (bG (ac (bT (ac (pvM 1) (ac aJ (ac (pvM 2) ag)))) ag)) (aw Fw (ac (pvM 5) (ac (pvM 3) (ac (pvM 6) ag))))) ag)) ag)))))),?_⟩
 have aA:=ub M.ok;obtain⟨C,dx,fs,w0,hC,a7,lw,hW⟩:=vZ M.ob;ctx_has v AL
 refine⟨C,hC,dx,fs,a7,_,lw,_,_,rfl,ze hW,(),λt H1 ht s1=>⟨t,rfl,_,ht,λD hD=>?_⟩⟩
 refine cM aT (λi ys H'=>∃ds:List Str,ys=ds.map V.str/\ds.length<=i/\(∀x∈ds,x∈aI X)/\au H1 H'/\H' D*>ys) ⟨[],rfl,hH _,λx hx=>(by simp at hx),au.upd0 hD,ae⟩ (λi ys H' aa=>by obtain⟨_,_,_,_,s,_⟩:=aa;exact(.of (s _ _ ht))) ?_ ?_
 .rintro i x ys H2 hi hx ⟨ds,rfl,am,Y,s2,h2⟩
  rw[c_] at hi;obtain⟨c2,aC,rfl⟩ : ∃c,(aI X)[i]? = some c/\V.str c=x:=by
   rw[ei] at hx;cases e:(aI X)[i]? with
   | none=>rw[e] at hx;cases hx
   | some nm=>rw[e] at hx;exact⟨nm,rfl,e8 hx⟩
  ctx_has v
  refine cO (λh=>?_) (λh=>⟨ds,rfl,(),Y,s2,h2⟩)
  refine⟨h2,aE (by rw[c_];omega),ds++[c2],by simp,by simp;omega,λx hx=>?_,λb o e=>(by rw[ah (ao e hD)];exact s2 _ _ e),ae⟩
  rcases ja.mp hx with z | z
  .exact Y x z
  .rw[e_.mp z];exact f_ aC
 rintro ys H2 ⟨ds,rfl,am,Y,s2,h2⟩
 rw[c_] at am;have aj:=s1.trans s2;refine⟨p,D,f0,r,ds,X,fm,rm,rfl,M.same aj,h2,Y,λwa wm H3 M3 s3=>⟨∅,λB ax=>⟨∅,λt2 ab=>?_⟩⟩⟩
 have s4:=au.upd0 (o:=.tup [V.str c,V.str "not",V.int v]) ax;have s5:=s4.upd_new (o:=.lst [V.ref B]) ab;have g1:upd (upd H3 B (.tup [V.str c,V.str "not",V.int v])) t2 (.lst [V.ref B]) B>>(l3V (c,b_ "not",v)):=(au.upd0 ab) _ _ ae
 have g2:upd (upd H3 B (.tup [V.str c,V.str "not",V.int v])) t2 (.lst [V.ref B]) t2*>[V.ref B]:=ae
 generalize upd (upd H3 B (.tup [V.str c,V.str "not",V.int v])) t2 (.lst [V.ref B])=H5 at s5 g1 g2 ⊢;refine⟨D,f0,wa,ds,_,fm,wm,rfl,s5 _ _ (s3 _ _ h2),(),Y,M3.F.same s5,M3.R.same s5,λc hc=>(M3.i1 c hc).2.2.1,λq us ls H6 hq h6 an aA s6=>?_⟩
 have aD:=an.length;refine⟨q,rfl,_,s6 _ _ g2,us,h6,x8 (aE (by simp;omega)),λp7 a8=>?_⟩
 have s7:=au.upd0 (o:=.lst ([V.ref B]++us)) a8;have h7:upd H6 p7 (.lst ([V.ref B]++us)) p7*>([V.ref B]++us):=ae
 have ap:dN H6 ([V.ref B]++us) ([(c,b_ "not",v)]++ls):=sO ((dN.nil (H:=H6)).snoc (s6 _ _ g1)) an
 have Z:=ap.keep λa vs e=>s7 _ _ e
 have ad:([V.ref B]++us).length<=25:=by simp;omega
 generalize [V.ref B]++us=aK at h7 Z ad s7 ⊢;obtain⟨as,rfl,aq⟩:=wP Z;rw[c_] at ad;ctx_has v h7 wJ
 refine⟨as,rfl,(),aq,λq8 bs ar a0=>⟨_,ae,λt8 a9=>?_⟩⟩
 exact k t8 _ _ ae ((((aj.trans s3).trans s5).trans s6).trans (s7.trans ((au.upd0 ar).upd_new a9)))
theorem lM {W:Wi} (h:okW ws ns W):(bv W).Nodup/\∀x∈bv W,x∈ws:=by
 cases W with
 | un cs=>exact⟨h.2.1,h.2.2.1⟩
 | mn av cs lo hi=>exact⟨h.1.2.1,h.1.2.2.1⟩
 | sm ts lo hi=>exact⟨h.1.2.1,h.1.2.2.1⟩
 | tb cs rows=>exact⟨h.1.2.1,h.1.2.2.1⟩
 | wy cs ps es=>exact⟨h.1.2.1,h.1.2.2.1⟩
 | bh cs gap=>exact⟨h.2.1,h.2.2.1⟩
theorem xg {X:Wx} (h:okO X):(aI X).Nodup:=by
 cases X with
 | pl W=>obtain⟨⟨_,_,h⟩,_⟩:=h;exact(lM h).1
 | sa c us W=>obtain⟨⟨_,_,h⟩,_,_,h2⟩:=h;exact mu.mpr ⟨h2,(lM h).1⟩
noncomputable def uQ (X:Wx) (rm:Str->List Int) (c:Str) (v:Int):Bool:=@decide (¬ ∃g,okF rm (aI X) g/\gG X g=true/\g c=v) (Classical.propDecidable _)
theorem qw {X:Wx}:uQ X rm c v=true↔¬ ∃g,okF rm (aI X) g/\gG X g=true/\g c=v:=by
 unfold uQ;exact @decide_eq_true_iff _ (Classical.propDecidable _)
noncomputable def lF (X:Wx) (rm:Str->List Int) (c:Str) (vs:List Int):List (Str × Int):=(vs.filter λv=>uQ X rm c v).map λv=>(c,v)
noncomputable def mG (X:Wx) (rm:Str->List Int) (cs:List Str):List (Str × Int):=cs.flatMap λc=>lF X rm c (rm c)
theorem my (X:Wx) (rm:Str->List Int) (c:Str) (vs:List Int):(lF X rm c vs).length<=vs.length:=by
 unfold lF;rw[c_];exact Kk _ _
theorem mw {X:Wx} {rm:Str->List Int} : ∀{cs:List Str},(∀c∈cs,(rm c).length<=4)->(mG X rm cs).length<=4 * cs.length
 | [],_=>hH _
 | c :: cs,h=>by
  have h1:=mw (X:=X) (cs:=cs) λx B=>h x (j7 _ B)
  have h2:=my X rm c (rm c);have F:=h c k7;unfold mG at h1 ⊢;rw[Kx,o9,u6];omega
theorem sF {X:Wx}:mG X rm (cs++[c])=mG X rm cs++lF X rm c (rm c):=by
 unfold mG;rw[List.flatMap_append,Kx,List.flatMap_nil,Ju]
theorem zA {X:Wx} (L:c∈aI X) (F:v∈rm c):(∃g,okF (bY rm c [v]) (aI X) g/\gG X g=true)↔∃g,okF rm (aI X) g/\gG X g=true/\g c=v:=by
 constructor
 .rintro⟨g,h1,h2⟩
  have e:g c=v:=by have:=h1 c L;rw[be] at this;exact e_.mp this
  refine⟨g,λx B=>?_,h2,e⟩
  by_cases z:x=c
  .rw[z,e];exact F
  .have:=h1 x B;rwa [bZ _ _ z] at this
 .rintro⟨g,h1,h2,e⟩
  refine⟨g,λx B=>?_,h2⟩
  by_cases z:x=c
  .rw[z,be,e];exact e_.mpr rfl
  .rw[bZ _ _ z];exact h1 x B
def fv (H:Hp) (ys:List V) (ps:List (Str × Int)):Prop:=∃as:List (Addr × Addr × Str × Int),ys=as.map (λx=>V.ref x.1)/\as.map (·.2.2)=ps/\∀x∈as,H x.1>>[.str x.2.2.1,.int x.2.2.2,.ref x.2.1]/\∃us,H x.2.1>>us
theorem fv.keep {ys:List V} {ps:List (Str × Int)} (h:fv H ys ps) (k : ∀a xs,H a>>xs->H' a>>xs):fv H' ys ps:=by
 obtain⟨as,h1,h2,F⟩:=h;exact⟨as,h1,h2,λx B=>⟨k _ _ (F x B).1,(by obtain⟨us,e⟩:=(F x B).2;exact⟨us,k _ _ e⟩)⟩⟩
theorem fv.snoc {ys:List V} {ps:List (Str × Int)} {t:Addr} {us:List V} (h:fv H ys ps) (h1:H a>>[.str c,.int v,.ref t]) (h2:H t>>us):fv H (ys++[.ref a]) (ps++[(c,v)]):=by
 obtain⟨as,rfl,rfl,F⟩:=h;refine⟨as++[(a,t,c,v)],by simp,by simp,λx B=>?_⟩
 rcases ja.mp B with z | z
 .exact F x z
 .rw[e_.mp z];exact⟨h1,us,h2⟩
theorem fv.length {H:Hp} {ys:List V} {ps:List (Str × Int)} (h:fv H ys ps):ys.length=ps.length:=by
 obtain⟨as,rfl,rfl,_⟩:=h;simp
def yw (mg:Str->Option Value):Sp:=λvs H Q _=>∃(p f n:Addr) (X:Wx) (fm B:Str->List Int),vs=[.ref p,.ref f,.ref n]/\uX mg H p X/\okO X/\RF H f (aI X) fm/\RF H n (aI X) B/\In1 (aI X) fm B/\∀q ys H',H q=none->H' q*>ys->fv H' ys (mG X B (aI X))->au H H'->Q (.ref q) H'
def uL:Sp:=λvs H Q _=>∃(w f n:Addr) (X:Wx) (fm B:Str->List Int),vs=[.ref w,.ref f,.ref n]/\WX H w X/\okO X/\RF H f (aI X) fm/\RF H n (aI X) B/\In1 (aI X) fm B/\∀q ys H',H q=none->H' q*>ys->fv H' ys (mG X B (aI X))->au H H'->Q (.ref q) H'
theorem vj (T:Txt w K mg) (L:FnL K mg "taken_by" lA ["asked","first","now"]) (Fi : @E4 P w K mg base) (FI:Fn P w K mg base "rooms_of" 1 ["cells","rooms"] (sE)) (Fc : @GD P w K mg base) (Fk : @GW P w K mg base) (Y:FnR P w K mg base (aO K (ap mg "Unlike") "may_keep") 22 ["self","rooms"] (eG mg)) (aa:FnR P w K mg base (aO K (ap mg "Many") "may_keep") 22 ["self","rooms"] (eE mg)) (aj:FnR P w K mg base (aO K (ap mg "Sum") "may_keep") 22 ["self","rooms"] (eC mg)) (Z:FnR P w K mg base (aO K (ap mg "Table") "may_keep") 22 ["self","rooms"] (eF mg)) (ad:FnR P w K mg base (aO K (ap mg "Way") "may_keep") 22 ["self","rooms"] (eD mg)) (B:FnR P w K mg base (aO K (ap mg "Behind") "may_keep") 22 ["self","rooms"] (eB mg)) (ab:FnR P w K mg base (aO K (ap mg "Same") "may_keep") 23 ["self","rooms"] (gw mg)):Fn P w K mg base "taken_by" 30 ["asked","first","now"] (yw mg):=by
 ctx_has z vd <;> obtain⟨p,f0,n0,X,fm,nm,rfl,ob,ar,F,N,am,k⟩:=h
 .rfl
 refine⟨_,(af (aB 3 (aw Fi (ac (yx (EE ⟨T.cl_Unlike,T.no_Unlike_wish⟩ ⟨T.cl_Many,T.no_Many_wish⟩ ⟨T.cl_Sum,T.no_Sum_wish⟩ ⟨T.cl_Table,T.no_Table_wish⟩ ⟨T.cl_Way,T.no_Way_wish⟩ ⟨T.cl_Behind,T.no_Behind_wish⟩ ⟨T.cl_Same,T.no_Same_wish⟩) (pvM 0)) ag)))
  (af (aB 4 (aw FI (ac (pvM 3) (ac (pvM 2) ag))))
  (af (aB 5 (bG ag))
  (af (bp (bK K (pvM 3)) (ay 6) (ai (bp (bK K (bx hu (pvM 4) (pvM 6))) (ay 7) (af (aB 8 (aw Fc (ac (pvM 4) (ac (pvM 6) (ac (bT (ac (pvM 7) ag)) ag)))))
  (ai (bg (iP (dw (jN (Gn ⟨T.cl_Unlike,FnR.lift Y ∅⟩ ⟨T.cl_Many,FnR.lift aa ∅⟩ ⟨T.cl_Sum,FnR.lift aj ∅⟩ ⟨T.cl_Table,FnR.lift Z ∅⟩ ⟨T.cl_Way,FnR.lift ad ∅⟩ ⟨T.cl_Behind,FnR.lift B ∅⟩ ⟨T.cl_Same,ab⟩) (hr.mono (by ctx_has m)) (pvM 0) (ac (pvM 8) ag)))) (ai (bW (gN o7 o8 db (pvM 5) (ac (bT (ac (pvM 6) (ac (pvM 7) (ac (aw Fk (ac (pvM 0) (ac (pvM 6) (ac (pvM 7) (ac (pvM 1) (ac (pvM 8) ag)))))) ag)))) ag)))) aM))))))
  (ai (az (pvM 5))))))),?_⟩
 have bb:=ub ar;obtain⟨C,dx,fs,w0,hC,aS,lw,hW⟩:=vZ ob;refine cV λR hR=>?_
 ctx_has v AL
 refine⟨C,hC,dx,fs,aS,_,lw,_,_,rfl,ze hW,(),λt H1 ht s1=>?_⟩
 subst hR;refine cV λR hR=>?_
 ctx_has v
 obtain⟨kn,a0,aH⟩:=N.same s1;refine⟨t,n0,_,kn,nm,rfl,ht,(),xg ar,a0,aH,λr H2 aD R2 s2=>?_⟩
 have aq:=s1.trans s2;have aA:=s2 _ _ ht;have M2:Wid mg H2 p f0 r X fm nm:=⟨ob.keep (au.keepTI aq),ar,F.same aq,R2,am⟩
 clear a0 aH ht s1 s2 R2;subst hR;ctx_has v
 refine⟨∅,λq hq=>?_⟩
 have s3:=au.upd0 (o:=.lst []) hq;refine⟨_,s3 _ _ aA,?_⟩
 have dl : ∀i ps,ps.length<=4->(mG X nm ((aI X).take i)++ps).length<=28:=λi ps h=>by
  have h1:=mw (X:=X) (rm:=nm) (cs:=(aI X).take i) λc hc=>(am.ne c (F_ hc)).2.1
  have h2:=x_ i (aI X);rw[o9];omega
 refine bS aT (λi σ H'=>∃(ys:List V) (v6 v7 v8:Option V),σ=[-p,-f0,-n0,-t,-r,-q,v6,v7,v8]/\H' q*>ys/\fv H' ys (mG X nm ((aI X).take i))/\au H2 H')
  ⟨[],_,_,_,rfl,ae,⟨[],rfl,rfl,λx hx=>by simp at hx⟩,s3⟩ (λi σ H' aF=>by obtain⟨_,_,_,_,_,_,_,s⟩:=aF;exact(.of (s _ _ aA))) ?_ ?_
 .rintro i x σ H4 hi hx ⟨ys,v6,v7,v8,rfl,h4,hf4,s4⟩
  obtain⟨c,aK,rfl⟩ : ∃c,(aI X)[i]? = some c/\V.str c=x:=by
   rw[ei] at hx;cases e:(aI X)[i]? with
   | none=>rw[e] at hx;cases hx
   | some nm=>rw[e] at hx;exact⟨nm,rfl,e8 hx⟩
  have ak:=f_ aK;have aW:(aI X).take (i+1)=(aI X).take i++[c]:=by rw[i7,aK];rfl
  have aV:=am.ne c ak;obtain⟨kr,aR,aD,_⟩:=M2.R.ex;obtain⟨tr,er,aL⟩:=aD c ak;have g1:=s4 _ _ aR;have g2:=s4 _ _ aL;ctx_has v g1 er g2
  refine bS aT (λj σ H'=>∃(ys:List V) (v7 v8:Option V),σ=[-p,-f0,-n0,-t,-r,-q,some (.str c),v7,v8]/\H' q*>ys/\fv H' ys (mG X nm ((aI X).take i)++lF X nm c ((nm c).take j))/\au H2 H')
   ⟨ys,_,_,rfl,h4,by rw[show lF X nm c ((nm c).take 0)=[] from rfl,Ju];exact hf4,s4⟩ (λj σ H' aJ=>by obtain⟨_,_,_,_,_,_,s⟩:=aJ;exact(.of (s _ _ aL))) ?_ ?_
  .rintro j y σ H5 hj hy ⟨ys,v7,v8,rfl,h5,hf5,s5⟩
   rw[c_] at hj;obtain⟨v,hv,rfl⟩ : ∃v,(nm c)[j]? = some v/\V.int v=y:=by
    rw[ei] at hy;cases e:(nm c)[j]? with
    | none=>rw[e] at hy;cases hy
    | some u=>rw[e] at hy;exact⟨u,rfl,e8 hy⟩
   have a8:=f_ hv;have ed:lF X nm c ((nm c).take (j+1))=lF X nm c ((nm c).take j)++(if uQ X nm c v=true then[(c,v)] else[]):=by
    unfold lF;rw[i7,hv,List.filter_append,k9]
    congr 1
    show([v].filter λv=>uQ X nm c v).map _=_
    rw[sn]
    split <;> rfl
   have ba:=hf5.length;have aY:=dl i (lF X nm c ((nm c).take j)) (gt (my _ _ _ _) (gt (x_ _ _) aV.2.1));ctx_has v
   refine⟨∅,λt6 aP=>?_⟩
   have s6:=au.upd0 (o:=.tup [V.int v]) aP;have g6:upd H5 t6 (.tup [V.int v]) t6>>([v].map V.int):=ae
   generalize upd H5 t6 (.tup [V.int v])=H6 at s6 g6 ⊢;have aN:=s5.trans s6;refine⟨r,t6,c,_,nm,[v],rfl,M2.R.same aN,ak,(),g6,λq7 H7 aZ R7 s7=>?_⟩
   have a7:=aN.trans s7;have aQ:=s6.trans s7;have M7:Wid mg H7 p f0 q7 X fm (bY nm c [v]):=⟨M2.ob.keep (au.keepTI a7),ar,M2.F.same a7,R7,am.set ak (by simp) ((List.singleton_sublist.mpr a8).trans (am c ak).2.1)⟩
   refine M7.ask λb H8 hb s8=>?_
   rw[zA ak a8] at hb;have an:=aQ.trans s8;have h8:=an _ _ h5;have aG:=hf5.keep λa vs e=>an _ _ e
   rw[ed];refine⟨b,rfl,cO (λh=>?_) (λh=>?_)⟩
   .rw[if_pos (qw.mpr λz=>by rw[hb.mpr z] at h;cases h),<- Kw]
    refine⟨⟨_,h8⟩,p,f0,q7,c,v,X,fm,_,rfl,M7.same s8,λt9 us H9 h9 s9=>⟨∅,λa9 aX=>?_⟩⟩
    have ax:=au.upd0 (o:=.tup [V.str c,V.int v,V.ref t9]) aX;have aC:=ax _ _ (s9 _ _ h8);have kt : ∀a vs,upd H9 a9 (.tup [V.str c,V.int v,V.ref t9]) a>>vs->upd (upd H9 a9 (.tup [V.str c,V.int v,V.ref t9])) q (.lst (ys++[V.ref a9])) a>>vs:=λa vs e=>by rw[ah (aU e aC (by intro z;cases z))];exact e
    exact⟨ys,aC,aE (),_,ae,((((aG.keep λa vs e=>s9 _ _ e).keep λa vs e=>ax _ _ e).keep kt)).snoc (kt _ _ ae) (kt _ _ (ax _ _ h9)),λb o e=>(by rw[ah (ao e hq)];exact ax _ _ (s9 _ _ (an _ _ (s5 _ _ e))))⟩
   .have hb1:b=true:=by simpa using h
    rw[if_neg (λz=>qw.mp z (hb.mp hb1)),Ju]
    exact⟨ys,h8,aG,s5.trans an⟩
  .rintro σ H5 ⟨ys,v7,v8,rfl,h5,hf5,s5⟩
   rw[c_,ki] at hf5;rw[aW,sF];exact⟨ys,_,_,_,rfl,h5,hf5,s5⟩
 .rintro σ H4 ⟨ys,v6,v7,v8,rfl,h4,hf4,s4⟩
  rw[c_,ki] at hf4;ctx_has v
  exact k q ys H4 (gk aq hq) h4 hf4 (aq.trans s4)
theorem tD (T:Txt w K mg) (L:FnL K mg "looked_at" jB ["wish","first","now"]) (FJ:Fn P w K mg base "wish_of" 10 ["wish"] (Hi mg)) (FE:Fn P w K mg base "taken_by" 30 ["asked","first","now"] (yw mg)):Fn P w K mg base "looked_at" 32 ["wish","first","now"] (uL):=by
 ctx_has z uo <;> obtain⟨w0,f0,n0,X,fm,nm,rfl,hW,B,F,N,Z,k⟩:=h
 .rfl
 refine⟨_,(ai (az (aw FE (ac (aw FJ (ac (pvM 0) ag)) (ac (pvM 1) (ac (pvM 2) ag)))))),?_⟩
 ctx_has v
 refine⟨w0,X,rfl,hW,B,λp H1 hp ob Y=>?_⟩
 exact⟨p,f0,n0,X,fm,nm,rfl,ob,B,F.same Y,N.same Y,Z,λq ys H2 hq h2 hf s2=>k q ys H2 (gk Y hq) h2 hf (Y.trans s2)⟩
def qh:Sp:=λvs H Q _=>∃(w:Addr) (c:Str) (us:List Int) (W:Wi),vs=[.ref w]/\WX H w (.sa c us W)/\(bv W).length<=12/\∀q H',H q=none->H' q*>((c :: bv W).map V.str)->au H H'->Q (.ref q) H'
def rZ:Sp:=λvs H Q _=>∃(w:Addr) (W:Wi),vs=[.ref w]/\WS H w W/\(bv W).length<=12/\∀q H',H q=none->H' q*>((bv W).map V.str)->au H H'->Q (.ref q) H'
abbrev EL:=Fn P w K mg base "_law_cells_of" 1 ["_law_wish_here"] (rZ)
theorem ml (T:Txt w K mg) (L:FnL K mg "_law_cells_of" cj ["_law_wish_here"]) : @EL P w K mg base:=by
 ctx_has z iA <;> obtain⟨w0,W,rfl,F,hl,k⟩:=h
 .rfl
 refine⟨_,(af (bg (aG bM (aC aZ (pvM 0) aj) aJ) (ai (az (aR ud (bG (ac (aC aZ (pvM 0) aj) ag)) uM))) aM)
  (af (bg (aG bM (aC aZ (pvM 0) aj) aJ) (ai (az (ba (N:=["_law_a","_law_name"]) (nt:=2) (js:=[]) (aH ["_law_wish_here"] (ak cj).names) (bK K (aC aZ (pvM 0) aj)) (jf (n:=2) rfl (cF (ay 0) (cF (ay 1) iF))) gu bR (pvM 1)))) aM)
  (af (bg (aG bM (aC aZ (pvM 0) aj) aJ) (ai (az (aY iY T.b_list (ac (aC aZ (pvM 0) aj) ag)))) aM)
  (ai (az (aY iY T.b_list (ac (aC aZ (pvM 0) aj) ag))))))),?_⟩
 cases W with
 | un cs =>
  obtain⟨c,h1,h2⟩:=id F;ctx_has v h1 h2
  exact λq B=>k q _ B ae (au.upd0 B)
 | mn av cs lo hi =>
  obtain⟨am,c,h1,h2,Z⟩:=id F;ctx_has v h1 Z
  exact λq B=>k q _ B ae (au.upd0 B)
 | sm ts lo hi =>
  obtain⟨t,h1,as,h2,Z,h4⟩:=id F;have aa:as.length=ts.length:=by rw[<- Z,c_]
  have ad:ts.length<=12:=by rw[show bv (.sm ts lo hi)=ts.map (·.2) from rfl,c_] at hl;exact hl
  ctx_has v h1 h2
  refine λD hD=>cM aT (λi ys H'=>ys=((ts.take i).map λx=>V.str x.2)/\au H H'/\H' D*>ys) ⟨rfl,au.upd0 hD,ae⟩ (λi ys H' Y=>by obtain⟨_,s,_⟩:=Y;exact(.of (s _ _ h2))) ?_ ?_
  .rintro i x ys H1 hi hx ⟨rfl,s1,h1D⟩
   obtain⟨y,hy,rfl⟩ : ∃y,as[i]? = some y/\V.ref y.1=x:=by
    rw[ei] at hx;cases e:as[i]? with
    | none=>rw[e] at hx;cases hx
    | some u=>rw[e] at hx;exact⟨u,rfl,e8 hx⟩
   have e1:=s1 _ _ (h4 y (f_ hy));have ab:ts[i]? = some y.2:=by rw[<- Z,ei,hy];rfl
   ctx_has v e1
   refine⟨h1D,?_,by rw[i7,ab];simp,λb o e=>(by rw[ah (ao e hD)];exact s1 _ _ e),ae⟩
   rw[c_];exact aE (gt (x_ _ _) ())
  .rintro ys H1 ⟨rfl,s1,h1D⟩
   rw[c_,aa,ki] at h1D;exact k D H1 hD (by rw[h1D,show bv (.sm ts lo hi)=ts.map (·.2) from rfl,l_];rfl) s1
 | tb cs rows =>
  obtain⟨c,t,vs,h1,h2,_⟩:=id F;ctx_has v h1 h2
  exact λq B=>k q _ B ae (au.upd0 B)
 | wy cs ps es =>
  obtain⟨c,t,e,vs,h1,h2,_⟩:=id F;ctx_has v h1 h2
  exact λq B=>k q _ B ae (au.upd0 B)
 | bh cs gap =>
  obtain⟨c,h1,h2⟩:=id F;ctx_has v h1 h2
  exact λq B=>k q _ B ae (au.upd0 B)
theorem mz (T:Txt w K mg) (L:FnL K mg "_law_cells_of" cj ["_law_wish_here"]) (FM : @EL P w K mg base):Fn P w K mg base "_law_cells_of" 2 ["_law_wish_here"] (qh):=by
 ctx_has z iA <;> obtain⟨w0,c,us,W,rfl,hW,hl,k⟩:=h
 .rfl
 refine⟨_,(af (bg (aG bM (aC aZ (pvM 0) aj) aJ) (ai (az (aR ud (bG (ac (aC aZ (pvM 0) aj) ag)) (aw FM (ac (aC aZ (pvM 0) aj) ag))))) aM)
  (af (bg (aG bM (aC aZ (pvM 0) aj) aJ) (ai (az (ba (N:=["_law_a","_law_name"]) (nt:=2) (js:=[]) (aH ["_law_wish_here"] (ak cj).names) (bK K (aC aZ (pvM 0) aj)) (jf (n:=2) rfl (cF (ay 0) (cF (ay 1) iF))) gu bR (pvM 1)))) aM)
  (af (bg (aG bM (aC aZ (pvM 0) aj) aJ) (ai (az (aY iY T.b_list (ac (aC aZ (pvM 0) aj) ag)))) aM)
  (ai (az (aY iY T.b_list (ac (aC aZ (pvM 0) aj) ag))))))),?_⟩
 obtain⟨t,u,h1,h2,h3⟩:=id hW;ctx_has v h1
 refine⟨∅,λq1 F=>?_⟩
 have Y:=au.upd0 (o:=.lst [V.str c]) F;refine⟨_,Y _ _ h1,_,rfl,u,W,rfl,cE h3 λa xs e=>Y _ _ e,hl,λq2 H2 aa h2 Z=>?_⟩
 have B:=Y.trans Z;exact⟨q2,rfl,_,Z _ _ ae,_,h2,x8 (aE (by rw[c_];simp;omega)),λp hp=>k p _ (gk B hp) ae (B.upd_new hp)⟩
theorem BL {w:Addr} {X:Wx} {Q:VK} (B:WX H w X) (hl:(aI X).length<=12) (k : ∀q H',H q=none->H' q*>((aI X).map V.str)->au H H'->Q (.ref q) H'):rZ [.ref w] H Q E0\/qh [.ref w] H Q E0:=by
 cases X with
 | pl W=>exact .inl ⟨w,W,rfl,B,hl,k⟩
 | sa c us W=>exact .inr ⟨w,c,us,W,rfl,B,JM hl,k⟩
def mY (H:Hp) (kvs:List (Key × V)) (rm:Str->List Int):Prop:=∀x∈kvs,∃c a,x=(fy c,.ref a)/\H a>>((rm c).map V.int)
def GY:Sp:=λvs H Q _=>∃(d l r:Addr) (kvs:List (Key × V)) (rm:Str->List Int),vs=[.ref d,.ref r]/\aN H d l/\(r≠d/\r≠l)/\H r<*kvs/\(kvs.map (·.1)).Nodup/\kvs.length<=40/\mY H kvs rm/\(∀c,fy c∈kvs.map (·.1)->rm c≠[]/\(rm c).length<=4) /\
 ∀(q:Addr) (kv:List (Key × V)) (B:Str->List Int) H',H q=none->H' q<*kv->kv.map (·.1)=kvs.map (·.1)->mY H' kv B->(∀x∈kv,de x.2=true)->(∀c,fy c∈kvs.map (·.1)->B c≠[]/\(B c).Sublist (rm c))->aN H' d l->But d l H H'->Q (.ref q) H'
abbrev HI:=Fn P w K mg base "_law_now" 3 ["_law_deal_here","_law_rooms_here"] (GY)
theorem uJ (T:Txt w K mg) (L:FnL K mg "_law_now" jn ["_law_deal_here","_law_rooms_here"]) (Fa : @Dz0 P w K mg base) : @HI P w K mg base:=by
 ctx_has z vo <;> obtain⟨d,l,r,kvs,rm,rfl,D,nr,aa,a8,bu,bb,ba,k⟩:=h
 .rfl
 refine⟨_,(af (aB 2 fF)
  (af (zh (bp (Ho (pvM 1)) (ay 3) (af (fG 4 (N:=["_law_value","_law_deal_here"]) (nt:=1) (js:=[0]) (aH ["_law_deal_here","_law_rooms_here","_law_found","_law_name","_law_some_here"] (ak jn).names) (bK K (xC hu (pvM 1) (pvM 3))) (ay 0) aQ (dn (aG oB (aw Fa (ac (pvM 1) (ac aj ag))) aj)) (pvM 0))
  (af (bg (aG (qk (pR hr)) (pvM 4) (bG ag)) (ai (aB 4 (bG (ac (aC aZ (xC hu (pvM 1) (pvM 3)) (aw Fa (ac (pvM 0) (ac (aF iy T.b_len (ac (xC hu (pvM 1) (pvM 3)) ag)) ag)))) ag)))) aM)
  (ai (gV hu (pvM 2) (pvM 3) (aY cq T.b_tuple (ac (pvM 4) ag)) rfl))))))
  (ai (az (pvM 2))))),?_⟩
 ctx_has v
 intro q hq;have qr:r≠q:=ao aa hq
 have nq:=D.ne hq;have s0:au H (upd H q (.dK [])):=au.upd0 hq
 refine⟨r,kvs,s0 _ _ aa,?_⟩
 have a9:=s0 _ _ aa;ctx_has v a9
 intro ob;have D0:aN (upd (upd H q (.dK [])) r (.frz ob (.dK kvs))) d l:=(D.same s0).put nr.1 nr.2
 refine bS Bv (λj σ H'=>∃(kv:List (Key × V)) (nm:Str->List Int) (v3 v4:Option V),σ=[-d,-r,-q,v3,v4]/\H' q<*kv/\kv.map (·.1)=(kvs.take j).map (·.1)/\mY H' kv nm/\(∀x∈kv,de x.2=true)/\(∀c,fy c∈(kvs.take j).map (·.1)->nm c≠[]/\(nm c).Sublist (rm c))/\H' r=some (.frz ob (.dK kvs))/\aN H' d l/\(∀b o,b≠d->b≠l->b≠r->H b=some o->H' b=some o))
  ⟨[],rm,_,_,rfl,by rw[ah qr.symm];exact ae,rfl,λx Y=>by simp at Y,λx Y=>by simp at Y,λx Y=>by simp at Y,ae,D0,λb o _ _ hb e=>by rw[ah hb];exact s0 _ _ e⟩ (λj σ H' aX=>by obtain⟨_,_,_,_,_,_,_,_,_,_,h,_⟩:=aX;exact(h)) ?_ ?_
 .rintro j z σ H3 hj hz ⟨kv,nm,v3,v4,rfl,h3,hk3,hrk3,hpl3,hne3,h3r,D3,k3⟩
  rw[c_] at hj;obtain⟨kx,aq,rfl⟩ : ∃kx,kvs[j]? = some kx/\kV kx.1=z:=by
   rw[ei] at hz;cases e:kvs[j]? with
   | none=>rw[e] at hz;cases hz
   | some u=>rw[e] at hz;exact⟨u,rfl,e8 hz⟩
  have a7:=f_ aq;obtain⟨c,a,rfl,ha⟩:=bb kx a7;have ax:=jK a8 a7;have aI:=ba c (g7.mpr ⟨_,a7,rfl⟩);have aW:kvs.take (j+1)=kvs.take j++[(fy c,V.ref a)]:=by rw[i7,aq];rfl
  obtain⟨m0,bo,n0,bt,bh,bc,_⟩:=D.ex;have ab:=k3 a _ (aU ha bh (by intro z;cases z)) (aU ha bc (by intro z;cases z)) (aU ha aa (by intro z;cases z)) ha
  show(_:Prop)
  simp only[kV];have aV:fy c∉kv.map (·.1):=by
   rw[hk3];intro z;rw[<- List.take_append_drop j kvs,k9] at a8;obtain⟨_,_,hd⟩:=rb.mp a8;refine hd _ z (fy c) ?_ rfl
   rw[List.drop_eq_getElem_cons hj];have:kvs[j]=(fy c,V.ref a):=by have:=k6 hj;rw[aq] at this;exact(e8 this).symm
   rw[this];simp
  have aD : ∀(Z:Hp) (us:List Int) (t:Addr),us≠[]->us.Sublist (rm c)->aN Z d l->But d l H3 Z->Z t=none->∃F,upd Z t (.tup (us.map V.int)) q<*F/\F.length < ge/\∃ad,upd (upd Z t (.tup (us.map V.int))) q (.dK (bm F (fy c) (.ref t))) q<*ad/\ad.map (·.1)=(kvs.take (j+1)).map (·.1)/\∃ar,mY (upd (upd Z t (.tup (us.map V.int))) q (.dK (bm F (fy c) (.ref t)))) ad ar/\(∀x∈ad,de x.2=true)/\(∀c,fy c∈(kvs.take (j+1)).map (·.1)->ar c≠[]/\(ar c).Sublist (rm c))/\upd (upd Z t (.tup (us.map V.int))) q (.dK (bm F (fy c) (.ref t))) r=some (.frz ob (.dK kvs))/\aN (upd (upd Z t (.tup (us.map V.int))) q (.dK (bm F (fy c) (.ref t)))) d l/\(∀b o,b≠d->b≠l->b≠r->H b=some o->upd (upd Z t (.tup (us.map V.int))) q (.dK (bm F (fy c) (.ref t))) b=some o):=by
   intro Z us t bf aO D5 B5 ht;have s6:=au.upd0 (o:=.tup (us.map V.int)) ht;have a0:=s6 _ _ (B5 q _ nq.1 nq.2 h3);have aJ:=s6 _ _ (B5 r _ nr.1 nr.2 h3r);have aR:upd Z t (.tup (us.map V.int)) t>>(us.map V.int):=ae
   have D6:=D5.same s6;have B6:=B5.same s6;generalize upd Z t (.tup (us.map V.int))=H6 at s6 a0 aJ aR D6 B6 ⊢;have bn:kv.length<=40:=by have:=congrArg List.length hk3;simp at this;omega
   have kt : ∀a vs,H6 a>>vs->upd H6 q (.dK (bm kv (fy c) (.ref t))) a>>vs:=λa vs e=>by rw[ah (aU e a0 (by intro z;cases z))];exact e
   have ap:bm kv (fy c) (V.ref t)=kv++[(fy c,V.ref t)]:=by
    unfold bm;rw[if_neg];intro z;obtain⟨y,hy,e⟩:=w_.mp z;exact aV (g7.mpr ⟨y,hy,by simpa using e⟩)
   refine⟨kv,a0,aE (),_,ae,by rw[ap,k9,hk3,aW,k9];rfl,bY nm c us,λx Y=>?_,ko hpl3 rfl,λc' aL=>?_,by rw[ah qr];exact aJ,D6.put nq.1 nq.2,λb o h1 h2 h4 e=>by rw[ah (ao e hq)];exact B6 b _ h1 h2 (k3 b o h1 h2 h4 e)⟩
   .rw[ap] at Y
    rcases ja.mp Y with z | z
    .obtain⟨c',a',rfl,ha'⟩:=hrk3 x z
     have bj:c'≠c:=λe=>aV (g7.mpr ⟨_,z,by rw[e]⟩)
     exact⟨c',a',rfl,by rw[bZ _ _ bj];exact kt _ _ (B6.tup D3 ha')⟩
    .exact⟨c,t,e_.mp z,by rw[be];exact kt _ _ aR⟩
   .unfold bY
    split
    .rename_i e;rw[e];exact⟨bf,aO⟩
    .rename_i e
     rw[aW,k9] at aL;rcases ja.mp aL with z | z
     .exact hne3 c' z
     .exact absurd (by simpa using z) e
  ctx_has v Ic
  refine⟨ob,kvs,h3r,_,ax,a,rfl,_,ab,λD1 an=>?_⟩
  have am:=D3.ne an;refine cM aT (λi ys H'=>∃vs:List Int,ys=vs.map V.int/\vs.Sublist ((rm c).take i)/\H' D1*>ys/\aN H' d l/\But d l H3 H') ⟨[],rfl,List.nil_sublist _,ae,D3.new an,(But.refl H3).new an⟩ (λi ys H' aA=>by obtain⟨_,_,_,_,_,B⟩:=aA;exact(.of (B.tup D3 ab))) ?_ ?_
  .rintro i x ys H4 hi Y ⟨vs,rfl,hvs,h4,D4,B4⟩
   obtain⟨v,hv,rfl⟩ : ∃v,(rm c)[i]? = some v/\V.int v=x:=by
    rw[ei] at Y;cases e:(rm c)[i]? with
    | none=>rw[e] at Y;cases Y
    | some u=>rw[e] at Y;exact⟨u,rfl,e8 Y⟩
   have aP:(rm c).take (i+1)=(rm c).take i++[v]:=by rw[i7,hv];rfl
   have bs:vs.length<=4:=gt hvs.length_le (gt (x_ _ _) aI.2)
   ctx_has v
   refine br D4 ∅ ∅ λr5 Z bk bq D5 B5=>?_
   have h5:=B5 D1 _ am.1 am.2 h4;refine⟨r5,rfl,cO (λh=>?_) (λh=>?_)⟩
   .exact⟨h5,aE (by rw[c_];omega),vs++[v],by simp,by rw[aP];exact List.Sublist.append hvs (List.Sublist.refl _),ae,D5.put am.1 am.2,(B4.trans B5).put an⟩
   .exact⟨vs,rfl,by rw[aP];exact hvs.trans (List.sublist_append_left _ _),h5,D5,B4.trans B5⟩
  .rintro ys H4 ⟨vs,rfl,hvs,h4,D4,B4⟩
   rw[c_,ki] at hvs;refine⟨∅,λp5 bi=>?_⟩
   have s5:=au.upd0 (o:=.lst []) bi;have h5:=s5 _ _ h4;have aK:upd H4 p5 (.lst []) p5*>[]:=ae
   have D5:=D4.same s5;have B5:=B4.same s5;generalize upd H4 p5 (.lst [])=Z at h5 aK D5 B5 ⊢;refine⟨.list (vs.map y_),.list [],.lst (.of h5) (fR.ints _),.lst (.of aK) .nil,by unfold JB;exact lay_ints _,rfl,by unfold Kd;rw[depth_ints];decide,?_⟩
   rw[oE];refine⟨_,rfl,cO (λh0=>?_) (λh0=>?_)⟩
   .refine⟨ob,kvs,B5 r _ nr.1 nr.2 h3r,_,ax,ob,kvs,B5 r _ nr.1 nr.2 h3r,_,ax,a,rfl,_,B5.tup D3 ab,?_⟩
    rw[c_];have bv:=J5.mpr aI.1;refine br D5 () () λr6 H6 bd bw D6 B6=>?_
    obtain⟨n,rfl⟩:=x4 bd;have hn:n < (rm c).length:=()
    exact⟨a,rfl,_,rfl,_,B6.tup D5 (B5.tup D3 ab),_,cg (v:=V.int (rm c)[n]) (by rw[ei,k6 hn];rfl),∅,λp7 aS=>⟨_,ae,λt ht=>aD _ [(rm c)[n]] t (by simp) (List.singleton_sublist.mpr (v_ hn)) (D6.new aS) ((B5.trans B6).same (au.upd0 aS)) ht⟩⟩
   .exact⟨D1,rfl,_,h5,λt ht=>aD Z vs t (by simpa using h0) hvs D5 B5 ht⟩
 .rintro σ H3 ⟨kv,nm,v3,v4,rfl,h3,hk3,hrk3,hpl3,hne3,h3r,D3,k3⟩
  rw[c_,ki] at hk3 hne3;refine⟨⟨ob,h3r⟩,?_⟩
  ctx_has v
  refine k q kv nm _ hq (by rw[ah qr.symm];exact h3) hk3 (λx Y=>?_) hpl3 hne3 (D3.put nr.1 nr.2) (λb o h1 h2 e=>?_)
  .obtain⟨c',a',e',ha'⟩:=hrk3 x Y
   exact⟨c',a',e',by rw[ah (aU ha' h3r (by intro z;cases z))];exact ha'⟩
  .by_cases hb:b=r
   .subst hb;rw[ae,<- e,aa]
   .rw[ah hb];exact k3 b o h1 h2 hb e
theorem FY {w:Addr} {X:Wx} {Q:VK} (B:WX H w X) (L:szX X) (F:lj H f (aI X) g) (k : ∀H',au H H'->Q (.bl (gG X g)) H'):yy [.ref w,.ref f] H Q E0\/BW [.ref w,.ref f] H Q E0:=by
 cases X with
 | pl W=>exact .inl ⟨w,f,W,g,rfl,B,L,F,k⟩
 | sa c us W=>exact .inr ⟨w,f,c,us,W,g,rfl,B,L,F,k⟩
def prV (x:Str × Int):List V:=[.str x.1,.int x.2]
def prD (x:Str × Int):Kp:=.tuple [.str x.1,.int x.2]
def dS (H:Hp) (vs:List V) (ls:List (Str × Int)):Prop:=∃as:List (Addr × Str × Int),vs=as.map (λx=>V.ref x.1)/\ls=as.map (·.2)/\∀x∈as,H x.1>>(prV x.2)
theorem dS.keep (h:dS H vs ls) (k : ∀a xs,H a>>xs->H' a>>xs):dS H' vs ls:=by
 obtain⟨as,h1,h2,F⟩:=h;exact⟨as,h1,h2,λx B=>k _ _ (F x B)⟩
theorem dS.snoc {t:Addr} {l:Str × Int} (h:dS H vs ls) (B:H t>>(prV l)):dS H (vs++[.ref t]) (ls++[l]):=by
 obtain⟨as,h1,h2,L⟩:=h;refine⟨as++[(t,l)],by simp[h1],by simp[h2],λx F=>?_⟩
 rcases ja.mp F with z | z
 .exact L x z
 .rw[e_.mp z];exact B
theorem dS.app {us:List V} {ms:List (Str × Int)} (h:dS H us ls) (k:dS H vs ms):dS H (us++vs) (ls++ms):=by
 obtain⟨as,h1,h2,L⟩:=h;obtain⟨bs,Y,k2,B⟩:=k;exact⟨as++bs,by rw[h1,Y,k9],by rw[h2,k2,k9],λx F=>(ja.mp F).elim (L x) (B x)⟩
theorem dS.length {H:Hp} {vs:List V} {ls:List (Str × Int)} (h:dS H vs ls):vs.length=ls.length:=by
 obtain⟨as,h1,h2,B⟩:=h;rw[h1,h2,c_,c_]
theorem dS.reps (h:dS H vs ls):fR K H vs (ls.map prD):=by
 obtain⟨as,rfl,rfl,B⟩:=h
 induction as with
 | nil=>exact .nil
 | cons x as L=>exact .cons (.tup (.of (B x (by simp))) (.cons (.str _) (.cons (.int _) .nil))) (L λy F=>B y (by simp[F]))
theorem tH {x:Str × Int} (h:C_ x.1=true):(prD x).canLay0=true:=by simp[prD,JB,q_];exact h
theorem yn : ∀ls:List (Str × Int),(∀x∈ls,C_ x.1=true)->q_ (ls.map prD)=true
 | [],_=>rfl
 | x :: ls,h=>by
  rw[i9];unfold q_;rw[yn ls λy B=>h y (j7 _ B),tH (h x k7)]
  rfl
theorem vW (x:Str × Int):(prD x).depth<=1:=by simp[prD,Kd,Jh]
theorem Be (x y:Str × Int):y4 (prD x) (prD y)=decide (x=y):=by
 obtain⟨a,i⟩:=x;obtain⟨b,j⟩:=y;rw[ow];simp[prD,y4,Jn]
theorem DU (r:Str × Int) (B:List (Str × Int)):inD (prD r) (B.map prD)=decide (r∈B):=by
 unfold inD
 induction B with
 | nil=>rfl
 | cons q B F =>
  rw[i9,Kh,F,Be]
  by_cases h:q=r
  .simp[h]
  .simp[h]
   exact λe=>absurd e.symm h
theorem xo {t w:Addr} {l:Str × Int} {Q:VK} (L:H t>>(prV l)) (Y:H w*>vs) (F:dS H vs ls) (B:C_ l.1=true) (h1 : ∀x∈ls,C_ x.1=true) (q:Q (.bl (!decide (l∈ls))) H):yL K true (.ref t) (.ref w) H Q :=
 ⟨prD l,ls.map prD,.tup (.of L) (.cons (.str _) (.cons (.int _) .nil)),.lst (.of Y) F.reps,tH B,yn ls h1,gt (vW l) ∅,by rw[if_pos rfl,DU];exact q⟩
theorem xY (hK:X.K=K) (hu:X.A.units+102 < cLine):OpR X (n6 .NotIn) (yL K true):=by
 subst hK;exact qH hu
def HY:Sp:=λvs H Q _=>∃(w n:Addr) (X:Wx) (B:Str->List Int),vs=[.ref w,.ref n]/\WX H w X/\okO X/\(aI X).length<=5/\RF H n (aI X) B/\(∀c∈aI X,(B c).length<=4/\C_ c=true/\∀v∈B c,-2000000<=v/\v<=2000000)/\∀q ys H',H q=none->H' q*>ys->dS H' ys (mG X B (aI X))->au H H'->Q (.ref q) H'
abbrev HA:=Fn P w K mg base "_law_due" 6 ["_law_wish_here","_law_now_here"] (HY)
abbrev nz2:List Str:=["_law_wish_here","_law_now_here","_law_names_here","_law_there","_law_filling","_law_due_here","_law_name"]
theorem wt (T:Txt w K mg) (L:FnL K mg "_law_due" gI ["_law_wish_here","_law_now_here"]) (Fd : @EL P w K mg base) (Fl:Fn P w K mg base "_law_cells_of" 2 ["_law_wish_here"] (qh)) (Fm : @Ht P w K mg base) (Fo : @Dz5 P w K mg base) (Fy : @Dz6 P w K mg base) : @HA P w K mg base:=by
  ctx_has z wx <;> obtain⟨w0,n0,X,Y,rfl,hW,bj,bf,N,hg,k⟩:=h
  . rfl
  refine⟨_,(af (aB 2 (sL Fd Fl (ac (pvM 0) ag)))
    (af (aB 3 (bG ag))
    (af (bp (fX K (aw Fm (ac (pvM 2) (ac (pvM 1) ag)))) (ay 4) (ai (bg (dw (sL Fo Fy (ac (pvM 0) (ac (pvM 4) ag)))) (ai (bW (gN PySem.F.slot_list_extend PySem.F.type_list_extend nI (pvM 3) (ac (ba (N:=["_law_name","_law_filling"]) (nt:=1) (js:=[4]) (aH nz2 (ak gI).names) (fX K (pvM 2)) (ay 0) aQ bR (bT (ac (pvM 0) (ac (bx hu (pvM 1) (pvM 0)) ag)))) ag)))) aM)))
    (af (aB 5 (bG ag))
    (af (bp (fX K (pvM 2)) (ay 6) (ai (bW (gN PySem.F.slot_list_extend PySem.F.type_list_extend nI (pvM 5) (ac (ba (N:=["_law_value","_law_name","_law_there"]) (nt:=1) (js:=[6,3]) (aH nz2 (ak gI).names) (bK K (bx hu (pvM 1) (pvM 6))) (ay 0) aQ (dn (aG (xY (K:=K) rfl (AB hr)) (bT (ac (pvM 1) (ac (pvM 0) ag))) (pvM 2))) (bT (ac (pvM 1) (ac (pvM 0) ag)))) ag)))))
    (ai (az (pvM 5)))))))),?_⟩
  refine cV λR hR=>?_
  ctx_has v
  refine BL hW () λca H1 b9 aP s1=>?_
  have bk:=fE hW λa xs e=>s1 _ _ e
  have N1:=N.same s1;clear hW N;subst hR;refine cV λR hR=>?_
  ctx_has v
  refine⟨∅,λth aN=>?_⟩
  have ct:ca≠th:=ao aP aN
  have s2:=au.upd0 (o:=.lst []) aN;have aF:upd H1 th (.lst []) th*>[]:=ae
  have bi:=s1.trans s2;have aC:=s2 _ _ aP;have aO:=fE bk λa xs e=>s2 _ _ e
  have N2:=N1.same s2;generalize upd H1 th (.lst [])=H2 at s2 aF bi aC aO N2 ⊢;clear bk N1 aP;subst hR;refine cV λR hR=>?_
  ctx_has v
  obtain⟨kn,aa,ab⟩:=id N2;refine⟨ca,n0,aI X,kn,Y,rfl,aC,aa,ab,xg bj,bf,λc hc=>(hg c hc).1,λp xs H3 fp h3 fa b8 s3=>⟨p,rfl,xs,h3,?_⟩⟩
  have am:=s3 _ _ aF;have aL:=s3 _ _ aC;have aR:=fE aO λa xs e=>s3 _ _ e
  have N3:=N2.same s3;have bm:=bi.trans s3;have pt:p≠th:=λe=>by rw[e,aF] at fp;cases fp
  clear aO N2 aC aa ab;refine bS ck (λj σ H'=>∃(us:List V) (ps:List (Str × Int)) (v4:Option V),σ=[-w0,-n0,-ca,-th,v4,none,none]/\H' th*>us/\dS H' us ps/\ps.length<=5 * j/\(∀x∈ps,x.1∈aI X/\∃g,okF Y (aI X) g/\gG X g=true/\g x.1=x.2)/\(∀j',j' < j->∀z,xs[j']? = some z->∀g,cD H3 z (aI X) g->gG X g=true->∀c∈aI X,(c,g c)∈ps)/\(∀b o,b≠th->H3 b=some o->H' b=some o))
    ⟨[],[],_,rfl,am,⟨[],rfl,rfl,λx B=>by simp at B⟩,hH _,λx B=>by simp at B,λj' h=>absurd h (Nat.not_lt_zero _),λb o _ e=>e⟩ (λj σ H' aV=>by obtain⟨_,_,_,_,_,_,_,_,_,s⟩:=aV;exact(.of (s _ _ pt h3))) ?_ ?_
  . rintro j x σ H4 hj B ⟨us,ps,v4,rfl,h4,ap,bc,ad,a8,s4⟩
    obtain⟨g0,aZ,aD⟩:=fa.sound x (f_ B);obtain⟨ax,kx,rfl,bw,bs,bB⟩:=id aD;have dk : ∀b kv,H3 b<*kv->H4 b<*kv:=λb kv e=>s4 _ _ (aU e am (by intro z;cases z)) e
    have tk : ∀b vs,H3 b>>vs->H4 b>>vs:=λb kv e=>s4 _ _ (aU e am (by intro z;cases z)) e
    ctx_has v
    refine FY (fE aR tk) (EN bj) (C3 (aD.keep dk) (λc hc=>hc) (gt bf ∅) λc hc=>(hg c hc).2.2 _ (aZ c hc)) λH5 s5=>⟨_,rfl,cO (λhk=>?_) (λhk=>?_)⟩
    . have b1:=s5 _ _ (dk _ _ bw)
      have aW:=s5 _ _ (s4 _ _ ct aL);have bd:=s5 _ _ h4;refine⟨⟨_,bd⟩,_,aW,λD hD=>?_⟩
      refine cM ck (λi ys H'=>dS H' ys (((aI X).take i).map λc=>(c,g0 c))/\au H5 H'/\H' D*>ys) ⟨⟨[],rfl,rfl,λx B=>by simp at B⟩,au.upd0 hD,ae⟩ (λi ys H' bb=>by obtain⟨_,s,_⟩:=bb;exact(.of (s _ _ aW))) ?_ ?_
      . rintro i y ys H6 hi hy ⟨Z,s6,h6⟩
        rw[c_] at hi;obtain⟨c,a7,rfl⟩ : ∃c,(aI X)[i]? = some c/\V.str c=y:=by
          rw[ei] at hy;cases e:(aI X)[i]? with
          | none=>rw[e] at hy;cases hy
          | some Y=>rw[e] at hy;exact⟨Y,rfl,e8 hy⟩
        have ar:=f_ a7;have bv:=s6 _ _ b1;have b4:=bs c ar;have aA:=Z.length;rw[c_,IZ] at aA;ctx_has v bv b4
        refine⟨∅,λt ht=>?_⟩
        have s7:=au.upd0 (o:=.tup [V.str c,V.int (g0 c)]) ht;have h7:=s7 _ _ h6;have kt : ∀a vs,upd H6 t (.tup [V.str c,V.int (g0 c)]) a>>vs->upd (upd H6 t (.tup [V.str c,V.int (g0 c)])) D (.lst (ys++[V.ref t])) a>>vs:=λa vs e=>by rw[ah (aU e h7 (by intro z;cases z))];exact e
        refine⟨h7,aE (),?_,λb o e=>(by rw[ah (ao e hD)];exact s7 _ _ (s6 _ _ e)),ae⟩
        rw[i7,a7,k9];exact((Z.keep λa vs e=>s7 _ _ e).keep kt).snoc (l:=(c,g0 c)) (kt _ _ ae)
      . rintro ys H6 ⟨Z,s6,h6⟩
        rw[c_,ki] at Z;have a9:=s6 _ _ bd;have aA:=Z.length;have b7:=ap.length;rw[c_] at aA;have kt : ∀a vs,H6 a>>vs->upd H6 th (.lst (us++ys)) a>>vs:=λa vs e=>by rw[ah (aU e a9 (by intro z;cases z))];exact e
        refine⟨D,rfl,us,a9,ys,h6,gt (show _<=6000 by omega) ∅,_,ae,ps++(aI X).map λc=>(c,g0 c),((((ap.keep λa vs e=>s5 _ _ e).keep λa vs e=>s6 _ _ e).keep kt)).app (Z.keep kt),by simp;omega,λx B=>?_,λj' aJ z hz g a0 an c hc=>?_,λb o hb e=>by rw[ah hb];exact s6 _ _ (s5 _ _ (s4 _ _ hb e))⟩
        . rcases ja.mp B with z | z
          . exact ad x z
          . obtain⟨c,hc,rfl⟩:=g7.mp z
            exact⟨hc,g0,aZ,hk,rfl⟩
        . by_cases ej:j'=j
          . subst ej
            rw[B] at hz;cases hz;refine m7 _ (g7.mpr ⟨c,hc,?_⟩)
            rw[pT a0 aD c hc]
          . exact k4 _ (a8 j' () z hz g a0 an c hc)
    . refine⟨us,s5 _ _ h4,ps,ap.keep λa vs e=>s5 _ _ e,(),ad,λj' aJ z hz g a0 an=>?_,λb o hb e=>s5 _ _ (s4 _ _ hb e)⟩
      by_cases ej:j'=j
      . subst ej
        rw[B] at hz;cases hz;rw[vc (λc hc=>pT a0 aD c hc)] at an
        exact absurd an hk
      . exact a8 j' () z hz g a0 an
  rintro σ H4 ⟨us,ps,v4,rfl,h4,ap,bc,ad,a8,s4⟩
  have b3 : ∀c∈aI X,∀v,(!decide ((c,v)∈ps))=uQ X Y c v:=λc hc v=>by
    rw[ow,qw,Bool.not_eq_true',decide_eq_false_iff_not];refine not_congr ⟨λh=>(ad _ h).2,?_⟩
    rintro⟨g,h1,h2,rfl⟩
    obtain⟨z,hz,hf⟩:=fa.comp g h1;obtain⟨j',aJ,e'⟩:=uj hz;exact a8 j' aJ z (by rw[<- e'];simp) g hf h2 c hc
  have aS:au H H4:=λb o e=>s4 _ _ (ao (s1 _ _ e) aN) (bm _ _ e)
  have be:=s4 _ _ ct aL;obtain⟨kn,aa,ab⟩:=id N3;have tk : ∀b vs,H3 b>>vs->H4 b>>vs:=λb kv e=>s4 _ _ (aU e am (by intro z;cases z)) e
  have N4:RF H4 n0 (aI X) Y:=⟨kn,s4 _ _ (aU aa am (by intro z;cases z)) aa,ab.same tk⟩
  have bh : ∀x∈ps,C_ x.1=true:=λx B=>(hg _ (ad x B).1).2.1
  clear ad a8 fa aR N3 aa ab tk s4 aL h3 am bc bm pt fp;subst hR;ctx_has v
  refine⟨∅,λq hq=>?_⟩
  have s5:=au.upd0 (o:=.lst []) hq;refine⟨_,s5 _ _ be,?_⟩
  refine bS ck (λi σ H'=>∃(ys:List V) (v6:Option V),σ=[-w0,-n0,-ca,-th,v4,-q,v6]/\H' q*>ys/\dS H' ys (mG X Y ((aI X).take i))/\au H4 H')
    ⟨[],_,rfl,ae,⟨[],rfl,rfl,λx B=>by simp at B⟩,s5⟩ (λi σ H' aY=>by obtain⟨_,_,_,_,_,s⟩:=aY;exact(.of (s _ _ be))) ?_ ?_
  . rintro i x σ H6 hi B ⟨ys,v6,rfl,h6,Z,s6⟩
    obtain⟨c,a7,rfl⟩ : ∃c,(aI X)[i]? = some c/\V.str c=x:=by
      rw[ei] at B;cases e:(aI X)[i]? with
      | none=>rw[e] at B;cases B
      | some Y=>rw[e] at B;exact⟨Y,rfl,e8 B⟩
    have ar:=f_ a7;have bz:=hg c ar;have b0:(aI X).take (i+1)=(aI X).take i++[c]:=by rw[i7,a7];rfl
    have aA:=Z.length;have bA:=mw (X:=X) (rm:=Y) (cs:=(aI X).take i) λx B=>(hg x (F_ B)).1
    have b6:=x_ i (aI X);obtain⟨kn,aa,ab⟩:=N4.same s6;obtain⟨tc,hk,bo⟩:=ab c ar;have a9:=s6 _ _ h4;have bq:=ap.keep λa vs e=>s6 _ _ e
    ctx_has v aa hk bo
    refine⟨⟨_,h6⟩,λD hD=>?_⟩
    refine cM aT (λj zs H'=>dS H' zs (lF X Y c ((Y c).take j))/\au H6 H'/\H' D*>zs) ⟨⟨[],rfl,rfl,λx B=>by simp at B⟩,au.upd0 hD,ae⟩ (λj zs H' bn=>by obtain⟨_,s,_⟩:=bn;exact(.of (s _ _ bo))) ?_ ?_
    . rintro j y zs H7 hj hy ⟨aj,s7,h7⟩
      obtain⟨v,hv,rfl⟩ : ∃v,(Y c)[j]? = some v/\V.int v=y:=by
        rw[ei] at hy;cases e:(Y c)[j]? with
        | none=>rw[e] at hy;cases hy
        | some u=>rw[e] at hy;exact⟨u,rfl,e8 hy⟩
      have ed:lF X Y c ((Y c).take (j+1))=lF X Y c ((Y c).take j)++(if uQ X Y c v=true then[(c,v)] else[]):=by
        unfold lF;rw[i7,hv,List.filter_append,k9]
        congr 1
        show([v].filter λv=>uQ X Y c v).map _=_
        rw[sn]
        split <;> rfl
      have b2:=aj.length;have br:=my X Y c ((Y c).take j);have b5:=x_ j (Y c);ctx_has v
      refine⟨∅,λt1 bt=>?_⟩
      have s8:=au.upd0 (o:=.tup [V.str c,V.int v]) bt;have h8:=s8 _ _ h7;have g8:upd H7 t1 (.tup [V.str c,V.int v]) t1>>(prV (c,v)):=ae
      have aq:=s7.trans s8;have aK:=aj.keep λa vs e=>s8 _ _ e
      generalize upd H7 t1 (.tup [V.str c,V.int v])=H8 at h8 g8 aq aK ⊢;refine xo g8 (aq _ _ a9) (bq.keep λa vs e=>aq _ _ e) bz.2.1 bh ⟨_,rfl,?_⟩
      rw[b3 c ar,ed];refine cO (λh=>?_) (λh=>?_)
      . rw[if_pos h]
        refine⟨∅,λt2 bu=>?_⟩
        have s9:=au.upd0 (o:=.tup [V.str c,V.int v]) bu;have h9:=s9 _ _ h8;have kt : ∀a vs,upd H8 t2 (.tup [V.str c,V.int v]) a>>vs->upd (upd H8 t2 (.tup [V.str c,V.int v])) D (.lst (zs++[V.ref t2])) a>>vs:=λa vs e=>by rw[ah (aU e h9 (by intro z;cases z))];exact e
        exact⟨h9,aE (),((aK.keep λa vs e=>s9 _ _ e).keep kt).snoc (l:=(c,v)) (kt _ _ ae),λb o e=>(by rw[ah (ao e hD)];exact s9 _ _ (aq _ _ e)),ae⟩
      . rw[if_neg h,Ju]
        exact⟨aK,aq,h8⟩
    . rintro zs H7 ⟨aj,s7,h7⟩
      rw[c_,ki] at aj;have aX:=s7 _ _ h6;have b2:=aj.length;have br:=my X Y c (Y c);have kt : ∀a vs,H7 a>>vs->upd H7 q (.lst (ys++zs)) a>>vs:=λa vs e=>by rw[ah (aU e aX (by intro z;cases z))];exact e
      refine⟨D,rfl,ys,aX,zs,h7,x8 (aE ()),_,ae,?_,λb o e=>by rw[ah (ao e hq)];exact s7 _ _ (s6 _ _ e)⟩
      rw[b0,sF];exact((Z.keep λa vs e=>s7 _ _ e).keep kt).app (aj.keep kt)
  . rintro σ H6 ⟨ys,v6,rfl,h6,Z,s6⟩
    rw[c_,ki] at Z;ctx_has v
    exact k q ys H6 (gk aS hq) h6 Z (aS.trans s6)
def Gz:Sp:=λvs H Q _=>∃(a b:Addr) (ys us:List V) (ps:List (Str × Int)),vs=[.ref a,.ref b]/\H a*>ys/\H b*>us/\fv H ys ps/\dS H us ps/\ps.length<=40/\(∀x∈ps,C_ x.1=true)/\∀H',au H H'->Q (.bl true) H'
abbrev GZ:=Fn P w K mg base "_law_told" 1 ["_law_found","_law_due_here"] (Gz)
theorem sY (T:Txt w K mg) (L:FnL K mg "_law_told" ke ["_law_found","_law_due_here"]) : @GZ P w K mg base:=by
 ctx_has z tR <;> obtain⟨a,b,ys,us,ps,rfl,ha,hb,hF,Z,ar,ap,k⟩:=h
 .rfl
 refine⟨_,(af (bg (PW.pt (kJ (iP (dw (aF jX T.b_isinstance (ac (pvM 0) (ac (vv (T := "list") rfl T.b_list (by decide+kernel)) ag))))) (jM (aG zm (aF bO T.b_len (ac (pvM 0) ag)) (aF bO T.b_len (ac (pvM 1) ag)))))) (ai (az dz)) aM)
  (af (bp (dE rfl T.b_range (ac (aF bO T.b_len (ac (pvM 0) ag)) ag)) (ay 2) (af (bg (PW.pt (kJ (iP (dw (aF jX T.b_isinstance (ac (aC fI (pvM 0) (pvM 2)) (ac (vv (T := "tuple") rfl T.b_tuple (by decide+kernel)) ag))))) (kJ (aG zm (aF iy T.b_len (ac (aC fI (pvM 0) (pvM 2)) ag)) aj) (jM (iP (dw (aF jX T.b_isinstance (ac (aC aZ (aC fI (pvM 0) (pvM 2)) aj) (ac (vv (T := "tuple") rfl T.b_tuple (by decide+kernel)) ag))))))))) (ai (az dz)) aM)
  (ai (bg (PW.pt (kJ (aG (yN rfl (pR hr)) (cW sw (aC fI (pvM 0) (pvM 2)) fe (dF aj)) (aC fI (pvM 1) (pvM 2))) (kJ (iP (dw (aF jX T.b_isinstance (ac (aC aZ (aC fI (pvM 0) (pvM 2)) aj) (ac (vv (T := "int") rfl T.b_int (by decide+kernel)) ag))))) (jM (dw (aF jX T.b_isinstance (ac (aC aZ (aC fI (pvM 0) (pvM 2)) aj) (ac (vv (T := "bool") rfl T.b_bool (by decide+kernel)) ag)))))))) (ai (az dz)) aM))))
  (ai (az dz)))),?_⟩
 have ab:=hF.length;have Y:=Z.length;ctx_has v ha hb
 rw[if_neg (by rw[ab,Y];simp)]
 refine⟨(),(),?_⟩
 refine bS cZ (λi σ H'=>∃v2:Option V,σ=[-a,-b,v2]/\au H H') ⟨_,rfl,λb o e=>e⟩ (λ_ _ _ _=>o6) ?_ ?_
 .rintro i x σ H1 hi hx ⟨v2,rfl,s1⟩
  rw[aV] at hi;have am:i < ps.length:=()
  obtain⟨as,rfl,an,ad⟩:=id hF;obtain⟨bs,rfl,ao,aq⟩:=id Z;rw[c_] at ab Y;have F:i < as.length:=()
  have aa:i < bs.length:=()
  have e1:as[i].2.2=ps[i]:=by simp only[<- an,List.getElem_map]
  have e2:bs[i].2=ps[i]:=by simp only[ao,List.getElem_map]
  have hA:=(ad as[i] (v_ F)).1;obtain⟨ts,hT⟩:=(ad as[i] (v_ F)).2;have hB:=aq bs[i] (v_ aa);rw[e1] at hA;rw[e2] at hB;have ah:=ap ps[i] (v_ am);have a1:atI (as.map λx=>V.ref x.1) (i:Int)=some (.ref as[i].1):=cg (by rw[ei,k6 F];rfl)
  have a2:atI (bs.map λx=>V.ref x.1) (i:Int)=some (.ref bs[i].1):=cg (by rw[ei,k6 aa];rfl)
  have ak:x=V.int (i:Int):=by
   rw[jA ()] at hx
   cases hx;simp
  subst ak;have g1:=s1 _ _ ha;have g2:=s1 _ _ hb;have gA:=s1 _ _ hA;have gB:=s1 _ _ hB;have gT:=s1 _ _ hT;ctx_has v g1 a1 gA g2 a2 gT
  rw[if_neg ∅]
  intro p H2 h2 B;refine⟨_,B _ _ g2,_,a2,prD ps[i],prD ps[i],.tup (.of h2) (.cons (.str _) (.cons (.int _) .nil)),.tup (.of (B _ _ gB)) (.cons (.str _) (.cons (.int _) .nil)),tH ah,tH ah,gt (vW _) ∅,?_⟩
  rw[Be];refine⟨_,rfl,?_⟩
  rw[if_neg (by simp)]
  refine⟨_,B _ _ g1,_,a1,_,rfl,_,B _ _ gA,_,rfl,true,rfl,?_⟩
  rw[if_neg ∅]
  refine⟨_,B _ _ g1,_,a1,_,rfl,_,B _ _ gA,_,rfl,false,rfl,?_⟩
  rw[if_neg ∅]
  exact s1.trans B
 .rintro σ H1 ⟨v2,rfl,s1⟩
  ctx_has v
  exact k H1 s1
theorem wq : ∀{kvs:List (Key × V)} {k:Key} {v:V},bQ kvs k=some v->k∈kvs.map (·.1)
 | [],k,v,h=>by rw[eT] at h;cases h
 | (a,b) :: r,k,v,h=>by
  by_cases e:a=k
  .subst e;simp
  .rw[aW e] at h
   exact j7 _ (wq h)
theorem yc {w:Str} (h:fL w):C_ w=true:=by
 unfold C_;rw[Array.all_eq_true'];intro c B;have:=h.small c (by simpa using B)
 unfold dC at this;simp at this ⊢
 omega
theorem oN (F:(kvs.map (·.1)).Nodup) (L:mY H kvs rm) (kw : ∀c∈ws,fy c∈kvs.map (·.1)):aX H kvs ws rm:=λc Y=>by
 obtain⟨y,B,e⟩:=g7.mp (kw c Y);obtain⟨Z,a,rfl,h⟩:=L y B;cases e;exact⟨a,jK F B,h⟩
structure Rk (H:Hp) (ws:List Str) (kvs:List (Key × V)) (rm:Str->List Int):Prop where
 nk:(kvs.map (·.1)).Nodup
 kl:kvs.length<=20
 rk:mY H kvs rm
 kw : ∀c∈ws,fy c∈kvs.map (·.1)
 rl : ∀c,(rm c).length<=4
 ne : ∀c∈ws,rm c≠[]/\(rm c).Pairwise (· < ·)
 pl : ∀x∈kvs,de x.2=true
 bd : ∀c∈ws,∀v∈rm c,-2000000<=v/\v<=2000000
theorem Rk.keep (h:Rk H ws kvs rm) (k : ∀a vs,H a>>vs->H' a>>vs):Rk H' ws kvs rm :=
 ⟨h.nk,h.kl,λx B=>(by obtain⟨c,a,e,h1⟩:=h.rk x B;exact⟨c,a,e,k _ _ h1⟩),h.kw,h.rl,h.ne,h.pl,h.bd⟩
theorem Rk.rf (h:Rk H ws kvs rm):aX H kvs ws rm:=oN h.nk h.rk h.kw
theorem Rk.of {ps:List Int} (Y:aX H kvs ws rm) (L : ∀c∈ws,rm c≠[]/\((rm c).length:Int)<=4/\(rm c).Pairwise (· < ·)/\∀v∈rm c,v∈ps) (Z : ∀x∈kvs,de x.2=true) (F:kvs.length<=2 * ws.length/\iQ kvs ws) (hl:ws.length<=10) (hb : ∀x∈ps,-1000000<=x/\x<=1000000) : ∃rw,Rk H ws kvs rw/\∀c∈ws,rw c=rm c:=by
 refine⟨λc=>if c∈ws then rm c else[],⟨F.2.1,by have:=F.1;omega,λx hx=>?_,λc B=>?_,λc=>?_,λc B=>?_,Z,λc B v hv=>?_⟩,λc B=>if_pos B⟩
 .obtain⟨c,B,e⟩:=F.2.2 x hx
  obtain⟨a',e1,e2⟩:=Y c B;have h:=jK (k:=x.1) (v:=x.2) F.2.1 hx;rw[e,e1] at h;exact⟨c,a',by rw[<- e,e8 h],by rw[if_pos B];exact e2⟩
 .obtain⟨a',e1,_⟩:=Y c B
  exact wq e1
 .show(if c∈ws then rm c else[]).length<=4
  split
  .rename_i B;have:=(L c B).2.1;omega
  .simp
 .rw[if_pos B];exact⟨(L c B).1,(L c B).2.2.1⟩
 .rw[if_pos B] at hv
  have:=hb v ((L c B).2.2.2 v hv)
  omega
theorem E5 {X:Wx} (h:okX ws ns X) (hl:ws.length<=5):okO X:=by
 cases X with
 | pl W =>
  obtain⟨F,B⟩:=lM h;exact⟨⟨_,_,h⟩,gt (lL F B) hl⟩
 | sa c us W =>
  obtain⟨F,B⟩:=lM h.2.2.1;exact⟨⟨_,_,h.2.2.1⟩,gt (lL F B) hl,h.2.1.2.2,h.2.2.2⟩
theorem IG (B:di k A):A.units+10 < cLine:=by have:=B.un;omega
theorem F3 (T:Txt w K mg) (L:Fun K "law" "law" rQ f fd) (FD : @Dz1 P w K mg base) (Fa : @Dz0 P w K mg base) (FA : @Dz2 P w K mg base) (FC:Fn P w K mg base "_law_pool" 2 ["_law_deal_here"] (yX)) (Fz : @Dz3 P w K mg base) (FB:Fn P w K mg base "_law_wish" 15 ["_law_deal_here","_law_names_here","_law_rooms_here","_law_pool_here","_law_sorts"] (pM true)) (FH : @HI P w K mg base) (FG : @HA P w K mg base) (Fs:Fn P w K mg base "looked_at" 32 ["wish","first","now"] (uL)) (Fr : @GZ P w K mg base):ll P w K mg base CX0 45 f fd ["_law_script"] (yP K):=by
 have nd:=A1.nd;refine L.ok A1 (λvs H Q E h=>?_) (λcdv A outer s H vs Q E hr h=>?_) <;> obtain⟨a,ns,rfl,hS,bz,k⟩:=h
 .rfl
 have hu:=ED hr;refine⟨_,(af (aB 1 (aw FD (ac (pvM 0) (ac aj ag))))
  (af (aB 2 (aw FA (ac (pvM 1) (ac (aR bu aj (aw Fa (ac (pvM 1) (ac aj ag)))) ag))))
  (af (aB 3 (aw FC (ac (pvM 1) ag)))
  (af (aB 4 (aw Fz (ac (pvM 1) (ac (pvM 2) (ac (pvM 3) (ac aj ag))))))
  (af (aB 5 (aw FB (ac (pvM 1) (ac (pvM 2) (ac (pvM 4) (ac (pvM 3) (ac (bG (ac aJ (ac aJ (ac aJ (ac aJ (ac aJ (ac aJ (ac aJ ag)))))))) ag)))))))
  (af (aB 6 (aw FH (ac (pvM 1) (ac (pvM 4) ag))))
  (af (aB 7 (aw FG (ac (pvM 5) (ac (pvM 6) ag))))
  (af (aB 8 (bG (ac (aY ji T.b_dict (ac (pvM 4) ag)) (ac (aY ji T.b_dict (ac (pvM 6) ag)) ag))))
  (af (aB 9 (aw Fs (ac (pvM 5) (ac (aC fI (pvM 8) aj) (ac (aC fI (pvM 8) aj) ag)))))
  (af (bg (PW.pt (kJ (iP (dw (aw Fr (ac (pvM 9) (ac (pvM 7) ag))))) (jM (aG (Ea (IG hr)) (pvM 8) (bG (ac (pvM 4) (ac (pvM 6) ag))))))) (ai (az dz)) aM)
  (af (bW (A6 PySem.F.slot_list_clear PySem.F.type_list_clear AU (pvM 9)))
  (ai (az (aw Fr (ac (aw Fs (ac (pvM 5) (ac (pvM 4) (ac (pvM 6) ag)))) (ac (pvM 7) ag)))))))))))))))),?_⟩
 refine AD λR hR=>?_
 ctx_has v
 refine⟨a,ns,1,rfl,hS,bz,∅,∅,λd l H1 hd hl D1 b9=>?_⟩
 refine br D1 ∅ ∅ λr1 H2 bH bL D2 B2=>?_
 refine⟨_,rfl,d,l,_,rfl,D2,(),(),λca ws H3 bo ok aD h3 D3 B3=>?_⟩
 have aa:=D2.ne bo;refine⟨d,l,rfl,D3,λpa ps H4 b3 bm bn b6 aN D4 B4=>?_⟩
 have aq:=D3.ne b3;have h4:=B4 ca _ aa.1 aa.2 h3;refine⟨d,l,ca,pa,ws,ps,4,rfl,D4,aa,aq,h4,(),aN,bm,bn,∅,∅,λra kvs bN H5 bh bi ax am bB bs D5 B5=>?_⟩
 have ba:=D4.ne bh;have h5:=B5 ca _ aa.1 aa.2 h4;have bq:=B5 pa _ aq.1 aq.2 aN;have aD:1<=ws.length/\ws.length<=4:=()
 have b8:ws≠[]:=λe=>by rw[e] at aD;simp at aD
 obtain⟨rm,K5,bc⟩:=Rk.of ax am bB bs () b6
 have F5:jI H5 d l ca ra pa ws ps kvs rm:=⟨D5,aa,ba,aq,h5,bi,bq,K5.rf,b8,ok.nd,(),bm,bn.imp λh=>by omega,ok.nm,λc B=>⟨(K5.ne c B).1,gt (K5.rl c) ∅,λv hv=>b6 v ((am c B).2.2.2 v (by rw[<- bc c B];exact hv))⟩⟩
 clear hS b9 B2 B3 B4 B5 D1 D2 D3 D4 D5 hd hl h3 h4 aN bo b3 bh h5 bq bi ax am bc;subst hR;dsimp only;refine cV λR hR=>?_
 ctx_has v
 refine⟨∅,λso aE=>?_⟩
 have s6:=au.upd0 (o:=.lst ((jS true).map V.str)) aE;refine⟨d,l,ca,ra,pa,so,ws,ps,kvs,rm,rfl,F5.same s6,F5.D.ne aE,ae,λwa X H7 hW a7 _ D7 B7=>?_⟩
 have F7:=(F5.same s6).but D7 B7;have K7:Rk H7 ws kvs rm:=(K5.keep λa xs e=>s6 _ _ e).keep λa xs e=>B7.tup (F5.D.same s6) e
 have ar:=E5 a7 ()
 have Y:=Aj a7;have bD:(aI X).length<=5:=gt (lL (xg ar) Y) ()
 clear F5 K5 s6 aE B7 D7;subst hR;refine cV λR hR=>?_
 ctx_has v
 have bC : ∀c,fy c∈kvs.map (·.1)->c∈ws:=λc B=>by
  obtain⟨x,hx,e⟩:=g7.mp B;obtain⟨c',h1,h2⟩:=bs.2.2 x hx;rw[e] at h2;rw[Kq h2];exact h1
 refine⟨d,l,ra,kvs,rm,rfl,F7.D,ba,F7.hr,K7.nk,gt K7.kl ∅,K7.rk,λc B=>⟨(K7.ne c (bC c B)).1,K7.rl c⟩,λna kv nm H8 bQ an bb ay bt aW D8 B8=>?_⟩
 have F8:=F7.but D8 B8;have k8 : ∀a xs,H7 a>>xs->H8 a>>xs:=λa xs e=>B8.tup F7.D e
 have K8:=K7.keep k8;have W8:=fE hW k8;have N8:aX H8 kv ws nm:=oN (by rw[bb];exact K7.nk) ay λc B=>by rw[bb];exact K7.kw c B
 have i8:In1 (aI X) rm nm:=λc B=>(by
  obtain⟨h1,h2⟩:=aW c (K7.kw c (Y c B));exact⟨h1,h2,K7.rl c,(K7.ne c (Y c B)).2⟩)
 have FR:RF H8 ra (aI X) rm:=⟨kvs,F8.hr,λc B=>K8.rf c (Y c B)⟩
 have NR:RF H8 na (aI X) nm:=⟨kv,an,λc B=>N8 c (Y c B)⟩
 have aH : ∀c∈aI X,(nm c).length<=4/\C_ c=true/\∀v∈nm c,-2000000<=v/\v<=2000000:=λc B=>⟨(i8.ne c B).2.1,yc (ok.nm c (Y c B)),λv hv=>K8.bd c (Y c B) v ((i8 c B).2.1.subset hv)⟩
 have aF:=F8.hr;have b5:=K8.pl;clear F7 K7 hW k8 B8 F8 K8 N8 ay aW D8;subst hR;refine cV λR hR=>?_
 ctx_has v
 refine⟨wa,na,X,nm,rfl,W8,ar,bD,NR,aH,λdu ys H9 bP bp bj s9=>?_⟩
 subst hR;refine cV λR hR=>?_
 have g1:=s9 _ _ aF;have g2:=s9 _ _ an;ctx_has v g1
 intro q1 bk;have aQ:=au.upd0 (o:=.dK kvs) bk;refine⟨kv,aQ _ _ g2,λq2 aK=>⟨∅,λha ap=>?_⟩⟩
 have aV:=aQ.upd_new (o:=.dK kv) aK;have ak:=aV.upd_new (o:=.lst [V.ref q1,V.ref q2]) ap;have e1:upd (upd (upd H9 q1 (.dK kvs)) q2 (.dK kv)) ha (.lst [V.ref q1,V.ref q2]) q1<*kvs:=(au.upd0 ap) _ _ ((au.upd0 aK) _ _ ae)
 have e2:upd (upd (upd H9 q1 (.dK kvs)) q2 (.dK kv)) ha (.lst [V.ref q1,V.ref q2]) q2<*kv:=(au.upd0 ap) _ _ ae
 have e3:upd (upd (upd H9 q1 (.dK kvs)) q2 (.dK kv)) ha (.lst [V.ref q1,V.ref q2]) ha*>[V.ref q1,V.ref q2]:=ae
 generalize upd (upd (upd H9 q1 (.dK kvs)) q2 (.dK kv)) ha (.lst [V.ref q1,V.ref q2])=aL at ak e1 e2 e3 ⊢;have ad:=s9.trans ak;have b1:=fE W8 λa xs e=>ad _ _ e
 have aZ:=FR.same ad;have b2:=NR.same ad;have a0:=bj.keep λa xs e=>ak _ _ e
 have a8:=ak _ _ bp;have aA:=ad _ _ aF;have a9:=ad _ _ an;have FQ:RF aL q1 (aI X) rm:=by obtain⟨k0,z1,z2⟩:=aZ;rw[aA] at z1;cases z1;exact⟨_,e1,z2⟩
 have NQ:RF aL q2 (aI X) nm:=by obtain⟨k0,z1,z2⟩:=b2;rw[a9] at z1;cases z1;exact⟨_,e2,z2⟩
 have bx:(mG X nm (aI X)).length<=40:=gt (mw λc B=>(aH c B).1) ()
 have aU : ∀x∈mG X nm (aI X),C_ x.1=true:=λx hx=>by
  obtain⟨c,B,hx⟩:=mem_flatMap.mp hx;obtain⟨v,_,rfl⟩:=g7.mp hx;exact(aH c B).2.1
 clear s9 aQ aV ak bk aK ap FR NR W8 bj bp g1 g2 aF an ad;subst hR;refine cV λR hR=>?_
 ctx_has v e3
 refine⟨wa,q1,q2,X,rm,nm,rfl,b1,ar,FQ,NQ,i8,λfo zs bI bF be b4 aO=>?_⟩
 subst hR;refine cV λR hR=>?_
 ctx_has v
 refine⟨fo,du,zs,ys,_,rfl,be,aO _ _ a8,b4,a0.keep λa xs e=>aO _ _ e,bx,aU,λb7 aS=>⟨true,rfl,?_⟩⟩
 rw[if_neg ∅]
 refine⟨∅,λp5 bv=>?_⟩
 have Z:=(aO.trans aS).upd_new (o:=.lst [V.ref ra,V.ref na]) bv;have aP:=(au.upd0 (o:=.lst [V.ref ra,V.ref na]) bv) _ _ (aS _ _ be);have bf:upd b7 p5 (.lst [V.ref ra,V.ref na]) p5*>[V.ref ra,V.ref na]:=ae
 generalize upd b7 p5 (.lst [V.ref ra,V.ref na])=b0 at Z aP bf ⊢;refine⟨ha,rfl,p5,rfl,q1,q2,Z _ _ e3,ra,na,bf,kvs,Z _ _ e1,Z _ _ aA,b5,kv,Z _ _ e2,Z _ _ a9,bt,false,rfl,?_⟩
 rw[if_neg ∅]
 subst hR;refine cV λR hR=>?_
 ctx_has v zg
 refine⟨⟨_,aP⟩,zs,aP,?_⟩
 have ab : ∀b o,aL b=some o->upd b0 fo (.lst []) b=some o:=λb o e=>by rw[ah (ao e bF)];exact Z _ _ e
 generalize upd b0 fo (.lst [])=bO at ab ⊢;subst hR;ctx_has v
 refine⟨wa,ra,na,X,rm,nm,rfl,fE b1 λa xs e=>ab _ _ e,ar,aZ.same ab,b2.same ab,i8,λf2 z2 bK bJ bE bw aT=>?_⟩
 exact⟨f2,du,z2,ys,_,rfl,bE,aT _ _ (ab _ _ a8),bw,(a0.keep λa xs e=>ab _ _ e).keep λa xs e=>aT _ _ e,bx,aU,λbA bM=>k bA⟩
abbrev AT (K:fx) (x:Str) (f:Addr):Prop:=nsIn K m3 x=some (some (g9 f))
abbrev LK (K:fx) (f:Addr) (x:Str) (st:Stmt) (oc:Value) (od:Option Addr) (sl:Array (Option Value)) (kV B pm:Value) (F:Option Addr) (cd ct:Value):Prop:=K.lookup f=some ⟨oc,od,.func (fnOf x x (cU st) (cB st) (ak st) .none kV B pm F cd ct),sl⟩
abbrev CK (K:fx) (cd:Value) (x:Str):Prop:=codeIn K cd x=true
abbrev KK (K:fx) (f:Addr):Prop:=J6 K (g9 f)=true
abbrev NB (K:fx) (x:Str):Prop:=nsIn K m3 x=some none
theorem HJ {us:List α} (h:us.length=1) : ∃u0,us=[u0]:=by
 match us,h with
 | [u0],_=>exact⟨u0,rfl⟩
theorem GP {us:List α} (h:us.length=2) : ∃u0 B,us=[u0,B]:=by
 match us,h with
 | [u0,B],_=>exact⟨u0,B,rfl⟩
theorem Hu {us:List α} (h:us.length=3) : ∃u0 F B,us=[u0,F,B]:=by
 match us,h with
 | [u0,F,B],_=>exact⟨u0,F,B,rfl⟩
theorem Hh {us:List α} (h:us.length=4) : ∃u0 L F B,us=[u0,L,F,B]:=by
 match us,h with
 | [u0,L,F,B],_=>exact⟨u0,L,F,B,rfl⟩
theorem GL {us:List α} (h:us.length=5) : ∃u0 L F B Y,us=[u0,L,F,B,Y]:=by
 match us,h with
 | [u0,L,F,B,Y],_=>exact⟨u0,L,F,B,Y,rfl⟩
local macro_rules | `(tactic| ctx_has b1) => `(tactic| exact λ_ _ _ _ _ _ us hl => by obtain ⟨u0, ee⟩ := HJ hl; subst ee; rfl)
local macro_rules | `(tactic| ctx_has b2) => `(tactic| exact λ_ _ _ _ _ _ us hl => by obtain ⟨u0, u1, ee⟩ := GP hl; subst ee; rfl)
local macro_rules | `(tactic| ctx_has b3) => `(tactic| exact λ_ _ _ _ _ _ us hl => by obtain ⟨u0, u1, u2, ee⟩ := Hu hl; subst ee; rfl)
local macro_rules | `(tactic| ctx_has b4) => `(tactic| exact λ_ _ _ _ _ _ us hl => by obtain ⟨u0, u1, u2, u3, ee⟩ := Hh hl; subst ee; rfl)
local macro_rules | `(tactic| ctx_has b5) => `(tactic| exact λ_ _ _ _ _ _ us hl => by obtain ⟨u0, u1, u2, u3, u4, ee⟩ := GL hl; subst ee; rfl)
local macro_rules | `(tactic| ctx_has bb) => `(tactic| first | ctx_has b1 | ctx_has b2 | ctx_has b3 | ctx_has b4 | ctx_has b5)
def DF (K:fx) (x:Str) (st:Stmt) (f:Addr):Prop:=∃(oc:Value) (od F:Option Addr) (sl:Array (Option Value)) (kV B pm cd ct:Value),AT K x f/\LK K f x st oc od sl kV B pm F cd ct/\CK K cd x/\KK K f
theorem dfI {F:Option Addr} {kV B:Value} (a:nsIn K m3 x=some (some (g9 f))) (l:K.lookup f=some ⟨oc,od,.func (fnOf x x (cU st) (cB st) (ak st) .none kV B pm F cd ct),sl⟩) (c:codeIn K cd x=true) (k:J6 K (g9 f)=true):DF K x st f:=⟨_,_,_,_,_,_,_,_,_,a,l,c,k⟩
theorem dfL (X:K.In h) (G:h.Ns m3 mg) (d:DF K x st f) (B : ∀(kV doc pm:Value) (F:Option Addr) (cdv ct:Value) (us:List Value),us.length=ps.length->bindArgs (fnOf x x (cU st) (cB st) (ak st) .none kV doc pm F cdv ct) ⟨us,[]⟩=pure (ps.zip us):=by ctx_has bb):FnL K mg x st ps:=by
 obtain⟨_,_,_,_,_,_,_,_,_,a,l,c,k⟩:=d;exact E3 X G a l c k B
def DM (K:fx) (R:Addr->Prop) (x q:Str) (st:Stmt):Prop:=∃(f:Addr) (oc:Value) (od F:Option Addr) (sl:Array (Option Value)) (kV B pm cd ct:Value),R f/\K.lookup f=some ⟨oc,od,.func (fnOf x q (cU st) (cB st) (ak st) .none kV B pm F cd ct),sl⟩/\codeIn K cd q=true/\J6 K (g9 f)=true
theorem dmI {R:Addr->Prop} {q:Str} {F:Option Addr} {kV B:Value} (r:R f) (l:K.lookup f=some ⟨oc,od,.func (fnOf x q (cU st) (cB st) (ak st) .none kV B pm F cd ct),sl⟩) (c:codeIn K cd q=true) (k:J6 K (g9 f)=true):DM K R x q st:=⟨_,_,_,_,_,_,_,_,_,_,r,l,c,k⟩
theorem dmL {R:Addr->Prop} {q:Str} (d:DM K R x q st) (B : ∀(kV doc pm:Value) (F:Option Addr) (cdv ct:Value) (us:List Value),us.length=ps.length->bindArgs (fnOf x q (cU st) (cB st) (ak st) .none kV doc pm F cdv ct) ⟨us,[]⟩=pure (ps.zip us):=by ctx_has bb):cJ K R x q st ps:=by
 obtain⟨_,_,_,_,_,_,_,_,_,_,r,l,c,k⟩:=d;exact Ed r l c k B
theorem E8 {l:PySem.W.OpenLaw} (X:K.In h) (G:h.Ns m3 mg) (cJ:mg "law" = some (.ref fa))
  {b6:Addr}
  {ab:Addr}
  {F:Addr}
  {af:Addr}
  {B:Addr}
  {ah:Addr}
  {L:Addr}
  {ac:Addr}
  {bR:Addr} {bY bQ bO bM bA bP:Value} {ci bL:Option Addr} {cg:Array (Option Value)}
  {f0 f1 f2 f3 f4 f5 f6 f7 f8 f9 cC dV dr cL dc cO dR dy dQ cS cM dS dA di dd dJ dg df ea dX cH dw dp dm du:Addr}
  (bz:nsIn K m3 "Wish" = some (-b6))
  (bh:nsIn K m3 "Unlike" = some (-ab))
  (b4:Cls K ab)
  (aL:aP K ab "wish")
  (aE:aP K ab "cells")
  (b0:nsIn K m3 "Many" = some (-F))
  (bE:Cls K F)
  (bk:aP K F "wish")
  (aX:aP K F "among")
  (ba:aP K F "cells")
  (bt:aP K F "low")
  (bm:aP K F "high")
  (b7:nsIn K m3 "Sum" = some (-af))
  (bK:Cls K af)
  (bs:aP K af "wish")
  (bp:aP K af "terms")
  (bx:aP K af "low")
  (bu:aP K af "high")
  (bq:nsIn K m3 "Table" = some (-B))
  (b8:Cls K B)
  (bb:aP K B "wish")
  (aS:aP K B "cells")
  (aW:aP K B "rows")
  (b5:nsIn K m3 "Way" = some (-ah))
  (bJ:Cls K ah)
  (bv:aP K ah "wish")
  (bj:aP K ah "cells")
  (br:aP K ah "ends")
  (bi:aP K ah "leads")
  (bd:nsIn K m3 "Behind" = some (-L))
  (b3:Cls K L)
  (aN:aP K L "wish")
  (aG:aP K L "cells")
  (bf:aP K L "gap")
  (bw:nsIn K m3 "Same" = some (-ac))
  (bF:Cls K ac)
  (bn:aP K ac "wish")
  (bo:aP K ac "cell")
  (be:aP K ac "among")
  (aZ:aP K ac "inner")
  (d0:DF K "_law_draw" jD f0)
  (d1:DF K "_law_deal" gQ f1)
  (d2:DF K "_law_names" gh f2)
  (d3:DF K "_law_pool" jT f3)
  (d4:DF K "_law_rooms" gc f4)
  (d5:DF K "_law_some" jQ f5)
  (d6:DF K "is_between" iM f6)
  (d7:DF K "_law_kept" cp f7)
  (d8:DF K "_law_bounds" hV f8)
  (d9:DF K "_law_sum" gK f9)
  (dk:DF K "_law_rows" gW cC)
  (dW:DF K "_law_way" iS dV)
  (dB:DF K "_law_wish" fH dr)
  (cX:DF K "_law_fillings" fW cL)
  (bg:DM K (gp K b6 "__init__") "__init__" "Wish.__init__" bD)
  (c7:DM K (Mk K L) "__init__" "Behind.__init__" eU)
  (cf:DM K (aO K L "may_keep") "may_keep" "Behind.may_keep" dj)
  (c5:DM K (aO K L "may_break") "may_break" "Behind.may_break" cR)
  (cm:DM K (Mk K B) "__init__" "Table.__init__" fk)
  (cv:DM K (aO K B "has_room") "has_room" "Table.has_room" dH)
  (c1:DM K (aO K B "rows_in") "rows_in" "Table.rows_in" eh)
  (cw:DM K (aO K B "may_keep") "may_keep" "Table.may_keep" fA)
  (cz:DM K (aO K B "may_break") "may_break" "Table.may_break" eQ)
  (bU:DM K (Mk K ah) "__init__" "Way.__init__" gv)
  (cy:DM K (aO K ah "states_behind") "states_behind" "Way.states_behind" dP)
  (cn:DM K (aO K ah "last_states") "last_states" "Way.last_states" eX)
  (bV:DM K (aO K ah "may_keep") "may_keep" "Way.may_keep" eS)
  (ca:DM K (aO K ah "may_break") "may_break" "Way.may_break" dZ)
  (bX:DM K (Mk K af) "__init__" "Sum.__init__" gx)
  (dL:DF K "parts_of" jl dc)
  (dN:DF K "spans_of" lc cO)
  (c4:DM K (aO K af "may_end_well") "may_end_well" "Sum.may_end_well" eI)
  (ce:DM K (aO K af "sums_with") "sums_with" "Sum.sums_with" fN)
  (cu:DM K (aO K af "sums_kept") "sums_kept" "Sum.sums_kept" fP)
  (cb:DM K (aO K af "may_keep") "may_keep" "Sum.may_keep" gD)
  (co:DM K (aO K af "may_break") "may_break" "Sum.may_break" fS)
  (cr:DM K (Mk K ab) "__init__" "Unlike.__init__" eY)
  (bW:DM K (aO K ab "may_break") "may_break" "Unlike.may_break" eL)
  (dE:DF K "finds_value" da dR)
  (c6:DM K (aO K ab "may_keep") "may_keep" "Unlike.may_keep" ff)
  (c3:DM K (Mk K F) "__init__" "Many.__init__" fM)
  (c8:DM K (aO K F "fewest") "fewest" "Many.fewest" cY)
  (c0:DM K (aO K F "most") "most" "Many.most" eN)
  (ck:DM K (aO K F "may_keep") "may_keep" "Many.may_keep" fU)
  (bZ:DM K (aO K F "may_break") "may_break" "Many.may_break" ft)
  (de:DF K "plain_wish_of" fO dy)
  (bT:DM K (Mk K ac) "__init__" "Same.__init__" fQ)
  (c2:DM K (aO K ac "may_be_among") "may_be_among" "Same.may_be_among" cK)
  (cc:DM K (aO K ac "may_be_none_of_them") "may_be_none_of_them" "Same.may_be_none_of_them" bN)
  (cq:DM K (aO K ac "may_keep") "may_keep" "Same.may_keep" fV)
  (cN:DF K "wish_of" oa dQ)
  (dT:DF K "plain_cells_of" dD cS)
  (cA:DF K "cells_of" ly cM)
  (c9:DF K "with_room" jU dS)
  (dq:DF K "room_and" iU dA)
  (dn:DF K "rooms_of" jg di)
  (cE:DF K "missing" kB dd)
  (dh:DF K "missing_of" iI dJ)
  (dF:DF K "widened_at" iH dg)
  (dv:DF K "widened" nv df)
  (cF:DF K "clause_against" dI ea)
  (cQ:DF K "taken_by" lA dX)
  (dz:DF K "looked_at" jB cH)
  (dM:DF K "_law_cells_of" cj dw)
  (cD:DF K "_law_now" jn dp)
  (cP:DF K "_law_due" gI dm)
  (cI:DF K "_law_told" ke du)
  (dl:AT K "law" bR) (cW:LK K bR "law" rQ bY ci cg bQ bO bM bL bA bP) (dO:CK K bA "law") (cG:KK K bR)
  (z0:NB K "len")
  (z1:NB K "max")
  (z2:NB K "min")
  (z3:NB K "sum")
  (z4:NB K "list")
  (z5:NB K "reversed")
  (z6:NB K "range")
  (z7:NB K "isinstance")
  (z8:NB K "all")
  (z9:NB K "any")
  (dC:NB K "sorted")
  (cZ:NB K "dict")
  (cT:NB K "tuple")
  (db:NB K "bool")
  (dG:NB K "zip")
  (eb:NB K "set")
  (dt:NB K "int")
  (cV:NB K "enumerate") :
  ∃fd:FuncData,(∀(s:Shared) (v:Value),BindsTo s fd ⟨[v],[]⟩ [("_law_script",v)])/\∀base:Heap,K.In base->base.Ns m3 mg->ll l.prog w K mg base CX0 45 fa fd ["_law_script"] (yP K):=by
 have e:=cJ.symm.trans (mg_of X G dl);cases e;have bC:=fJ (mg_of X G bz);subst bC;have b1:=fJ (mg_of X G bh);subst b1;have bB:=fJ (mg_of X G b0);subst bB;have bH:=fJ (mg_of X G b7);subst bH;have b9:=fJ (mg_of X G bq);subst b9;have bI:=fJ (mg_of X G b5);subst bI;have b2:=fJ (mg_of X G bd);subst b2;have bG:=fJ (mg_of X G bw);subst bG;have T:Txt w K mg:=⟨t_ X G z0,t_ X G z1,t_ X G z2,t_ X G z3,t_ X G z4,t_ X G z5,t_ X G z6,t_ X G z7,t_ X G z8,t_ X G z9,t_ X G dC,t_ X G cZ,t_ X G cT,t_ X G db,t_ X G dG,t_ X G eb,t_ X G dt,t_ X G cV,mg_of X G bh,b4,aL,aE,mg_of X G b0,bE,bk,aX,ba,bt,bm,mg_of X G b7,bK,bs,bp,bx,bu,mg_of X G bq,b8,bb,aS,aW,mg_of X G b5,bJ,bv,bj,br,bi,mg_of X G bd,b3,aN,aG,bf,mg_of X G bw,bF,bn,bo,be,aZ,mg_of X G bz⟩
 have L7:FnL K mg "_law_kept" cp ["_law_wish_here","_law_filling"]:=dfL X G d7
 have bS:FnL K mg "_law_wish" fH ["_law_deal_here","_law_names_here","_law_rooms_here","_law_pool_here","_law_sorts"]:=dfL X G dB
 have dU:FnL K mg "finds_value" da ["cell","rooms","holders","tried"]:=dfL X G dE
 have cx:FnL K mg "_law_cells_of" cj ["_law_wish_here"]:=dfL X G dM
 refine⟨fnOf "law" "law" (cU rQ) (cB rQ) (ak rQ) .none bQ bO bM bL bA bP,λs v=>.of_eq rfl,λbase _ _=>?_⟩
 have Fa:=tU (P:=l.prog) (w:=w) (base:=base) T (dfL X G d0);have FD:=tZ (P:=l.prog) (w:=w) (base:=base) T (dfL X G d1);have FA:=re (P:=l.prog) (w:=w) (base:=base) T (dfL X G d2) Fa;have FC:=ua (P:=l.prog) (w:=w) (base:=base) T (dfL X G d3) Fa;have Fz:=rM (P:=l.prog) (w:=w) (base:=base) T (dfL X G d4) Fa;have Ff:=um (P:=l.prog) (w:=w) (base:=base) T (dfL X G d5) Fa;have Fp:=rB (P:=l.prog) (w:=w) (base:=base) T (dfL X G d6);have Fo:=rF (P:=l.prog) (w:=w) (base:=base) T L7;have Fy:=rC (P:=l.prog) (w:=w) (base:=base) T L7 Fo;have Ft:=qt (P:=l.prog) (w:=w) (base:=base) T (dfL X G d8) Fa;have Fu:=wB (P:=l.prog) (w:=w) (base:=base) T (dfL X G d9) Fa Ft;have Fq:=uc (P:=l.prog) (w:=w) (base:=base) T (dfL X G dk) Fa;have Fv:=uH (P:=l.prog) (w:=w) (base:=base) T (dfL X G dW) Fa;have FB:Fn l.prog w K mg base "_law_wish" 15 ["_law_deal_here","_law_names_here","_law_rooms_here","_law_pool_here","_law_sorts"] (pM true):=(mK (n:=4) (h:=true) T bS Fa Ff Fu Fq Fv (by unfold pN;rw[if_pos rfl];exact mK (n:=0) (h:=false) T bS Fa Ff Fu Fq Fv (by unfold pN;rw[if_neg jc];exact Ck bS))).mono ∅
 have Fm:=nh (P:=l.prog) (w:=w) (base:=base) T (dfL X G cX);have aC:=mH (P:=l.prog) (w:=w) (base:=base) T (dmL bg);have a7:=kS (P:=l.prog) (w:=w) (base:=base) T (dmL c7) aC;have Y:=lq (P:=l.prog) (w:=w) (base:=base) T (dmL cf);have ay:=kE (P:=l.prog) (w:=w) (base:=base) T (dmL c5);have aH:=mD (P:=l.prog) (w:=w) (base:=base) T (dmL bg);have aI:=mi (P:=l.prog) (w:=w) (base:=base) T (dmL cm) aH;have aA:=ma (P:=l.prog) (w:=w) (base:=base) T (dmL cv);have an:=nO (P:=l.prog) (w:=w) (base:=base) T (dmL c1) aA;have aa:=lX (P:=l.prog) (w:=w) (base:=base) T (dmL cw) an;have a0:=lv (P:=l.prog) (w:=w) (base:=base) T (dmL cz) an;have aF:=lT (P:=l.prog) (w:=w) (base:=base) T (dmL bg);have aY:=pj (P:=l.prog) (w:=w) (base:=base) T (dmL bU) aF;have aq:=ka (P:=l.prog) (w:=w) (base:=base) T (dmL cy);have am:=lh (P:=l.prog) (w:=w) (base:=base) T (dmL cn) aq;have ag:=pk (P:=l.prog) (w:=w) (base:=base) T (dmL bV) am;have aQ:=nB (P:=l.prog) (w:=w) (base:=base) T (dmL ca) am;have aD:=lS (P:=l.prog) (w:=w) (base:=base) T (dmL bg);have bc:=pH (P:=l.prog) (w:=w) (base:=base) T (dmL bX) aD;have Fh:=ww (P:=l.prog) (w:=w) (base:=base) T (dfL X G dL);have Fg:=uR (P:=l.prog) (w:=w) (base:=base) T (dfL X G dN) Fh;have ax:=kG (P:=l.prog) (w:=w) (base:=base) T (dmL c4);have aR:=nW (P:=l.prog) (w:=w) (base:=base) T (dmL ce) ax;have aU:=nj (P:=l.prog) (w:=w) (base:=base) T (dmL cu) Fg Fh aR;have aj:=pB (P:=l.prog) (w:=w) (base:=base) T (dmL cb) aU;have aV:=oz (P:=l.prog) (w:=w) (base:=base) T (dmL co) Fg Fp;have aB:=mJ (P:=l.prog) (w:=w) (base:=base) T (dmL bg);have az:=lx (P:=l.prog) (w:=w) (base:=base) T (dmL cr) aB;have aw:=kD (P:=l.prog) (w:=w) (base:=base) T (dmL bW);have Fe:Fn l.prog w K mg base "finds_value" 21 ["cell","rooms","holders","tried"] (kA 20):=vE T dU 20
 have Z:=kR (P:=l.prog) (w:=w) (base:=base) T (dmL c6) Fe;have aJ:=mv (P:=l.prog) (w:=w) (base:=base) T (dmL bg);have aM:=ou (P:=l.prog) (w:=w) (base:=base) T (dmL c3) aJ;have ar:=pZ (P:=l.prog) (w:=w) (base:=base) T (dmL c8);have aK:=tJ (P:=l.prog) (w:=w) (base:=base) T (dmL c0);have ad:=nw (P:=l.prog) (w:=w) (base:=base) T (dmL ck) ar aK;have a9:=mj (P:=l.prog) (w:=w) (base:=base) T (dmL bZ) ar aK;have Fb:=on (P:=l.prog) (w:=w) (base:=base) T (dfL X G de) az aM bc aI aY a7;have a8:=lE (P:=l.prog) (w:=w) (base:=base) T (dmL bg);have aT:=nJ (P:=l.prog) (w:=w) (base:=base) T (dmL bT) a8 Fb;have ap:=jY (P:=l.prog) (w:=w) (base:=base) T (dmL c2);have ai:=gi (P:=l.prog) (w:=w) (base:=base) T (dmL cc);have ao:=nA (P:=l.prog) (w:=w) (base:=base) T (dmL cq) ap ai Z ad aj aa ag Y aw a9 aV a0 aQ ay;have FJ:=xy (P:=l.prog) (w:=w) (base:=base) T (dfL X G cN) Fb aT;have Fj:=mI (P:=l.prog) (w:=w) (base:=base) T (dfL X G dT);have Fi:=uI (P:=l.prog) (w:=w) (base:=base) T (dfL X G cA) Fj;have Fc:=ur (P:=l.prog) (w:=w) (base:=base) T (dfL X G c9);have FF:=wF (P:=l.prog) (w:=w) (base:=base) T (dfL X G dq);have FI:=vC (P:=l.prog) (w:=w) (base:=base) T (dfL X G dn);have FL:=xI (P:=l.prog) (w:=w) (base:=base) T (dfL X G cE);have Fw:=rG (P:=l.prog) (w:=w) (base:=base) T (dfL X G dh) FL;have Fx:=rJ (P:=l.prog) (w:=w) (base:=base) T (dfL X G dF) Fc FF Z ad aj aa ag Y ao;have FK:=xA (P:=l.prog) (w:=w) (base:=base) T (dfL X G dv) Fx;have Fk:=lN (P:=l.prog) (w:=w) (base:=base) T (dfL X G cF) Fi FK Fw;have FE:=vj (P:=l.prog) (w:=w) (base:=base) T (dfL X G cQ) Fi FI Fc Fk Z ad aj aa ag Y ao;have Fs:=tD (P:=l.prog) (w:=w) (base:=base) T (dfL X G dz) FJ FE;have Fd:=ml (P:=l.prog) (w:=w) (base:=base) T cx;have Fl:=mz (P:=l.prog) (w:=w) (base:=base) T cx Fd;have FH:=uJ (P:=l.prog) (w:=w) (base:=base) T (dfL X G cD) Fa;have FG:=wt (P:=l.prog) (w:=w) (base:=base) T (dfL X G cP) Fd Fl Fm Fo Fy;have Fr:=sY (P:=l.prog) (w:=w) (base:=base) T (dfL X G cI);exact F3 T (qc cW dO cG) FD Fa FA FC Fz FB FH FG Fs Fr
theorem Ip {l:PySem.W.OpenLaw} {q:Program} {d:DefRec} {K:Params->fx} (hn:l.most=some 63) (B:d.params.defaults=[])
  (hY : ∀(w:World) (h:Heap),YP w h->(K w.params).In h)
  (F : ∀(w:World) (mg:Str->Option Value) (fa:Addr) (h:Heap),(K w.params).In h->h.Ns m3 mg->mg d.name=some (.ref fa) ->
   ∃fd:FuncData,(∀(s:Shared) (u:Value),BindsTo s fd ⟨[u],[]⟩ [("_law_script",u)])/\∀base:Heap,(K w.params).In base->base.Ns m3 mg->ll l.prog w (K w.params) mg base CX0 45 fa fd ["_law_script"] (yP (K w.params))) :
  PySem.W.WalkO q loose XP YP l.row.toRowW d [] (λf vs=>PySem.call f vs) :=
 L2.En (n:=63) (k:=45) (x := "_law_script") (CX:=λ_=>CX0) (sp:=λw=>yP (K w.params)) hn ∅ B ⟨rfl,∅,∅⟩ hY F (λ_ _ a ns hl _ L=>⟨a,ns,rfl,L,hl,λ_=>rfl⟩) λ_ _ _ _ _ z=>z
end Lw
variable {W:Lw.Wi} {dat:Lw.jv}
open PySem PySem.W PyProof.Rows
local macro_rules | `(tactic| ctx_has kj $ids*) => `(tactic| ($[case $ids:ident => (change _ = _; k_is)];*))
local macro_rules | `(tactic| ctx_has kc $ids*) => `(tactic| ($[case $ids:ident => (constructor; (all_goals k_is))];*))
local macro_rules | `(tactic| ctx_has km $ids*) => `(tactic| ($[case $ids:ident => (refine' Lw.dmI ⟨?a, ?i, ?k⟩ ?l ?c ?k; (case a => k_is); (case i => k_is); (case l => k_is); (case c => k_is); (case k => k_is))];*))
local macro_rules | `(tactic| ctx_has kn $ids*) => `(tactic| ($[case $ids:ident => (refine' Lw.dmI ⟨?m, ?a, ?i, ?n⟩ ?l ?c ?k; (case m => k_is); (case a => k_is); (case i => k_is); (case n => k_is); (case l => k_is); (case c => k_is); (case k => k_is))];*))
local macro_rules | `(tactic| ctx_has kq $ids*) => `(tactic| ($[case $ids:ident => (refine' Lw.dmI ⟨?s, ?r, ?a, ?k⟩ ?l ?c ?k; (case s => k_is); (case r => k_is); (case a => k_is); (case l => k_is); (case c => k_is); (case k => k_is))];*))
local macro_rules | `(tactic| ctx_has kk) => `(tactic| (refine' Lw.dfI ?a ?l ?c ?k; (case a => k_is); (case l => k_is); (case c => k_is); (case k => k_is)))
local macro_rules | `(tactic| ctx_has kd $ids*) => `(tactic| ($[case $ids:ident => ctx_has kk];*))
local macro_rules | `(tactic| o_head $H) => do
  let hw:=Lean.mkIdent `hw
  let hc:=Lean.mkIdent `hc
  `(tactic| (refine holds_open (q:=Lw.jr) (hY:=Hook.of $H) (hYk:=Hook.keeps $H) (YP:=Hook.says $H) (XP:=XL Lw.jr JV) (Xt:=Lw.hX)
                Lw.hl (λs e=>xl_of s (Bool.and_eq_true_iff.mp e).1) XL.keeps (by rfl) (by rfl) (by rfl)
                (λs e=>recFacts_of (Bool.and_eq_true_iff.mp e).2) (by rfl) (by assumption) (by decide+kernel)
                ⟨rfl,rfl,rfl,rfl,rfl,by decide+kernel⟩ ?$hw ?$hc))
set_option maxHeartbeats 0 in
theorem PySem.Challenge.cw_seekhall_k32_values_taken_away_holds : PySem.Challenge.rw_seekhall_k32_values_taken_away.Holds := by
  w_on;refine PySem.W.holds_law Lw.wsd (λsaid=>?_);o_head (kHook Lw.Ew.heap_1 Lw.hAs Lw.hAe);(case hw=>w_witness2)
  k_fill
  refine Lw.Ip (l:=PySem.Challenge.rw_seekhall_k32_values_taken_away) rfl rfl (λw h Y=>PySem.W.kIn_of Y) ?F
  case F =>
    intro w mg fa h KX G hmg
    refine' Lw.E8 KX G hmg ?aC_Wish ?aC_Unlike ?cl_Unlike ?nf_Unlike_wish ?nf_Unlike_cells ?aC_Many ?cl_Many ?nf_Many_wish ?nf_Many_among ?nf_Many_cells ?nf_Many_low ?nf_Many_high ?aC_Sum ?cl_Sum ?nf_Sum_wish ?nf_Sum_terms ?nf_Sum_low ?nf_Sum_high ?aC_Table ?cl_Table ?nf_Table_wish ?nf_Table_cells ?nf_Table_rows ?aC_Way ?cl_Way ?nf_Way_wish ?nf_Way_cells ?nf_Way_ends ?nf_Way_leads ?aC_Behind ?cl_Behind ?nf_Behind_wish ?nf_Behind_cells ?nf_Behind_gap ?aC_Same ?cl_Same ?nf_Same_wish ?nf_Same_cell ?nf_Same_among ?nf_Same_inner ?d0 ?d1 ?d2 ?d3 ?d4 ?d5 ?d6 ?d7 ?d8 ?d9 ?d10 ?d11 ?d12 ?d13 ?mc14 ?mi15 ?mm16 ?mm17 ?mi18 ?mm19 ?mm20 ?mm21 ?mm22 ?mi23 ?mm24 ?mm25 ?mm26 ?mm27 ?mi28 ?d29 ?d30 ?mm31 ?mm32 ?mm33 ?mm34 ?mm35 ?mi36 ?mm37 ?d38 ?mm39 ?mi40 ?mm41 ?mm42 ?mm43 ?mm44 ?d45 ?mi46 ?mm47 ?mm48 ?mm49 ?d50 ?d51 ?d52 ?d53 ?d54 ?d55 ?d56 ?d57 ?d58 ?d59 ?d60 ?d61 ?d62 ?d63 ?d64 ?d65 ?d66 ?a67 ?l67 ?c67 ?k67 ?z0 ?z1 ?z2 ?z3 ?z4 ?z5 ?z6 ?z7 ?z8 ?z9 ?z10 ?z11 ?z12 ?z13 ?z14 ?z15 ?z16 ?z17
    ctx_has kj aC_Wish aC_Unlike aC_Many aC_Sum aC_Table aC_Way aC_Behind aC_Same
    ctx_has kc cl_Unlike cl_Many cl_Sum cl_Table cl_Way cl_Behind cl_Same
    ctx_has km mm16 mm17 mm19 mm20 mm21 mm22 mm24 mm25 mm26 mm27 mm31 mm32 mm33 mm34 mm35 mm37 mm39 mm41 mm42 mm43 mm44 mm47 mm48 mm49
    ctx_has kn mi15 mi18 mi23 mi28 mi36 mi40 mi46
    ctx_has kq mc14
    ctx_has kd d0 d1 d2 d3 d4 d5 d6 d7 d8 d9 d10 d11 d12 d13 d29 d30 d38 d45 d50 d51 d52 d53 d54 d55 d56 d57 d58 d59 d60 d61 d62 d63 d64 d65 d66
    ctx_has kj nf_Unlike_wish nf_Unlike_cells nf_Many_wish nf_Many_among nf_Many_cells nf_Many_low nf_Many_high nf_Sum_wish nf_Sum_terms nf_Sum_low nf_Sum_high nf_Table_wish nf_Table_cells nf_Table_rows nf_Way_wish nf_Way_cells nf_Way_ends nf_Way_leads nf_Behind_wish nf_Behind_cells nf_Behind_gap nf_Same_wish nf_Same_cell nf_Same_among nf_Same_inner a67 l67 c67 k67 z0 z1 z2 z3 z4 z5 z6 z7 z8 z9 z10 z11 z12 z13 z14 z15 z16 z17
