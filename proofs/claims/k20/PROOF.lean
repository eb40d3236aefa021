import PyProof.Rows.All
import KE.KIntText
import KE.KIsAll
import KE.KItem
import KE.KRevIter
import OpenK.KLine
import Wide.Once
import Wide.Tac
import Open.Line
import Wide.Line
import KE.KPathFold
import PyProof.Rows.RegCtxHas
import PyProof.Walk
import KE.KEqDict
import KE.KDictOf
import Lean
import PySem.Challenge.RW_seekhall_k20_whole_wishes_by_all_filling
set_option Elab.async false
set_option linter.all false
set_option compiler.extract_closed false
set_option maxRecDepth 100000
set_option maxHeartbeats 4000000
namespace Ob
variable {C p q r s t u v w x y z k l m : Prop} {A B D E F G H I J : Sort _}
theorem e1 {P : A → Prop} (h : ∃ a, P a) (f : ∀ a, P a → C) : C := h.elim f
theorem e2 {P : A → B → Prop} (h : ∃ a b, P a b) (f : ∀ a b, P a b → C) : C := h.elim fun a h => e1 h (f a)
theorem e3 {P : A → B → D → Prop} (h : ∃ a b d, P a b d) (f : ∀ a b d, P a b d → C) : C := h.elim fun a h => e2 h (f a)
theorem e4 {P : A → B → D → E → Prop} (h : ∃ a b d e, P a b d e) (f : ∀ a b d e, P a b d e → C) : C := h.elim fun a h => e3 h (f a)
theorem e5 {P : A → B → D → E → F → Prop} (h : ∃ a b d e f, P a b d e f) (f : ∀ a b d e f, P a b d e f → C) : C := h.elim fun a h => e4 h (f a)
theorem e6 {P : A → B → D → E → F → G → Prop} (h : ∃ a b d e f g, P a b d e f g) (f : ∀ a b d e f g, P a b d e f g → C) : C := h.elim fun a h => e5 h (f a)
theorem e7 {P : A → B → D → E → F → G → H → Prop} (h : ∃ a b d e f g h, P a b d e f g h) (f : ∀ a b d e f g h, P a b d e f g h → C) : C := h.elim fun a h => e6 h (f a)
theorem e8 {P : A → B → D → E → F → G → H → I → Prop} (h : ∃ a b d e f g h i, P a b d e f g h i) (f : ∀ a b d e f g h i, P a b d e f g h i → C) : C := h.elim fun a h => e7 h (f a)
theorem e9 {P : A → B → D → E → F → G → H → I → J → Prop} (h : ∃ a b d e f g h i j, P a b d e f g h i j) (f : ∀ a b d e f g h i j, P a b d e f g h i j → C) : C := h.elim fun a h => e8 h (f a)
theorem i2 {P : A → B → Prop} (a : A) (b : B) (o : P a b) : ∃ a b, P a b := ⟨a, b, o⟩
theorem i3 {P : A → B → D → Prop} (a : A) (b : B) (d : D) (o : P a b d) : ∃ a b d, P a b d := ⟨a, b, d, o⟩
theorem i4 {P : A → B → D → E → Prop} (a : A) (b : B) (d : D) (e : E) (o : P a b d e) : ∃ a b d e, P a b d e := ⟨a, b, d, e, o⟩
theorem i5 {P : A → B → D → E → F → Prop} (a : A) (b : B) (d : D) (e : E) (f : F) (o : P a b d e f) : ∃ a b d e f, P a b d e f := ⟨a, b, d, e, f, o⟩
theorem i6 {P : A → B → D → E → F → G → Prop} (a : A) (b : B) (d : D) (e : E) (f : F) (g : G) (o : P a b d e f g) : ∃ a b d e f g, P a b d e f g := ⟨a, b, d, e, f, g, o⟩
theorem i7 {P : A → B → D → E → F → G → H → Prop} (a : A) (b : B) (d : D) (e : E) (f : F) (g : G) (h : H) (o : P a b d e f g h) : ∃ a b d e f g h, P a b d e f g h := ⟨a, b, d, e, f, g, h, o⟩
theorem i8 {P : A → B → D → E → F → G → H → I → Prop} (a : A) (b : B) (d : D) (e : E) (f : F) (g : G) (h : H) (i : I) (o : P a b d e f g h i) : ∃ a b d e f g h i, P a b d e f g h i := ⟨a, b, d, e, f, g, h, i, o⟩
theorem i9 {P : A → B → D → E → F → G → H → I → J → Prop} (a : A) (b : B) (d : D) (e : E) (f : F) (g : G) (h : H) (i : I) (j : J) (o : P a b d e f g h i j) : ∃ a b d e f g h i j, P a b d e f g h i j := ⟨a, b, d, e, f, g, h, i, j, o⟩
theorem c2 (h : p ∧ q) (f : p → q → C) : C := f h.1 h.2
theorem c3 (h : p ∧ q ∧ r) (f : p → q → r → C) : C := c2 h.2 (f h.1)
theorem c4 (h : p ∧ q ∧ r ∧ s) (f : p → q → r → s → C) : C := c3 h.2 (f h.1)
theorem c5 (h : p ∧ q ∧ r ∧ s ∧ t) (f : p → q → r → s → t → C) : C := c4 h.2 (f h.1)
theorem c6 (h : p ∧ q ∧ r ∧ s ∧ t ∧ u) (f : p → q → r → s → t → u → C) : C := c5 h.2 (f h.1)
theorem c7 (h : p ∧ q ∧ r ∧ s ∧ t ∧ u ∧ v) (f : p → q → r → s → t → u → v → C) : C := c6 h.2 (f h.1)
theorem c8 (h : p ∧ q ∧ r ∧ s ∧ t ∧ u ∧ v ∧ w) (f : p → q → r → s → t → u → v → w → C) : C := c7 h.2 (f h.1)
theorem c9 (h : p ∧ q ∧ r ∧ s ∧ t ∧ u ∧ v ∧ w ∧ x) (f : p → q → r → s → t → u → v → w → x → C) : C := c8 h.2 (f h.1)
theorem c10 (h : p ∧ q ∧ r ∧ s ∧ t ∧ u ∧ v ∧ w ∧ x ∧ y) (f : p → q → r → s → t → u → v → w → x → y → C) : C := c9 h.2 (f h.1)
theorem c11 (h : p ∧ q ∧ r ∧ s ∧ t ∧ u ∧ v ∧ w ∧ x ∧ y ∧ z) (f : p → q → r → s → t → u → v → w → x → y → z → C) : C := c10 h.2 (f h.1)
theorem c12 (h : p ∧ q ∧ r ∧ s ∧ t ∧ u ∧ v ∧ w ∧ x ∧ y ∧ z ∧ k) (f : p → q → r → s → t → u → v → w → x → y → z → k → C) : C := c11 h.2 (f h.1)
theorem c13 (h : p ∧ q ∧ r ∧ s ∧ t ∧ u ∧ v ∧ w ∧ x ∧ y ∧ z ∧ k ∧ l) (f : p → q → r → s → t → u → v → w → x → y → z → k → l → C) : C := c12 h.2 (f h.1)
theorem c14 (h : p ∧ q ∧ r ∧ s ∧ t ∧ u ∧ v ∧ w ∧ x ∧ y ∧ z ∧ k ∧ l ∧ m) (f : p → q → r → s → t → u → v → w → x → y → z → k → l → m → C) : C := c13 h.2 (f h.1)
end Ob
open Lean Lean.Parser.Tactic in
local macro_rules
 | `(tactic| obtain $p:rcasesPatMed := $e:term) => do
  let pl : TSyntax ``rcasesPatLo := ⟨mkNode ``rcasesPatLo #[p, mkNullNode]⟩
  let plain ← `(tactic| rcases $e:term with $pl)
  let q := p.raw[0][0]
  let ps := q[1].getSepArgs
  let n := ps.size
  if p.raw[0].getNumArgs != 1 || q.getKind != ``rcasesPat.tuple || n < 2 || n > 20 then return plain
  let mut nm : Array Ident := #[]
  let mut fs : Array (TSyntax `tactic) := #[]
  let cl (b : Term) : MacroM Term := if e.raw.isIdent then `(clear% $(⟨e.raw⟩); $b) else pure b
  for x in ps do
    let v := x[0][0][0]
    if x[1].getNumArgs == 0 && x[0][0].getNumArgs == 1 && v.getKind == ``rcasesPat.one && v[0].getId != `rfl then nm := nm.push ⟨v[0]⟩
    else
      let y := mkIdent (.mkSimple s!"hX{nm.size}")
      nm := nm.push y
      fs := fs.push (← `(tactic| all_goals rcases $y:ident with $(⟨x⟩)))
  let mut alts : Array (TSyntax `tactic) := #[]
  for d in [0:n] do
    let m := n - 1 - d
    let k := n - m
    if m ≤ 9 && k ≤ 14 then
      let f := mkIdent (.mkStr `Ob s!"e{m}")
      let g := mkIdent (.mkStr `Ob s!"c{k}")
      let xs := nm.extract 0 m
      let ys := nm.extract m n
      let b ← cl (← if m == 0 then `(fun $ys* => ?_) else if k == 1 then `(fun $xs* $(ys[0]!) => ?_) else `(fun $xs* hW => $g hW (clear% hW; fun $ys* => ?_)))
      alts := alts.push (← if m == 0 then `(tactic| refine $g $e $b) else `(tactic| refine $f $e $b))
  `(tactic| first | (refine Classical.byContradiction fun hN => ?_; (first $[| $alts:tactic]*); ($[$fs:tactic];*); all_goals (refine hN ?_; clear hN)) | $plain:tactic)
 | `(tactic| rintro $[$rs:rintroPat]*) => do
  let mut ts : Array (TSyntax `tactic) := #[]
  for r in rs do
    let v := r.raw[0]
    if v.getKind == ``rcasesPat.one && v[0].getId != `rfl then ts := ts.push (← `(tactic| intro $(⟨v[0]⟩):ident))
    else if v.getKind == ``rcasesPat.tuple then
      let p : TSyntax ``rcasesPatMed := ⟨mkNode ``rcasesPatMed #[mkNullNode #[v]]⟩
      ts := ts.push (← `(tactic| (intro hY; obtain $p := hY)))
    else Macro.throwUnsupported
  `(tactic| ($[$ts:tactic];*))
 | `(tactic| refine $t:term) => do
  let xs : Array Term := t.raw[1].getSepArgs.map (⟨·⟩)
  let n := xs.size
  if t.raw.getKind != `Lean.Parser.Term.anonymousCtor || n < 3 then Macro.throwUnsupported
  let mut alts : Array (TSyntax `tactic) := #[]
  for d in [1:n] do
    let m := n - d
    if 2 ≤ m && m ≤ 9 then
      let r := xs.extract m n
      let r : Term ← if r.size == 1 then pure r[0]! else `(⟨$r,*⟩)
      let f := mkIdent (.mkStr `Ob s!"i{m}")
      alts := alts.push (← `(tactic| refine $f $(xs.extract 0 m)* $r))
  `(tactic| first $[| $alts:tactic]* | refine ($t))
local macro_rules | `(tactic| omega) => `(tactic| first | with_reducible assumption | decide +kernel | lia | omega +splitDisjunctions)
open Array renaming getElem?_eq_getElem->Js,getElem?_eq_none->JU,length_toList->F_
open Bool renaming and_eq_false_iff->Ke,and_eq_true->l_,eq_iff_iff->n9,false_eq_true->h9,false_ne_true->j7,not_true->Jb
open Classical renaming byContradiction->p6
open False renaming elim->G1
open ForInStep renaming yield->JR
open Int renaming eq_ofNat_of_zero_le->A_,toNat_natCast->JZ
open List renaming all_eq_true->y_,any_eq_true->x_,concat_eq_append->Jx,eq_nil_or_concat->Ki,filterMap_cons->J1,filter_cons->x3,filter_map->JI,find?_cons->Jr,forIn_cons->JJ,getElem?_append_left->tj,getElem?_append_right->t7,getElem?_eq_getElem->o9,getElem?_eq_none_iff->w5,getElem?_eq_some_iff->g_,getElem?_map->fx,getElem?_reverse->Ji,getElem?_set_ne->Kl,getElem?_toArray->Kc,getElem_mem->JC,getElem_of_mem->v9,length_append->w4,length_cons->x4,length_map->d_,length_pos_iff->J2,length_pos_of_mem->Jo,length_take->Ju,length_take_le'->G4,lookup->Ku,lookup_cons->wh,lookup_nil->Je,map_append->t6,map_congr_left->q_,map_cons->i_,map_inj_left->KC,map_map->m6,mem_append->j9,mem_append_left->k9,mem_append_right->p9,mem_cons->i7,mem_cons_of_mem->k6,mem_cons_self->m8,mem_filter->E_,mem_map->i4,mem_of_getElem?->g7,mem_of_mem_take->JK,mem_range->Kf,mem_singleton->gr,nodup_append->t_,nodup_cons->m7,not_mem_nil->n6,pairwise_map->G5,size_toArray->j_,take_add_one->ki,take_length->m_,take_of_length_le->nH,take_sublist->Jy
open List.Pairwise renaming imp_of_mem->If
open Nat renaming le_add_right->Jf,le_of_eq->Jz,le_of_lt->Jc,le_of_succ_le->Kr,le_refl->i6,le_trans->i8,lt_irrefl->s_,lt_of_le_of_lt->rb,lt_of_lt_of_le->hH,lt_succ_of_lt->Ks,lt_succ_self->G_,ne_of_gt->sn,ne_of_lt->mu,zero_le->y6
open Ne renaming symm->k_
open Option renaming isSome_iff_exists->Jp,map_some->Kk
open Option.some renaming inj->ge
open PyProof.Rows renaming IntsAre->KI,callWith_type1->p7,slot_tuple_getitem->o6,step_dedup->JS
open PySem renaming Addr->Kh,NameKind->y9,OsState->J6,PyData->KJ,Spec->zb,Str->Jt,Value->Jd,ZipApart->Kp,assignEach->Km,attributeBase->Kt,backTo->y8,behindInMarks->Jk,binaryOp->Kn,bootBuiltins->y7,builtinLookup_eq_fast->v_,cellsFrom->o_,codeAny->J8,codeAny_builtin->KB,codeAny_mono->KG,compareOp->t3,getItem->J9,importedModules->Kz,intItems->JX,isSubtype_type->Kb,keywordEach->Kw,mainGlobals->md,mem_of_lookup->JE,pyNext->JP,rawInt->x8,sizeLine->hB,sliceBounds->Kv,starEach->j8,swapsWith->KF,sysModules->H_,treeTable->Kg,tupleKind->Jw,tupleKind_room_in1->Jg,typeLookup->Ko,typeLookup_type->C_,wpAny_Call_Name_kw->x5,wpAny_attempt->I_,wpAny_bind->a_,wpAny_callSpecial?_slot->m9,wpAny_call_entry->o7,wpAny_field->la,wpAny_getItem_str_slice->JG,wpAny_holding->u7,wpAny_isInstance->JB,wpAny_mono->Gt,wpAny_newObj_type->r_,wpAny_of_eq->JW,wpAny_passesOwn->Jh,wpAny_pure->e_,wpAny_pyIter_list->J0,wpAny_pyIter_tuple->u5,wpAny_seqItems->x0,wpAny_setField_rec->u6,wpAny_specialOf->y4,wpAny_truthy_bool->B_,wpAny_typeOf->J_,wpAny_updateSeq->KA
open PySem.Builtin.List renaming listExtendWith->p8,listItems->JT,listSameRef->JA
open PySem.Builtin.Slice renaming sliceAdjust->y3,sliceApplied->Jl,slicePlaces->uj
open PySem.Builtin.SmallTypes renaming nextOf->k4,ownedTupleIsFree->n_
open PySem.Builtin.Str renaming occurrences->JH
open PySem.Builtin.Tuple renaming tupleExact->u9
open PySem.Calls renaming callWith_builtin->JV,spliced_cons->JQ,spliced_nil->JY
open PySem.F renaming args_zip_next_1->Jq,entry_zip_next->JD,plain_extend_loop->JF,slot_NoneType_hash->Jn,slot_dict_get->Ka,slot_list_append->t4,slot_tuple_iterator_next->Jm,slot_zip_next->u8,type_list_append->t5
open PySem.Heap renaming ExtBut->Kx,IsTuple->KL,SameBut->J7,get?_push_of_some->c_,get?_push_size->gt,get?_update_other->D_,get?_update_self->G3,lt_size->f_,size_push->o8,size_update->Kq
open PySem.NameKind renaming cell->w_,free->t9
open PySem.Obj renaming mapSeq->x6
open PySem.PyData renaming bool->Ky,canLayAll0->w9,depth->KH,depthAll->Jj,eqv->z_,eqvAll->Ja,int->G2
open PySem.Str renaming ofString->b_
open PySem.Txt renaming slice->Is,slice_le->Kd
open PySem.Value renaming bool->JO,none->w6,ref->j6,type->y2
open PySem.W renaming Frag->fy,boot_heap->KD,callWith_K->Kj,emptyDict->JL,findIn->J4,keepIn->JM,kia_one->J5,kitOne->JN,mg_none_of->u_
open Sum renaming inl->h_,inr->i9
open Sum.inl renaming inj->Jv
open True renaming intro->p_
variable {A:PySem.Around} {C I O S T a b d dx f fa ha it l le na p ra z:Kh} {CS N cs loose names ps ws:List Jt} {E Q Qf xe:Jd->PySem.Shared->Prop} {K:fy} {M:PySem.Model} {P prog:PySem.Program} {R:PySem.Result->PySem.Shared->Prop} {U av ms ns pool tl:List Int} {XP:(Jt->Option Jd)->PySem.Heap->Prop} {YP:PySem.World->PySem.Heap->Prop} {apos cpos p2 pos pos':PySem.Pos} {as:List (Kh × Jt × Kh)} {base h h':PySem.Heap} {body rest:List PySem.Stmt} {c name qual x:Jt} {cd cdv ct doc f0 f1 oc pm u vk vl vu:Jd} {ch fp:List Kh} {cl closure:List (Jt × Kh)} {d':PySem.Drawn} {ds its us:List Jd} {e e1 elt iter oe tg value:PySem.Expr} {env:PySem.Env} {es ifs values:List PySem.Expr} {fd:PySem.FuncData} {func od:Option Kh} {g:Jt->Int} {g':Array PySem.GenState} {gap lo m v v':Int} {hi:Option Int} {i j k n n0 nt t' tk:Nat} {items ys:Array Jd} {js:List Nat} {ks:List (Option Int)} {kw:List (Jt × Jd)} {mA mb mg:Jt->Option Jd} {o0:PySem.Obj} {osl sl:Array (Option Jd)} {outer:List PySem.Env} {params:PySem.Arguments} {pins pins':List (Kh × PySem.Obj)} {pl:PySem.Sem Bool} {q:Bool} {rl rm:Jt->List Int} {rows:List (List Int)} {s s' s₁:PySem.Shared} {sc scope:PySem.Scope} {st:PySem.Stmt} {ts:List (Int × Jt)} {use:Option (Jd->PySem.Sem Unit)} {w:PySem.World} {α κ:Type}
open List (any_cons any_map append_assoc append_nil cons_append drop_zero foldl_append forIn_nil idxOf?_cons length_drop length_nil length_reverse map_drop map_id map_nil map_reverse map_take mem_flatMap mem_reverse of_mem_zip range zipWith)
open PySem.W (boot_o_0 boot_o_1 boot_o_10 boot_o_2 boot_o_4 boot_o_5 boot_o_6 boot_o_7 boot_o_8 boot_o_9 codeIn fnOf handedIn hasDictIn instObj isFn kitx_dict kitx_list lookIn makesIn methodCall_KW methodObj mg_of mroIn nsIn plainGet plainGet_of plainOver specialIn takerIn takesIn)
open Nat (le_succ le_total lt_trans min_eq_left not_lt sub_self sub_zero)
open Option (getD_none isNone_some isSome_map isSome_some)
open Array (forIn_toList)
local macro_rules | `(()) => `(by omega)
local macro_rules | `(∅) => `(by decide)
local macro_rules | `(-$x:ident) => `(some (.ref $x))
local macro_rules | `($a >> $b) => `($a = some ($(Lean.mkIdent `L2.HO.tup) $b))
local macro_rules | `($a *> $b) => `($a = some ($(Lean.mkIdent `L2.HO.lst) $b))
local macro_rules | `($a <* $b) => `($a = some ($(Lean.mkIdent `L2.HO.dK) $b))
namespace Lw
open PySem PySem.W PySem.Calls PyProof.Rows
def top (i:Nat):Stmt:=PySem.Challenge.pw_seekhall_k20_whole_wishes_by_all_filling.main.body.getD i (.Pass ⟨0,0,0,0⟩)
noncomputable def jk:Program:={ PySem.Challenge.pw_seekhall_k20_whole_wishes_by_all_filling with main:={ PySem.Challenge.pw_seekhall_k20_whole_wishes_by_all_filling.main with body:=[1,3,4,5,6,7,8,9,10,11,12,13,14,16,18,20,22,24,25,26,28,30,31,33,34,36,37,38,39,41,42,43,44,45,46,47,48,49,50,51,52,53,54,55,56,57,58].map top } }
section
local macro_rules | `(tactic| o_head $H) => `(tactic| (have z := $H; assumption))
set_option maxHeartbeats 0 in
theorem Em (h:PySem.Challenge.rw_seekhall_k20_whole_wishes_by_all_filling.row.Holds):PySem.Challenge.rw_seekhall_k20_whole_wishes_by_all_filling.row.Holds:=by
 k_head
end
def hAs:List Addr:=[2,3,15,17,18,20,21,22,24,25,27,28,29,32,33,34,37,38,39,41,42,44,45,46,49,50,51,53,54,56,57,58,60,61,63,64,65,67,68,70,71,72,75,76,77,79,80,82,83,84,85,87,88,90,91,99,101,102,104,105,106,108,109,111,112,113,115,116,118,119,120,122,123,125,126,127,128,129,130,131,134,141,143,144,146,147,148,150,151,153,154,155,158,159,160,163,164,165,166,167,170,177,179,180,182,183,184,186,187,189,190,191,194,195,196,199,200,201,203,204,206,207,208,210,211,213,214,215,216,217,220,227,229,230,232,233,234,236,237,239,240,241,243,244,246,247,248,250,251,253,254,255,258,259,260,263,264,265,266,267,270,273,274,275,277,278,280,281,282,289,291,292,294,295,296,298,299,301,302,303,305,306,308,309,310,312,313,315,316,317,319,320,322,323,324,326,327,329,330,331,333,334,336,337,338,339,340,343,350,352,353,355,356,357,359,360,362,363,364,367,368,369,372,373,374,376,377,379,380,381,383,384,386,387,388,389,390,393,395,396,398,399,400,407,409,410,412,413,414,416,417,419,420,421,423,424,426,427,428,430,431,433,434,435,436,437,440,442,443,445,446,447,454,456,457,459,460,461,463,464,466,467,468,471,472,473,476,477,478,480,481,483,484,485,487,488,490,491,492,493,494,497,499,500,502,503,504,506,507,509,510,511,513,514,516,517,518,520,521,523,524,525,528,529,530,532,533,535,536,537,540,541,542,544,545,547,548,549,552,553,554,556,557,559,560,561,563,564,566,567,568,571,572,573,576,577,578,581,582,583,586,587,588,591,592,593,596,597,598,600,601,603,604,605,608,609,610,612,613,615,616,617,619,620,622,623,624,627,628]
theorem hAe : ∀P,hAs=(Em.heap_1 P).map (·.1):=λ_=>by kernel_rfl
noncomputable abbrev hK:Hook:=kHook Em.heap_1 hAs hAe
noncomputable def hX (s:Shared):Bool:=xlAt jk List.nil s && recOk (RowW.records PySem.Challenge.rw_seekhall_k20_whole_wishes_by_all_filling.row.toRowW) s
theorem HA {A B C D G:Type} {x y:A × B × C × D} {u v:G} (h1:x.1=y.1) (h2:(x.2.1,x.2.2.1)=(y.2.1,y.2.2.1)) (L:x.2.2.2=y.2.2.2) (F:u=v):(x,u)=(y,v):=by
 obtain⟨a,b,c,d⟩:=x;obtain⟨Z,Y,c',d'⟩:=y;cases h1;cases h2;cases L;cases F;rfl
def aZ (i j:Nat):Stmt:=match top i with | .ClassDef _ _ _ b _ _ _ _ _ _ _=>b.getD j (.Pass ⟨0,0,0,0⟩) | s=>s
def aH (a:String) (n:Nat):Value:=.str (b_ a) n
def Ew (ty:Value) (x:String) (s:Stmt) (g:Addr) (B c:Value):Obj:=match s with
 | .FunctionDef n a b _ _ _ sc _ _ _=>⟨ty,none,.func ⟨n,b_ x,a,.stmts b,sc,g,[],.none,.none,.none,B,none,c,.none,0⟩,#[]⟩
 | _=>default
def cH (x:String) (s:Stmt):Obj:=Ew .none x s 0 .none .none
def cI (x:String) (s:Stmt) (B:Value) (c:Addr):Obj:=Ew (.type "function") x s 3 B (.ref c)
def tH (l:List Value):Obj:=⟨.type "tuple",none,.seq l.toArray 0,#[]⟩
def du (t:Value) (l:List Value) (a:Array (Option Value)):Obj:=⟨t,none,.fields l.toArray,a⟩
def dh (i:Nat):Obj:=match top i with
 | .FunctionDef n a b _ _ _ sc _ _ _=>⟨.none,none,.func ⟨n,n,a,.stmts b,sc,0,[],.none,.none,.none,.none,none,.none,.none,0⟩,#[]⟩
 | _=>default
def di (i:Nat) (B:Value) (c:Addr):Obj:=match top i with
 | .FunctionDef n a b _ _ _ sc _ _ _=>⟨.type "function",none,.func ⟨n,n,a,.stmts b,sc,3,[],.none,.none,.none,B,none,.ref c,.none,0⟩,#[]⟩
 | _=>default
def bE (P:Params) (k:String) (n:Nat) (v:Value):DictEntry:=⟨PyData.keyHash P (b_ k),aH k n,v⟩
def aB (P:Params) (k:String) (n:Nat) (a:Addr):DictEntry:=bE P k n (.ref a)
def bc:Obj:=du .none [] #[]
def aG:Obj:=tH []
def rc (n:Nat):Value:=.int n 0
def Hv (l:List (Nat × Nat)):Obj:=du .none (l.flatMap λx=>[rc x.1,rc 0,.ref x.2]) #[]
def E7 (x q:String) (t l n f a:Nat) (b:Bool) (r:List Value) (u:Nat):Obj:=du (.type "code") ([aH x t,aH q (t+1),aH "/claim/cut.py" (t+2),rc l,rc n,rc 0,rc 0,rc f,.ref a,.bool b,rc 181,.ref (a+1),.none]++r++[rc u,rc l,aH "/claim/cut.py" (u+1)]) #[]
def dU (x q:String) (t l n a u:Nat):Obj:=E7 x q t l n 3 a true [.ref (a+2),.ref (a+3),.ref (a+4)] u
def fP (x q:String) (t l n a:Nat):Obj:=E7 x q t l n 3 a true [.none,.none,.ref (a+2)] (t+3)
def rL (x:String) (t l a:Nat):Obj:=E7 x x t l 0 0 a false [.none,.none,.none] (t+3)
def gS (x:String) (t l n a u:Nat):Obj:=dU x x t l n a u
def G0:Nat->List String->List Value
 | _,[]=>[]
 | n,x :: r=>aH x n :: G0 (n+1) r
def bD (n:Nat) (l:List String):Obj:=tH (G0 n l)
def Dy:Bool->List Obj->List Obj
 | _,[]=>[]
 | true,x :: r=>x :: Dy false r
 | false,_ :: r=>Dy true r
def BF:Nat->List Obj->BT
 | 0,_=>.nil
 | _+1,[]=>.nil
 | n+1,x :: r=>.node x (BF n (Dy true r)) (BF n (Dy false r))
def iK (t:Value) (l:List DictEntry) (n:Nat) (a:Array (Option Value)):Obj:=⟨t,none,.dict l.toArray n,a⟩
noncomputable def BZ (P:Params):BT:=BF 5 [(boot_o_0 P),(boot_o_1 P),(boot_o_2 P),(PySem.W.boot_o_3 P),(boot_o_4 P),(boot_o_5 P),(boot_o_6 P),(boot_o_7 P),(boot_o_8 P),(boot_o_9 P),(boot_o_10 P),aG,bc,(rL "<module>" 182 1 11),⟨(.type "frame"),none,.plain,#[some (.ref 13),some (.ref 3),some (.ref 3),none,some (aH "__main__" 164),none,some (.ref 0)]⟩]
noncomputable def HE (P:Params):List Obj:=[(boot_o_0 P),(boot_o_1 P),(boot_o_2 P)]
noncomputable def Hy (P:Params):List Obj:=[(boot_o_4 P),(boot_o_5 P),(boot_o_6 P),(boot_o_7 P),(boot_o_8 P),(boot_o_9 P),(boot_o_10 P),aG]
noncomputable def Hl (P:Params):List Obj:=[(rL "<module>" 182 1 11),⟨(.type "frame"),none,.plain,#[some (.ref 13),some (.ref 3),some (.ref 3),none,some (aH "__main__" 164),none,some (.ref 0)]⟩,aG,bc,(bD 192 ["things"]),aG,(dh 1),(gS "are_unlike" 189 2 1 15 193),(di 1 (aH "seekhall.forms" 187) 20),aG,bc,(bD 201 ["number","low","high"]),aG,(dh 3),(gS "is_between" 198 5 3 22 204),(di 3 (aH "seekhall.keeping" 196) 27),aG,bc,(dh 4),(fP "sum_of" "sum_of" 207 7 2 29),(di 4 (aH "seekhall.keeping" 196) 32),aG,bc,(dh 5),(fP "values_at" "values_at" 213 9 2 34),(di 5 (aH "seekhall.keeping" 196) 37),aG,bc,(bD 222 ["wish","filling"]),aG,(dh 6),(gS "unlike_kept" 219 11 2 39 224),(di 6 (aH "seekhall.keeping" 196) 44),aG,bc,(dh 7),(fP "many_kept" "many_kept" 227 13 2 46),(di 7 (aH "seekhall.keeping" 196) 49),aG,bc,(bD 236 ["wish","filling"]),aG,(dh 8),(gS "sum_kept" 233 16 2 51 238),(di 8 (aH "seekhall.keeping" 196) 56),aG,bc,(bD 244 ["wish","filling"]),aG,(dh 9),(gS "table_kept" 241 18 2 58 246),(di 9 (aH "seekhall.keeping" 196) 63),aG,bc,(bD 252 ["wish","filling","leads","step","state","value"]),aG,(dh 10),(gS "way_kept" 249 20 2 65 258),(di 10 (aH "seekhall.keeping" 196) 70),aG,bc,(dh 11),(fP "behind_kept" "behind_kept" 261 30 2 72),(di 11 (aH "seekhall.keeping" 196) 75),aG,bc,(bD 270 ["wish","filling"]),aG,(dh 12),(gS "same_kept" 267 33 2 77 272),(di 12 (aH "seekhall.keeping" 196) 82),(iK (.type "dict") [aB P "unlike" 275 45,aB P "many" 276 50,aB P "sum" 277 57,aB P "table" 278 64,aB P "way" 279 71,aB P "behind" 280 76,aB P "same" 281 83] 7 #[]),aG,bc,(bD 293 ["wish","filling"]),aG,(dh 14),(gS "wish_kept" 290 36 2 85 295),(di 14 (aH "seekhall.keeping" 196) 90),aG,(du (.type "builtin_function_or_method") [(.builtin "type.__prepare__"),(.type "type")] #[]),(iK (.type "dict") [bE P "__module__" 307 (aH "seekhall.wishes" 298),bE P "__qualname__" 309 (aH "Wish" 308),bE P "__firstlineno__" 311 (.int 39 310),aB P "__init__" 319 105,aB P "kept" 327 112,aB P "may_keep" 335 119,aB P "may_break" 343 126,aB P "__static_attributes__" 345 127] 8 #[]),aG,(du .none [(.int 41 0),(.int 4 0),(.ref 104),(.int 44 0),(.int 4 0),(.ref 111),(.int 47 0),(.int 4 0),(.ref 118),(.int 50 0),(.int 4 0),(.ref 125)] #[]),(rL "Wish" 302 39 95),⟨(.type "frame"),none,.plain,#[some (.ref 97),some (.ref 3),some (.ref 94),none,some (aH "seekhall.wishes" 298),none,some (.ref 0)]⟩,aG,bc,(bD 315 ["self","wish"]),aG,(cH "Wish.__init__" (aZ 16 0)),(dU "__init__" "Wish.__init__" 312 41 2 99 317),(cI "Wish.__init__" (aZ 16 0) (aH "seekhall.wishes" 298) 104),aG,bc,(bD 323 ["self","filling"]),aG,(cH "Wish.kept" (aZ 16 1)),(dU "kept" "Wish.kept" 320 44 2 106 325),(cI "Wish.kept" (aZ 16 1) (aH "seekhall.wishes" 298) 111),aG,bc,(bD 331 ["self","rooms"]),aG,(cH "Wish.may_keep" (aZ 16 2)),(dU "may_keep" "Wish.may_keep" 328 47 2 113 333),(cI "Wish.may_keep" (aZ 16 2) (aH "seekhall.wishes" 298) 118),aG,bc,(bD 339 ["self","rooms"]),aG,(cH "Wish.may_break" (aZ 16 3)),(dU "may_break" "Wish.may_break" 336 50 2 120 341),(cI "Wish.may_break" (aZ 16 3) (aH "seekhall.wishes" 298) 125),(bD 344 ["wish"]),(iK (.type "dict") [bE P "__module__" 307 (aH "seekhall.wishes" 298),bE P "__firstlineno__" 311 (.int 39 310),aB P "__init__" 319 105,aB P "kept" 327 112,aB P "may_keep" 335 119,aB P "may_break" 343 126,aB P "__static_attributes__" 345 127,aB P "__dict__" 347 130,aB P "__weakref__" 349 131,bE P "__doc__" 350 .none] 4 #[])]
noncomputable def HI (P:Params):List Obj:=[(du (.type "getset_descriptor") [(aH "__dict__" 346),(.ref 129),(.builtin "function.__dict__"),(.builtin "function.__dict__#set")] #[]),(du (.type "getset_descriptor") [(aH "__weakref__" 348),(.ref 129),(.builtin "ExceptionGroup.__weakref__"),.none] #[]),(du (.type "super") [(.ref 129),(.ref 129),(.ref 129)] #[]),(du (.type "builtin_function_or_method") [(.builtin "object.__init_subclass__"),(.ref 129)] #[]),(tH [(.ref 129)]),(du (.type "builtin_function_or_method") [(.builtin "type.__prepare__"),(.type "type")] #[]),(iK (.type "dict") [bE P "__module__" 362 (aH "seekhall.behinds" 353),bE P "__qualname__" 364 (aH "Behind" 363),bE P "__firstlineno__" 366 (.int 53 365),aB P "__init__" 374 147,aB P "kept" 382 154,aB P "may_keep" 388 159,aB P "may_break" 394 164,aB P "__static_attributes__" 397 165] 8 #[]),aG,(du .none [(.int 55 0),(.int 4 0),(.ref 146),(.int 60 0),(.int 4 0),(.ref 153),(.int 63 0),(.int 4 0),(.ref 158),(.int 72 0),(.int 4 0),(.ref 163)] #[]),(rL "Behind" 357 53 137),⟨(.type "frame"),none,.plain,#[some (.ref 139),some (.ref 3),some (.ref 136),none,some (aH "seekhall.behinds" 353),none,some (.ref 0)]⟩,aG,bc,(bD 370 ["self","wish"]),aG,(cH "Behind.__init__" (aZ 18 0)),(dU "__init__" "Behind.__init__" 367 55 2 141 372),(cI "Behind.__init__" (aZ 18 0) (aH "seekhall.behinds" 353) 146),aG,bc,(bD 378 ["self","filling"]),aG,(cH "Behind.kept" (aZ 18 1)),(dU "kept" "Behind.kept" 375 60 2 148 380),(cI "Behind.kept" (aZ 18 1) (aH "seekhall.behinds" 353) 153),aG,bc,(cH "Behind.may_keep" (aZ 18 2)),(fP "may_keep" "Behind.may_keep" 383 63 2 155),(cI "Behind.may_keep" (aZ 18 2) (aH "seekhall.behinds" 353) 158),aG,bc,(cH "Behind.may_break" (aZ 18 3)),(fP "may_break" "Behind.may_break" 389 72 2 160),(cI "Behind.may_break" (aZ 18 3) (aH "seekhall.behinds" 353) 163),(bD 395 ["cells","gap"]),(iK (.type "dict") [bE P "__module__" 362 (aH "seekhall.behinds" 353),bE P "__firstlineno__" 366 (.int 53 365),aB P "__init__" 374 147,aB P "kept" 382 154,aB P "may_keep" 388 159,aB P "may_break" 394 164,aB P "__static_attributes__" 397 165,bE P "__doc__" 398 .none] 2 #[]),⟨(.type "type"),none,.cls ⟨b_ "Behind",[(.ref 129)],[(.ref 167),(.ref 129),(.type "object")],166,b_ "Behind",.true,[],[],.false,none,.false⟩,#[some (.ref 134),none,some (aH "Behind" 355),some (aH "Behind" 363),some (.builtin "object.__new__"),some (.bool .true)]⟩,(du (.type "super") [(.ref 167),(.ref 167),(.ref 167)] #[]),(du (.type "builtin_function_or_method") [(.builtin "object.__init_subclass__"),(.ref 167)] #[]),(tH [(.ref 129)]),(du (.type "builtin_function_or_method") [(.builtin "type.__prepare__"),(.type "type")] #[]),(iK (.type "dict") [bE P "__module__" 410 (aH "seekhall.manies" 401),bE P "__qualname__" 412 (aH "Many" 411),bE P "__firstlineno__" 414 (.int 76 413),aB P "__init__" 422 183,aB P "kept" 430 190,aB P "fewest" 436 195,aB P "most" 442 200,aB P "may_keep" 450 207,aB P "may_break" 458 214,aB P "__static_attributes__" 463 215] 10 #[]),aG,(du .none [(.int 78 0),(.int 4 0),(.ref 182),(.int 85 0),(.int 4 0),(.ref 189),(.int 88 0),(.int 4 0),(.ref 194),(.int 91 0),(.int 4 0),(.ref 199),(.int 94 0),(.int 4 0),(.ref 206),(.int 97 0),(.int 4 0),(.ref 213)] #[]),(rL "Many" 405 76 173),⟨(.type "frame"),none,.plain,#[some (.ref 175),some (.ref 3),some (.ref 172),none,some (aH "seekhall.manies" 401),none,some (.ref 0)]⟩,aG,bc,(bD 418 ["self","wish"]),aG,(cH "Many.__init__" (aZ 20 0)),(dU "__init__" "Many.__init__" 415 78 2 177 420),(cI "Many.__init__" (aZ 20 0) (aH "seekhall.manies" 401) 182),aG,bc,(bD 426 ["self","filling"]),aG,(cH "Many.kept" (aZ 20 1)),(dU "kept" "Many.kept" 423 85 2 184 428),(cI "Many.kept" (aZ 20 1) (aH "seekhall.manies" 401) 189),aG,bc,(cH "Many.fewest" (aZ 20 2)),(fP "fewest" "Many.fewest" 431 88 2 191),(cI "Many.fewest" (aZ 20 2) (aH "seekhall.manies" 401) 194),aG,bc,(cH "Many.most" (aZ 20 3)),(fP "most" "Many.most" 437 91 2 196),(cI "Many.most" (aZ 20 3) (aH "seekhall.manies" 401) 199),aG,bc,(bD 446 ["self","rooms"]),aG,(cH "Many.may_keep" (aZ 20 4)),(dU "may_keep" "Many.may_keep" 443 94 2 201 448),(cI "Many.may_keep" (aZ 20 4) (aH "seekhall.manies" 401) 206),aG,bc,(bD 454 ["self","rooms"]),aG,(cH "Many.may_break" (aZ 20 5)),(dU "may_break" "Many.may_break" 451 97 2 208 456),(cI "Many.may_break" (aZ 20 5) (aH "seekhall.manies" 401) 213),(bD 459 ["among","cells","high","low"]),(iK (.type "dict") [bE P "__module__" 410 (aH "seekhall.manies" 401),bE P "__firstlineno__" 414 (.int 76 413),aB P "__init__" 422 183,aB P "kept" 430 190,aB P "fewest" 436 195,aB P "most" 442 200,aB P "may_keep" 450 207,aB P "may_break" 458 214,aB P "__static_attributes__" 463 215,bE P "__doc__" 464 .none] 2 #[]),⟨(.type "type"),none,.cls ⟨b_ "Many",[(.ref 129)],[(.ref 217),(.ref 129),(.type "object")],216,b_ "Many",.true,[],[],.false,none,.false⟩,#[some (.ref 170),none,some (aH "Many" 403),some (aH "Many" 411),some (.builtin "object.__new__"),some (.bool .true)]⟩,(du (.type "super") [(.ref 217),(.ref 217),(.ref 217)] #[]),(du (.type "builtin_function_or_method") [(.builtin "object.__init_subclass__"),(.ref 217)] #[]),(tH [(.ref 129)]),(du (.type "builtin_function_or_method") [(.builtin "type.__prepare__"),(.type "type")] #[]),(iK (.type "dict") [bE P "__module__" 476 (aH "seekhall.steps" 467),bE P "__qualname__" 478 (aH "Way" 477),bE P "__firstlineno__" 480 (.int 100 479),aB P "__init__" 489 233,aB P "kept" 497 240,aB P "states_behind" 509 247,aB P "last_states" 519 254,aB P "may_keep" 525 259,aB P "may_break" 531 264,aB P "__static_attributes__" 535 265] 10 #[]),aG,(du .none [(.int 102 0),(.int 4 0),(.ref 232),(.int 110 0),(.int 4 0),(.ref 239),(.int 113 0),(.int 4 0),(.ref 246),(.int 120 0),(.int 4 0),(.ref 253),(.int 126 0),(.int 4 0),(.ref 258),(.int 129 0),(.int 4 0),(.ref 263)] #[]),(rL "Way" 471 100 223),⟨(.type "frame"),none,.plain,#[some (.ref 225),some (.ref 3),some (.ref 222),none,some (aH "seekhall.steps" 467),none,some (.ref 0)]⟩,aG,bc,(bD 484 ["self","wish","step"]),aG,(cH "Way.__init__" (aZ 22 0)),(dU "__init__" "Way.__init__" 481 102 2 227 487),(cI "Way.__init__" (aZ 22 0) (aH "seekhall.steps" 467) 232),aG,bc,(bD 493 ["self","filling"]),aG,(cH "Way.kept" (aZ 22 1)),(dU "kept" "Way.kept" 490 110 2 234 495),(cI "Way.kept" (aZ 22 1) (aH "seekhall.steps" 467) 239),aG,bc,(bD 501 ["self","states","room","behind","state","value"]),aG,(cH "Way.states_behind" (aZ 22 2)),(dU "states_behind" "Way.states_behind" 498 113 3 241 507),(cI "Way.states_behind" (aZ 22 2) (aH "seekhall.steps" 467) 246),aG,bc,(bD 513 ["self","rooms","states","cell"]),aG,(cH "Way.last_states" (aZ 22 3)),(dU "last_states" "Way.last_states" 510 120 2 248 517),(cI "Way.last_states" (aZ 22 3) (aH "seekhall.steps" 467) 253),aG,bc,(cH "Way.may_keep" (aZ 22 4)),(fP "may_keep" "Way.may_keep" 520 126 2 255),(cI "Way.may_keep" (aZ 22 4) (aH "seekhall.steps" 467) 258),aG,bc,(cH "Way.may_break" (aZ 22 5)),(fP "may_break" "Way.may_break" 526 129 2 260),(cI "Way.may_break" (aZ 22 5) (aH "seekhall.steps" 467) 263),(bD 532 ["cells","ends","leads"]),(iK (.type "dict") [bE P "__module__" 476 (aH "seekhall.steps" 467),bE P "__firstlineno__" 480 (.int 100 479),aB P "__init__" 489 233,aB P "kept" 497 240,aB P "states_behind" 509 247,aB P "last_states" 519 254,aB P "may_keep" 525 259,aB P "may_break" 531 264,aB P "__static_attributes__" 535 265,bE P "__doc__" 536 .none] 2 #[]),⟨(.type "type"),none,.cls ⟨b_ "Way",[(.ref 129)],[(.ref 267),(.ref 129),(.type "object")],266,b_ "Way",.true,[],[],.false,none,.false⟩,#[some (.ref 220),none,some (aH "Way" 469),some (aH "Way" 477),some (.builtin "object.__new__"),some (.bool .true)]⟩,(du (.type "super") [(.ref 267),(.ref 267),(.ref 267)] #[]),(du (.type "builtin_function_or_method") [(.builtin "object.__init_subclass__"),(.ref 267)] #[]),aG,bc,(dh 24),(fP "parts_of" "parts_of" 541 132 2 270),(di 24 (aH "seekhall.sums" 539) 273),aG,bc,(bD 550 ["terms","rooms","spans","term","parts"]),aG,(dh 25),(gS "spans_of" 547 134 2 275 555),(di 25 (aH "seekhall.sums" 539) 280)]
noncomputable def IT (P:Params):List Obj:=[(tH [(.ref 129)]),(du (.type "builtin_function_or_method") [(.builtin "type.__prepare__"),(.type "type")] #[]),(iK (.type "dict") [bE P "__module__" 565 (aH "seekhall.sums" 539),bE P "__qualname__" 567 (aH "Sum" 566),bE P "__firstlineno__" 569 (.int 140 568),aB P "__init__" 577 295,aB P "kept" 585 302,aB P "may_end_well" 596 309,aB P "sums_with" 609 316,aB P "sums_kept" 621 323,aB P "may_keep" 629 330,aB P "may_break" 638 337,aB P "__static_attributes__" 642 338] 11 #[]),aG,(du .none [(.int 142 0),(.int 4 0),(.ref 294),(.int 148 0),(.int 4 0),(.ref 301),(.int 151 0),(.int 4 0),(.ref 308),(.int 156 0),(.int 4 0),(.ref 315),(.int 164 0),(.int 4 0),(.ref 322),(.int 171 0),(.int 4 0),(.ref 329),(.int 174 0),(.int 4 0),(.ref 336)] #[]),(rL "Sum" 560 140 285),⟨(.type "frame"),none,.plain,#[some (.ref 287),some (.ref 3),some (.ref 284),none,some (aH "seekhall.sums" 539),none,some (.ref 0)]⟩,aG,bc,(bD 573 ["self","wish"]),aG,(cH "Sum.__init__" (aZ 26 0)),(dU "__init__" "Sum.__init__" 570 142 2 289 575),(cI "Sum.__init__" (aZ 26 0) (aH "seekhall.sums" 539) 294),aG,bc,(bD 581 ["self","filling"]),aG,(cH "Sum.kept" (aZ 26 1)),(dU "kept" "Sum.kept" 578 148 2 296 583),(cI "Sum.kept" (aZ 26 1) (aH "seekhall.sums" 539) 301),aG,bc,(bD 589 ["self","reached","behind","may_rise_to_low","may_fall_to_high"]),aG,(cH "Sum.may_end_well" (aZ 26 2)),(dU "may_end_well" "Sum.may_end_well" 586 151 3 303 594),(cI "Sum.may_end_well" (aZ 26 2) (aH "seekhall.sums" 539) 308),aG,bc,(bD 600 ["self","reached","parts","behind","further","part","earlier"]),aG,(cH "Sum.sums_with" (aZ 26 3)),(dU "sums_with" "Sum.sums_with" 597 156 4 310 607),(cI "Sum.sums_with" (aZ 26 3) (aH "seekhall.sums" 539) 315),aG,bc,(bD 613 ["self","rooms","spans","reached","number","term"]),aG,(cH "Sum.sums_kept" (aZ 26 4)),(dU "sums_kept" "Sum.sums_kept" 610 164 2 317 619),(cI "Sum.sums_kept" (aZ 26 4) (aH "seekhall.sums" 539) 322),aG,bc,(bD 625 ["self","rooms"]),aG,(cH "Sum.may_keep" (aZ 26 5)),(dU "may_keep" "Sum.may_keep" 622 171 2 324 627),(cI "Sum.may_keep" (aZ 26 5) (aH "seekhall.sums" 539) 329),aG,bc,(bD 633 ["self","rooms","span"]),aG,(cH "Sum.may_break" (aZ 26 6)),(dU "may_break" "Sum.may_break" 630 174 2 331 636),(cI "Sum.may_break" (aZ 26 6) (aH "seekhall.sums" 539) 336),(bD 639 ["high","low","terms"]),(iK (.type "dict") [bE P "__module__" 565 (aH "seekhall.sums" 539),bE P "__firstlineno__" 569 (.int 140 568),aB P "__init__" 577 295,aB P "kept" 585 302,aB P "may_end_well" 596 309,aB P "sums_with" 609 316,aB P "sums_kept" 621 323,aB P "may_keep" 629 330,aB P "may_break" 638 337,aB P "__static_attributes__" 642 338,bE P "__doc__" 643 .none] 2 #[]),⟨(.type "type"),none,.cls ⟨b_ "Sum",[(.ref 129)],[(.ref 340),(.ref 129),(.type "object")],339,b_ "Sum",.true,[],[],.false,none,.false⟩,#[some (.ref 282),none,some (aH "Sum" 558),some (aH "Sum" 566),some (.builtin "object.__new__"),some (.bool .true)]⟩,(du (.type "super") [(.ref 340),(.ref 340),(.ref 340)] #[]),(du (.type "builtin_function_or_method") [(.builtin "object.__init_subclass__"),(.ref 340)] #[]),(tH [(.ref 129)]),(du (.type "builtin_function_or_method") [(.builtin "type.__prepare__"),(.type "type")] #[]),(iK (.type "dict") [bE P "__module__" 655 (aH "seekhall.tables" 646),bE P "__qualname__" 657 (aH "Table" 656),bE P "__firstlineno__" 659 (.int 178 658),aB P "__init__" 667 356,aB P "kept" 675 363,aB P "has_room" 681 368,aB P "rows_in" 687 373,aB P "may_keep" 695 380,aB P "may_break" 705 387,aB P "__static_attributes__" 708 388] 10 #[]),aG,(du .none [(.int 180 0),(.int 4 0),(.ref 355),(.int 185 0),(.int 4 0),(.ref 362),(.int 188 0),(.int 4 0),(.ref 367),(.int 191 0),(.int 4 0),(.ref 372),(.int 194 0),(.int 4 0),(.ref 379),(.int 197 0),(.int 4 0),(.ref 386)] #[]),(rL "Table" 650 178 346),⟨(.type "frame"),none,.plain,#[some (.ref 348),some (.ref 3),some (.ref 345),none,some (aH "seekhall.tables" 646),none,some (.ref 0)]⟩,aG,bc,(bD 663 ["self","wish"]),aG,(cH "Table.__init__" (aZ 28 0)),(dU "__init__" "Table.__init__" 660 180 2 350 665),(cI "Table.__init__" (aZ 28 0) (aH "seekhall.tables" 646) 355),aG,bc,(bD 671 ["self","filling"]),aG,(cH "Table.kept" (aZ 28 1)),(dU "kept" "Table.kept" 668 185 2 357 673),(cI "Table.kept" (aZ 28 1) (aH "seekhall.tables" 646) 362),aG,bc,(cH "Table.has_room" (aZ 28 2)),(fP "has_room" "Table.has_room" 676 188 3 364),(cI "Table.has_room" (aZ 28 2) (aH "seekhall.tables" 646) 367),aG,bc,(cH "Table.rows_in" (aZ 28 3)),(fP "rows_in" "Table.rows_in" 682 191 2 369),(cI "Table.rows_in" (aZ 28 3) (aH "seekhall.tables" 646) 372),aG,bc,(bD 691 ["self","rooms"]),aG,(cH "Table.may_keep" (aZ 28 4)),(dU "may_keep" "Table.may_keep" 688 194 2 374 693),(cI "Table.may_keep" (aZ 28 4) (aH "seekhall.tables" 646) 379),aG,bc,(bD 699 ["self","rooms","fillings","cell"]),aG,(cH "Table.may_break" (aZ 28 5)),(dU "may_break" "Table.may_break" 696 197 2 381 703),(cI "Table.may_break" (aZ 28 5) (aH "seekhall.tables" 646) 386),(bD 706 ["cells","rows"]),(iK (.type "dict") [bE P "__module__" 655 (aH "seekhall.tables" 646),bE P "__firstlineno__" 659 (.int 178 658),aB P "__init__" 667 356,aB P "kept" 675 363,aB P "has_room" 681 368,aB P "rows_in" 687 373,aB P "may_keep" 695 380,aB P "may_break" 705 387,aB P "__static_attributes__" 708 388,bE P "__doc__" 709 .none] 2 #[]),⟨(.type "type"),none,.cls ⟨b_ "Table",[(.ref 129)],[(.ref 390),(.ref 129),(.type "object")],389,b_ "Table",.true,[],[],.false,none,.false⟩,#[some (.ref 343),none,some (aH "Table" 648),some (aH "Table" 656),some (.builtin "object.__new__"),some (.bool .true)]⟩,(du (.type "super") [(.ref 390),(.ref 390),(.ref 390)] #[]),(du (.type "builtin_function_or_method") [(.builtin "object.__init_subclass__"),(.ref 390)] #[]),aG,bc,(bD 717 ["cell","rooms","holders","tried","value"]),aG,(dh 30),(gS "finds_value" 714 203 4 393 722),(di 30 (aH "seekhall.unlikes" 712) 398),(tH [(.ref 129)]),(du (.type "builtin_function_or_method") [(.builtin "type.__prepare__"),(.type "type")] #[]),(iK (.type "dict") [bE P "__module__" 732 (aH "seekhall.unlikes" 712),bE P "__qualname__" 734 (aH "Unlike" 733),bE P "__firstlineno__" 736 (.int 211 735),aB P "__init__" 744 413,aB P "kept" 752 420,aB P "may_keep" 762 427,aB P "may_break" 773 434,aB P "__static_attributes__" 775 435] 8 #[]),aG,(du .none [(.int 213 0),(.int 4 0),(.ref 412),(.int 217 0),(.int 4 0),(.ref 419),(.int 220 0),(.int 4 0),(.ref 426),(.int 227 0),(.int 4 0),(.ref 433)] #[]),(rL "Unlike" 727 211 403),⟨(.type "frame"),none,.plain,#[some (.ref 405),some (.ref 3),some (.ref 402),none,some (aH "seekhall.unlikes" 712),none,some (.ref 0)]⟩,aG,bc,(bD 740 ["self","wish"]),aG,(cH "Unlike.__init__" (aZ 31 0)),(dU "__init__" "Unlike.__init__" 737 213 2 407 742),(cI "Unlike.__init__" (aZ 31 0) (aH "seekhall.unlikes" 712) 412),aG,bc,(bD 748 ["self","filling"]),aG,(cH "Unlike.kept" (aZ 31 1)),(dU "kept" "Unlike.kept" 745 217 2 414 750),(cI "Unlike.kept" (aZ 31 1) (aH "seekhall.unlikes" 712) 419),aG,bc,(bD 756 ["self","rooms","holders","cell"]),aG,(cH "Unlike.may_keep" (aZ 31 2)),(dU "may_keep" "Unlike.may_keep" 753 220 2 421 760),(cI "Unlike.may_keep" (aZ 31 2) (aH "seekhall.unlikes" 712) 426),aG,bc,(bD 766 ["self","rooms","seen","cell","value"]),aG,(cH "Unlike.may_break" (aZ 31 3)),(dU "may_break" "Unlike.may_break" 763 227 2 428 771),(cI "Unlike.may_break" (aZ 31 3) (aH "seekhall.unlikes" 712) 433),(bD 774 ["cells"]),(iK (.type "dict") [bE P "__module__" 732 (aH "seekhall.unlikes" 712),bE P "__firstlineno__" 736 (.int 211 735),aB P "__init__" 744 413,aB P "kept" 752 420,aB P "may_keep" 762 427,aB P "may_break" 773 434,aB P "__static_attributes__" 775 435,bE P "__doc__" 776 .none] 2 #[]),⟨(.type "type"),none,.cls ⟨b_ "Unlike",[(.ref 129)],[(.ref 437),(.ref 129),(.type "object")],436,b_ "Unlike",.true,[],[],.false,none,.false⟩,#[some (.ref 400),none,some (aH "Unlike" 725),some (aH "Unlike" 733),some (.builtin "object.__new__"),some (.bool .true)]⟩,(du (.type "super") [(.ref 437),(.ref 437),(.ref 437)] #[]),(du (.type "builtin_function_or_method") [(.builtin "object.__init_subclass__"),(.ref 437)] #[]),aG,bc,(bD 784 ["wish"]),aG,(dh 33),(gS "plain_wish_of" 781 236 1 440 785),(di 33 (aH "seekhall.sames" 779) 445),(tH [(.ref 129)]),(du (.type "builtin_function_or_method") [(.builtin "type.__prepare__"),(.type "type")] #[]),(iK (.type "dict") [bE P "__module__" 795 (aH "seekhall.sames" 779),bE P "__qualname__" 797 (aH "Same" 796),bE P "__firstlineno__" 799 (.int 248 798),aB P "__init__" 807 460,aB P "kept" 815 467,aB P "may_be_among" 821 472,aB P "may_be_none_of_them" 827 477,aB P "may_keep" 835 484,aB P "may_break" 843 491,aB P "__static_attributes__" 847 492] 10 #[]),aG,(du .none [(.int 250 0),(.int 4 0),(.ref 459),(.int 256 0),(.int 4 0),(.ref 466),(.int 259 0),(.int 4 0),(.ref 471),(.int 262 0),(.int 4 0),(.ref 476),(.int 265 0),(.int 4 0),(.ref 483),(.int 268 0),(.int 4 0),(.ref 490)] #[]),(rL "Same" 790 248 450),⟨(.type "frame"),none,.plain,#[some (.ref 452),some (.ref 3),some (.ref 449),none,some (aH "seekhall.sames" 779),none,some (.ref 0)]⟩,aG,bc,(bD 803 ["self","wish"]),aG,(cH "Same.__init__" (aZ 34 0)),(dU "__init__" "Same.__init__" 800 250 2 454 805),(cI "Same.__init__" (aZ 34 0) (aH "seekhall.sames" 779) 459),aG,bc,(bD 811 ["self","filling"]),aG,(cH "Same.kept" (aZ 34 1)),(dU "kept" "Same.kept" 808 256 2 461 813),(cI "Same.kept" (aZ 34 1) (aH "seekhall.sames" 779) 466),aG,bc,(cH "Same.may_be_among" (aZ 34 2)),(fP "may_be_among" "Same.may_be_among" 816 259 2 468),(cI "Same.may_be_among" (aZ 34 2) (aH "seekhall.sames" 779) 471),aG,bc,(cH "Same.may_be_none_of_them" (aZ 34 3)),(fP "may_be_none_of_them" "Same.may_be_none_of_them" 822 262 2 473),(cI "Same.may_be_none_of_them" (aZ 34 3) (aH "seekhall.sames" 779) 476),aG,bc,(bD 831 ["self","rooms"]),aG,(cH "Same.may_keep" (aZ 34 4)),(dU "may_keep" "Same.may_keep" 828 265 2 478 833),(cI "Same.may_keep" (aZ 34 4) (aH "seekhall.sames" 779) 483),aG,bc,(bD 839 ["self","rooms"]),aG,(cH "Same.may_break" (aZ 34 5)),(dU "may_break" "Same.may_break" 836 268 2 485 841),(cI "Same.may_break" (aZ 34 5) (aH "seekhall.sames" 779) 490),(bD 844 ["among","cell","inner"]),(iK (.type "dict") [bE P "__module__" 795 (aH "seekhall.sames" 779),bE P "__firstlineno__" 799 (.int 248 798),aB P "__init__" 807 460,aB P "kept" 815 467,aB P "may_be_among" 821 472,aB P "may_be_none_of_them" 827 477,aB P "may_keep" 835 484,aB P "may_break" 843 491,aB P "__static_attributes__" 847 492,bE P "__doc__" 848 .none] 2 #[]),⟨(.type "type"),none,.cls ⟨b_ "Same",[(.ref 129)],[(.ref 494),(.ref 129),(.type "object")],493,b_ "Same",.true,[],[],.false,none,.false⟩,#[some (.ref 447),none,some (aH "Same" 788),some (aH "Same" 796),some (.builtin "object.__new__"),some (.bool .true)]⟩,(du (.type "super") [(.ref 494),(.ref 494),(.ref 494)] #[]),(du (.type "builtin_function_or_method") [(.builtin "object.__init_subclass__"),(.ref 494)] #[]),aG,bc,(bD 856 ["wish"]),aG,(dh 36),(gS "wish_of" 853 271 1 497 857),(di 36 (aH "seekhall.sorts" 851) 502),aG,bc,(bD 863 ["wish","filling"]),aG,(dh 37),(gS "is_kept" 860 275 2 504 865),(di 37 (aH "seekhall.sorts" 851) 509),aG,bc,(bD 871 ["wish","rooms"]),aG,(dh 38),(gS "may_be_kept" 868 277 2 511 873),(di 38 (aH "seekhall.sorts" 851) 516),aG,bc,(bD 879 ["wish","rooms"]),aG,(dh 39),(gS "may_be_broken" 876 279 2 518 881),(di 39 (aH "seekhall.sorts" 851) 523),aG,bc,(dh 41),(fP "_law_deal" "_law_deal" 886 282 2 525),(di 41 (aH "law_seekhall_k20_whole_wishes_by_all_filling" 884) 528),aG,bc,(bD 895 ["_law_deal_here","_law_many","_law_number","_law_one","_law_other"]),aG,(dh 42),(gS "_law_draw" 892 288 2 530 900),(di 42 (aH "law_seekhall_k20_whole_wishes_by_all_filling" 884) 535),aG,bc,(dh 43),(fP "_law_names" "_law_names" 903 299 2 537),(di 43 (aH "law_seekhall_k20_whole_wishes_by_all_filling" 884) 540),aG,bc,(bD 912 ["_law_deal_here","_law_value","_law_pool_here","_law_k"]),aG,(dh 44),(gS "_law_pool" 909 311 1 542 916),(di 44 (aH "law_seekhall_k20_whole_wishes_by_all_filling" 884) 547),aG,bc,(dh 45),(fP "_law_rooms" "_law_rooms" 919 320 4 549),(di 45 (aH "law_seekhall_k20_whole_wishes_by_all_filling" 884) 552),aG,bc,(bD 928 ["_law_deal_here","_law_things","_law_least","_law_left","_law_found","_law_k"]),aG,(dh 46),(gS "_law_some" 925 328 3 554 934),(di 46 (aH "law_seekhall_k20_whole_wishes_by_all_filling" 884) 559),aG,bc,(bD 940 ["_law_deal_here","_law_low","_law_high","_law_one","_law_other"]),aG,(dh 47),(gS "_law_bounds" 937 334 3 561 945),(di 47 (aH "law_seekhall_k20_whole_wishes_by_all_filling" 884) 566),aG,bc,(dh 48),(fP "_law_sum" "_law_sum" 948 338 3 568),(di 48 (aH "law_seekhall_k20_whole_wishes_by_all_filling" 884) 571),aG,bc,(dh 49),(fP "_law_rows" "_law_rows" 954 349 3 573),(di 49 (aH "law_seekhall_k20_whole_wishes_by_all_filling" 884) 576),aG,bc,(dh 50),(fP "_law_way" "_law_way" 960 356 3 578),(di 50 (aH "law_seekhall_k20_whole_wishes_by_all_filling" 884) 581),aG,bc,(dh 51),(fP "_law_wish" "_law_wish" 966 365 5 583),(di 51 (aH "law_seekhall_k20_whole_wishes_by_all_filling" 884) 586),aG,bc,(dh 52),(fP "_law_hall" "_law_hall" 972 386 4 588),(di 52 (aH "law_seekhall_k20_whole_wishes_by_all_filling" 884) 591),aG,bc,(dh 53),(fP "_law_kept" "_law_kept" 978 393 2 593),(di 53 (aH "law_seekhall_k20_whole_wishes_by_all_filling" 884) 596),aG,bc,(bD 987 ["_law_names_here","_law_rooms_here","_law_fillings_here","_law_name","_law_more","_law_filling","_law_value","_law_other"]),aG,(dh 54),(gS "_law_fillings" 984 415 2 598 995),(di 54 (aH "law_seekhall_k20_whole_wishes_by_all_filling" 884) 603),aG,bc,(dh 55),(fP "_law_sort_right" "_law_sort_right" 998 426 2 605),(di 55 (aH "law_seekhall_k20_whole_wishes_by_all_filling" 884) 608),aG,bc,(bD 1007 ["_law_found","_law_due"]),aG,(dh 56),(gS "_law_truth" 1004 431 2 610 1009),(di 56 (aH "law_seekhall_k20_whole_wishes_by_all_filling" 884) 615),aG,bc,(bD 1015 ["_law_wish_here","_law_names_here","_law_rooms_here","_law_kept_here","_law_filling","_law_due","_law_handed"]),aG,(dh 57),(gS "_law_right" 1012 433 3 617 1022),(di 57 (aH "law_seekhall_k20_whole_wishes_by_all_filling" 884) 622),aG,bc,(dh 58),(fP "law" "law" 1025 445 1 624),(di 58 (aH "law_seekhall_k20_whole_wishes_by_all_filling" 884) 627)]
noncomputable def I0 (P:Params):List Obj:=HE P++(iK (.type "dict") [bE P "__name__" 165 (aH "seekhall.sums" 539),bE P "__doc__" 166 .none,bE P "__package__" 167 .none,bE P "__loader__" 168 (.builtin "__main__.__loader__#opaque"),bE P "__spec__" 169 .none,aB P "__annotations__" 170 6,aB P "__builtins__" 171 4,bE P "__file__" 173 (aH "/claim/cut.py" 172),bE P "__cached__" 174 .none,aB P "are_unlike" 195 21,aB P "is_between" 206 28,aB P "sum_of" 212 33,aB P "values_at" 218 38,aB P "unlike_kept" 226 45,aB P "many_kept" 232 50,aB P "sum_kept" 240 57,aB P "table_kept" 248 64,aB P "way_kept" 260 71,aB P "behind_kept" 266 76,aB P "same_kept" 274 83,aB P "KEEPERS" 289 84,aB P "wish_kept" 297 91,aB P "Wish" 352 129,aB P "Behind" 400 167,aB P "Many" 466 217,aB P "Way" 538 267,aB P "parts_of" 546 274,aB P "spans_of" 557 281] 28 #[]) ::(Hy P++(Hv [(2,20),(5,27),(7,32),(9,37),(11,44),(13,49),(16,56),(18,63),(20,70),(30,75),(33,82),(36,90),(39,97),(53,139),(76,175),(100,225),(132,273),(134,280)]) ::(Hl P++⟨(.type "type"),none,.cls ⟨b_ "Wish",[(.type "object")],[(.ref 129),(.type "object")],128,b_ "Wish",.true,[],[(.ref 167),(.ref 217),(.ref 267)],.false,none,.false⟩,#[none,none,some (aH "Wish" 300),some (aH "Wish" 308),some (.builtin "object.__new__"),some (.bool .true)]⟩ :: HI P))
noncomputable def Hf (P:Params):List Obj:=HE P++(iK (.type "dict") [bE P "__name__" 165 (aH "law_seekhall_k20_whole_wishes_by_all_filling" 884),bE P "__doc__" 166 .none,bE P "__package__" 167 .none,bE P "__loader__" 168 (.builtin "__main__.__loader__#opaque"),bE P "__spec__" 169 .none,aB P "__annotations__" 170 6,aB P "__builtins__" 171 4,bE P "__file__" 173 (aH "/claim/cut.py" 172),bE P "__cached__" 174 .none,aB P "are_unlike" 195 21,aB P "is_between" 206 28,aB P "sum_of" 212 33,aB P "values_at" 218 38,aB P "unlike_kept" 226 45,aB P "many_kept" 232 50,aB P "sum_kept" 240 57,aB P "table_kept" 248 64,aB P "way_kept" 260 71,aB P "behind_kept" 266 76,aB P "same_kept" 274 83,aB P "KEEPERS" 289 84,aB P "wish_kept" 297 91,aB P "Wish" 352 129,aB P "Behind" 400 167,aB P "Many" 466 217,aB P "Way" 538 267,aB P "parts_of" 546 274,aB P "spans_of" 557 281,aB P "Sum" 645 340,aB P "Table" 711 390,aB P "finds_value" 724 399,aB P "Unlike" 778 437,aB P "plain_wish_of" 787 446,aB P "Same" 850 494,aB P "wish_of" 859 503,aB P "is_kept" 867 510,aB P "may_be_kept" 875 517,aB P "may_be_broken" 883 524,aB P "_law_deal" 891 529,aB P "_law_draw" 902 536,aB P "_law_names" 908 541,aB P "_law_pool" 918 548,aB P "_law_rooms" 924 553,aB P "_law_some" 936 560,aB P "_law_bounds" 947 567,aB P "_law_sum" 953 572,aB P "_law_rows" 959 577,aB P "_law_way" 965 582,aB P "_law_wish" 971 587,aB P "_law_hall" 977 592,aB P "_law_kept" 983 597,aB P "_law_fillings" 997 604,aB P "_law_sort_right" 1003 609,aB P "_law_truth" 1011 616,aB P "_law_right" 1024 623,aB P "law" 1030 628] 56 #[]) ::(Hy P++(Hv [(2,20),(5,27),(7,32),(9,37),(11,44),(13,49),(16,56),(18,63),(20,70),(30,75),(33,82),(36,90),(39,97),(53,139),(76,175),(100,225),(132,273),(134,280),(140,287),(178,348),(203,398),(211,405),(236,445),(248,452),(271,502),(275,509),(277,516),(279,523),(282,528),(288,535),(299,540),(311,547),(320,552),(328,559),(334,566),(338,571),(349,576),(356,581),(365,586),(386,591),(393,596),(415,603),(426,608),(431,615),(433,622),(445,627)]) ::(Hl P++⟨(.type "type"),none,.cls ⟨b_ "Wish",[(.type "object")],[(.ref 129),(.type "object")],128,b_ "Wish",.true,[],[(.ref 167),(.ref 217),(.ref 267),(.ref 340),(.ref 390),(.ref 437),(.ref 494)],.false,none,.false⟩,#[none,none,some (aH "Wish" 300),some (aH "Wish" 308),some (.builtin "object.__new__"),some (.bool .true)]⟩ ::(HI P++IT P)))
noncomputable def E6 (P:Params):BT:=BF 12 (I0 P)
noncomputable def Hd (P:Params):BT:=BF 12 (Hf P)
def rV:Env:={ scope:=PySem.Challenge.pw_seekhall_k20_whole_wishes_by_all_filling.main.scope,locals:=mainNs,globals:=mainNs,cells:=[],code:=.ref 13,frame:=some 14 }
def xY:List Stmt:=behindTheImports PySem.Challenge.pw_seekhall_k20_whole_wishes_by_all_filling
abbrev pj:Code:=.body xY rV
def Ba:Life:=⟨[],[],[],0,[],[],false,#[],[],0,false,false,false,0,[2000,10,10],false,0,true,[],[],0,false⟩
abbrev zzB:List Frame:=[topFrame ⟨0,0,0,0⟩]
noncomputable abbrev zzS (T:Params->BT) (n k:Nat) (w:World) (B:J6):SharedT:=⟨T w.params,n,Ba,#[],⟨0,0,0,0⟩,k,B⟩
theorem HS (w:World) (B:J6):topGo Kg PySem.Challenge.pw_seekhall_k20_whole_wishes_by_all_filling w 11 (some (.ref 6)) 12 ⟨KD w.params,#[],boot_drawn,boot_toks,B⟩ (topStub PySem.Challenge.pw_seekhall_k20_whole_wishes_by_all_filling)=some ((zzS BZ 15 187 w B).abs,⟨denote Kg pj,pj,⟨0,0,0,0⟩,zzB⟩):=by kernel_rfl
theorem HL (w:World) (B:J6):segRun Kg PySem.Challenge.pw_seekhall_k20_whole_wishes_by_all_filling w 11 (some (.ref 6)) 1 1 (zzS BZ 15 187 w B).abs (blockOf xY rV pj ⟨0,0,0,0⟩ zzB)=some (.next,(zzS BZ 15 187 w B).abs,pj,⟨0,0,0,0⟩):=by kernel_rfl
def Hi (b:Bool):Prop:=∀(B:World) (F:J6),let w:=B.withFollow "special-get-raises" b;segRunT Kg PySem.Challenge.pw_seekhall_k20_whole_wishes_by_all_filling w 11 (some (.ref 6)) 1 2051 (zzS BZ 15 187 w F) (piecesOf (xY.take 26) rV pj ⟨0,0,0,0⟩ zzB)=some (.next,zzS E6 282 558 w F,pj,⟨134,0,139,32⟩)
theorem Hq:Hi false:=by intro w B w;kernel_rfl
theorem GX:Hi true:=by intro w B w;kernel_rfl
theorem Iv (w:World) (B:J6):segRunT Kg PySem.Challenge.pw_seekhall_k20_whole_wishes_by_all_filling w 11 (some (.ref 6)) 1 2343 (zzS E6 282 558 w B) (piecesOf (xY.drop 26) rV pj ⟨134,0,139,32⟩ zzB)=some (.next,zzS Hd 629 1031 w B,pj,⟨445,0,463,15⟩):=by kernel_rfl
noncomputable def pF (P:Params):Heap:=⟨⟨Hf P⟩,Ba⟩
theorem GO (w:World) (B:J6):topRun Kg PySem.Challenge.pw_seekhall_k20_whole_wishes_by_all_filling w 11 (some (.ref 6)) 2 (zzS Hd 629 1031 w B).abs ⟨doneF .next,pj,⟨445,0,463,15⟩,zzB⟩=some ⟨pF w.params,#[],⟨0,0,0,0⟩,1031,B⟩:=by kernel_rfl
theorem Hc (w:World) (B:J6):topRun Kg PySem.Challenge.pw_seekhall_k20_whole_wishes_by_all_filling w 11 (some (.ref 6)) (12+(1+(2051+(2343+2)))) ⟨KD w.params,#[],boot_drawn,boot_toks,B⟩ (topStub PySem.Challenge.pw_seekhall_k20_whole_wishes_by_all_filling)=some ⟨pF w.params,#[],⟨0,0,0,0⟩,1031,B⟩ :=
 go_top (HS w B) (piece_block (HL w B) (show topRun Kg PySem.Challenge.pw_seekhall_k20_whole_wishes_by_all_filling w 11 (some (.ref 6)) _ _ (restOf (xY.take 26++(xY.drop 26++[])) rV pj ⟨0,0,0,0⟩ zzB)=_ from
  piece_app (segRun_of (byRow2 "special-get-raises" (P:=λw=>segRunT Kg PySem.Challenge.pw_seekhall_k20_whole_wishes_by_all_filling w 11 (some (.ref 6)) 1 2051 (zzS BZ 15 187 w B) (piecesOf (xY.take 26) rV pj ⟨0,0,0,0⟩ zzB)=some (.next,zzS E6 282 558 w B,pj,⟨134,0,139,32⟩)) (λw=>Hq w B) (λw=>GX w B) w)) (piece_app (segRun_of (Iv w B)) (GO w B))))
theorem GI (w:World) (B:J6):(staticsOk (Kz PySem.Challenge.pw_seekhall_k20_whole_wishes_by_all_filling.main.body) (KD w.params) (pF w.params) && namesBound PySem.Challenge.pw_seekhall_k20_whole_wishes_by_all_filling (pF w.params) && gensDone ⟨pF w.params,#[],⟨0,0,0,0⟩,1031,B⟩ && laidKept (KD w.params) (pF w.params))=true:=by kernel_rfl
theorem Hu (w:World) (B:J6):(openSeen jk [b_ "KEEPERS"] (Kz PySem.Challenge.pw_seekhall_k20_whole_wishes_by_all_filling.main.body) hX true ⟨pF w.params,#[],⟨0,0,0,0⟩,1031,B⟩).1=(openGood jk [b_ "KEEPERS"]).1:=by kernel_rfl
theorem Hr (w:World) (B:J6):((openSeen jk [b_ "KEEPERS"] (Kz PySem.Challenge.pw_seekhall_k20_whole_wishes_by_all_filling.main.body) hX true ⟨pF w.params,#[],⟨0,0,0,0⟩,1031,B⟩).2.1,(openSeen jk [b_ "KEEPERS"] (Kz PySem.Challenge.pw_seekhall_k20_whole_wishes_by_all_filling.main.body) hX true ⟨pF w.params,#[],⟨0,0,0,0⟩,1031,B⟩).2.2.1)=((openGood jk [b_ "KEEPERS"]).2.1,(openGood jk [b_ "KEEPERS"]).2.2.1):=by kernel_rfl
theorem Hz (w:World) (B:J6):(openSeen jk [b_ "KEEPERS"] (Kz PySem.Challenge.pw_seekhall_k20_whole_wishes_by_all_filling.main.body) hX true ⟨pF w.params,#[],⟨0,0,0,0⟩,1031,B⟩).2.2.2=(openGood jk [b_ "KEEPERS"]).2.2.2:=by kernel_rfl
theorem HH (w:World) (B:J6):Hook.obs hK ⟨pF w.params,#[],⟨0,0,0,0⟩,1031,B⟩=Hook.val hK w:=by kernel_rfl
theorem IM:opening PySem.Challenge.pw_seekhall_k20_whole_wishes_by_all_filling=plainProg PySem.Challenge.pw_seekhall_k20_whole_wishes_by_all_filling.main.scope.names:=by kernel_rfl
theorem Iq (s:Shared):fenceModules? PySem.Challenge.pw_seekhall_k20_whole_wishes_by_all_filling s=some s:=by kernel_rfl
theorem Iw (w:World):((KD w.params).isNs md && (#[]:Array GenState).size == 0,(KD w.params).objs.size,(KD w.params).nsMap md "__annotations__")=(true,11,some (.ref 6)):=by kernel_rfl
theorem hl:LeftO PySem.Challenge.pw_seekhall_k20_whole_wishes_by_all_filling jk [b_ "KEEPERS"] hX (Hook.obs hK) (Hook.val hK) 11800 :=
 LeftO.of_pieces (H₀:=KD) (H₁:=pF) (boot_open IM rfl Iq) Iw Hc (by decide+kernel) (λw=>funext λos=>looks_pair (GI w os) (HA (Hu w os) (Hr w os) (Hz w os) (HH w os)))
theorem wsd:PySem.W.OpenLaw.wellSaid PySem.Challenge.rw_seekhall_k20_whole_wishes_by_all_filling=true:=by kernel_rfl
end Lw
namespace L2
open PySem PySem.Spec PyProof.Rows
abbrev Key:=Sum Int Str
def sZ:Key->Value->Bool
 | .inl k,v=>Value.isInt k v
 | .inr x,v=>Value.isStrOf x v
def IV (w:World):Key->Int
 | .inl k=>hashInt k
 | .inr x=>hashStr w x
theorem bL : ∀{k:Key} {v:Value},sZ k v=true->(∃i t,k=h_ i/\v=Value.int i t)\/(∃x t,k=i9 x/\v=Value.str x t)
 | .inl i,v,h=>by
  obtain⟨t,e⟩:=Value.isInt_shape (k:=i) (v:=v) h;exact .inl ⟨i,t,rfl,e⟩
 | .inr x,v,h=>by
  obtain⟨t,e⟩:=Value.isStrOf_shape (x:=x) (v:=v) h;exact .inr ⟨x,t,rfl,e⟩
theorem zU (i:Int) (t:Tok):sZ (.inl i) (.int i t)=true:=by simp[sZ,Value.isInt]
theorem zR (x:Str) (t:Tok):sZ (.inr x) (.str x t)=true:=by simp[sZ,Value.isStrOf]
theorem FW (a b:Int):decide ((h_ a:Key)=h_ b)=(a == b):=by
 by_cases e:a=b
 .subst e;simp
 .have h : ¬ (h_ a:Key)=h_ b:=λq=>e (Jv q)
  rw[decide_eq_false h];exact(beq_eq_false_iff_ne.mpr e).symm
theorem Gn (a b:Str):decide ((i9 a:Key)=i9 b)=decide (a=b):=by
 by_cases e:a=b
 .subst e;simp
 .have h : ¬ (i9 a:Key)=i9 b:=λq=>e (Sum.inr.inj q)
  rw[decide_eq_false h,decide_eq_false e]
theorem Ga (a:Int) (b:Str):decide ((h_ a:Key)=i9 b)=false:=decide_eq_false (λq=>nomatch q)
theorem Gk (a:Str) (b:Int):decide ((i9 a:Key)=h_ b)=false:=decide_eq_false (λq=>nomatch q)
def bo (prog:Program) (w:World):PySem.KeyKind prog w Key where
 is:=sZ
 hash:=IV w
 inj := λv a b ha F=>by
  rcases bL ha with⟨i,t,rfl,rfl⟩ | ⟨x,t,rfl,rfl⟩
  .rcases bL F with⟨j,u,rfl,e⟩ | ⟨y,u,rfl,e⟩
   .injection e with e1 _;rw[e1]
   .exact nomatch e
  .rcases bL F with⟨j,u,rfl,e⟩ | ⟨y,u,rfl,e⟩
   .exact nomatch e
   .injection e with e1 _;rw[e1]
 byValue:=λk v h=>by
  rcases bL h with⟨i,t,rfl,rfl⟩ | ⟨x,t,rfl,rfl⟩ <;> rfl
 pyHash:=λB h=>by
  rcases bL B with⟨i,t,rfl,rfl⟩ | ⟨x,t,rfl,rfl⟩
  .exact wpAny_pyHash_int h
  .exact wpAny_pyHash_str h
 eqBool:=λhu B h=>by
  rcases bL hu with⟨i,t,rfl,rfl⟩ | ⟨x,t,rfl,rfl⟩
  .rcases bL B with⟨j,u,rfl,rfl⟩ | ⟨y,u,rfl,rfl⟩
   .rw[FW] at h;exact wpAny_eqBool_int h
   .rw[Ga] at h;exact SeqAt.EqAt.int_str i t y u _ _ _ _ h
  .rcases bL B with⟨j,u,rfl,rfl⟩ | ⟨y,u,rfl,rfl⟩
   .rw[Gk] at h;exact SeqAt.EqAt.str_int x t j u _ _ _ _ h
   .rw[Gn] at h;exact wpAny_eqBool_str h
 «strs» := λk x t v h=>by
  rcases bL h with⟨i,u,rfl,e⟩ | ⟨y,u,rfl,e⟩
  .exact nomatch e
  .injection e with e1 _
   subst e1
   cases v <;> rfl
theorem vc (prog:Program) (w:World) (i:Int) (t:Tok):(bo prog w).is (.inl i) (.int i t)=true:=zU i t
theorem uY (prog:Program) (w:World) (x:Str) (t:Tok):(bo prog w).is (.inr x) (.str x t)=true:=zR x t
inductive V where
 | non | bl (b:Bool) | int (i:Int) | str (x:Str) | byt (b:Array UInt8) | flt (b:UInt64) | ref (a:Addr) | ty (n:String)
 deriving DecidableEq
def bg:V->Value->Prop
 | .non,u=>u=w6
 | .bl b,u=>u=JO b
 | .int i,u=>∃t,u=Value.int i t
 | .str x,u=>∃t,u=Value.str x t
 | .byt b,u=>∃t,u=Value.bytes b t
 | .flt b,u=>∃t,u=Value.float b t
 | .ref a,u=>u=j6 a
 | .ty n,u=>u=y2 n
abbrev bi:List V->List Value->Prop:=Paired bg
theorem bi.length {xs:List V} {us:List Value} (r:bi xs us):xs.length=us.length:=Paired.length r
theorem bi.get : ∀{xs:List V} {us:List Value} {i:Nat} {x:V},bi xs us->xs[i]? = some x->∃u,us[i]? = some u/\bg x u
 | _,_,_,_,.nil,e=>by simp at e
 | _,_,0,_,.cons r _,e=>by simp at e;subst e;exact⟨_,rfl,r⟩
 | _,_,i+1,x,.cons _ t,e=>by
  obtain⟨u,h1,h2⟩:=bi.get (i:=i) (x:=x) t (by simpa using e)
  exact⟨u,by simpa using h1,h2⟩
theorem bi.append : ∀{xs ys:List V} {us ws:List Value},bi xs us->bi ys ws->bi (xs++ys) (us++ws)
 | _,_,_,_,.nil,s=>s
 | _,_,_,_,.cons r t,s=>.cons r (bi.append t s)
theorem bi.take : ∀{xs:List V} {us:List Value} (n:Nat),bi xs us->bi (xs.take n) (us.take n)
 | _,_,0,_=>.nil
 | _,_,_+1,.nil=>.nil
 | _,_,n+1,.cons r t=>.cons r (bi.take n t)
theorem bi.drop : ∀{xs:List V} {us:List Value} (n:Nat),bi xs us->bi (xs.drop n) (us.drop n)
 | _,_,0,r=>r
 | _,_,_+1,.nil=>.nil
 | _,_,n+1,.cons _ t=>bi.drop n t
def jc:Option V->Option Value->Prop
 | some v,some u=>bg v u
 | none,none=>True
 | _,_=>False
def KV {κ:Type}:List (κ × V)->List (κ × Value)->Prop:=Paired λ(p:κ × V) (q:κ × Value)=>p.1=q.1/\bg p.2 q.2
def kV:Key->V
 | .inl i=>.int i
 | .inr x=>.str x
inductive HO where
 | lst (xs:List V)
 | tup (xs:List V)
 | dK (kvs:List (Key × V)) | dT (kvs:List (List Key × V))
 | set (S:Int->Bool) (n:Nat)
 | ins (C dx:Addr) (fs:List (Str × V))
 | own (x:Addr)
 | xd (fs:List (Str × V))
 | met (f x:Addr)
 | rng (lo hi:Int)
 | frz (o:Obj) (u:HO)
 | tbl (ps:Array Value)
 | tab (q:Str)
 | ext (φ:Heap->Prop)
abbrev Hp:=Addr->Option HO
def upd (H:Hp) (a:Addr) (o:HO):Hp:=λb=>if b=a then some o else H b
theorem ae {H:Hp} {o:HO}:upd H a o a=some o:=by unfold upd;rw[if_pos rfl]
theorem ag {H:Hp} {o:HO} (h:b≠a):upd H a o b=H b:=by unfold upd;rw[if_neg h]
theorem lU {H:Hp} {o u:HO}:upd (upd H a o) a u=upd H a u:=by
 funext b;unfold upd;split <;> rfl
theorem aX {H:Hp} {o u:HO} (h:H a=some o) (h':H b=some u) (d:o≠u):a≠b:=by
 intro e;subst e;rw[h] at h';exact d (ge h')
theorem ap {H:Hp} {o:HO} (h:H a=some o) (h':H b=none):a≠b:=by
 intro e;subst e;rw[h] at h';cases h'
section
variable (P:Program) (w:World)
def HG (o:Obj) (q:Str):Prop:=∃vs t,o.data = .fields vs/\vs[1]? = some (.str q t)
def bC (H:Hp) (h:Heap) (a:Addr):HO->Prop
 | .lst xs=>xs.length<=hB/\∃(its:List Value) (n:Nat),bi xs its/\h.get? a=some { cls:=.type "list",data:=.seq its.toArray n }
 | .tup xs=>xs.length<=hB/\∃its:List Value,bi xs its/\IsTup h a its.toArray
 | .dK kvs=>kvs.length<=hB/\(a == H_)=false/\∃vs,KV kvs vs/\h.DictOf (bo P w) a vs
 | .dT kvs=>kvs.length<=hB/\(a == H_)=false/\∃xs:List (List Key × Addr × Value),
   Paired (λ(p:List Key × V) (q:List Key × Addr × Value)=>p.1=q.1/\H q.2.1>>(p.1.map kV)/\bg p.2 q.2.2) kvs xs /\
   ∃o es L,h.get? a=some o/\o.ExactDict/\o.data = .dict es L/\es.toList=xs.map (entryOfKey (Jw (bo P w)))/\(xs.map (·.1)).Nodup
 | .set S n=>h.SetOf (intKind P w) a S n
 | .ins C dx fs=>H dx=some (.own a)/\fs.length<=1000/\dx≠a/\h.get? a=some (instObj C dx) /\
   ∃mA,h.Ns1 dx mA/\(∀f,jc (fs.lookup f) (mA f))/\PySem.Within mA (fs.map (·.1))
 | .own _=>∃o,h.get? a=some o
 | .xd fs=>∃mA,h.Ns1 a mA/\∀f,jc (fs.lookup f) (mA f)
 | .rng lo hi=>∃t u v,h.get? a=some { cls:=.type "range",data:=.fields #[.int lo t,.int hi u,.int 1 v] }
 | .frz o u=>h.get? a=some o/\bC H h a u
 | .tbl ps=>h.get? a=some { cls:=.none,data:=.fields ps }
 | .tab q=>∃ps:Array Value,h.get? a=some { cls:=.none,data:=.fields ps }/\TriplesOk ps.toList/\∀pos F,codeAmong pos ps.toList=some F->∃c oc,F=j6 c/\c≠a/\H c=some (.frz oc (.own a))/\HG oc q
 | .met f x=>h.get? a=some (methodObj (.ref f) (.ref x))
 | .ext B=>B h/\(∃o,h.get? a=some o)/\∀h1 h2:Heap,B h1->(∀o,h1.get? a=some o->h2.get? a=some o)->B h2
def HOk (H:Hp) (h:Heap):Prop:=∀a o,H a=some o->bC P w H h a o
end
section
variable {H H':Hp} {o:HO}
theorem bC.lt (x:bC P w H h a o):a < h.objs.size:=by
 cases o with
 | lst xs=>obtain⟨_,_,_,_,e⟩:=x;exact f_ e
 | tup xs=>obtain⟨_,_,_,p⟩:=x;exact p.lt
 | dK kvs=>obtain⟨_,_,_,_,o,_,_,e,_⟩:=x;exact f_ e
 | dT kvs=>obtain⟨_,_,_,_,o,_,_,e,_⟩:=x;exact f_ e
 | set S n=>obtain⟨o,_,_,_,e,_⟩:=x;exact f_ e
 | ins C dx fs=>obtain⟨_,_,_,e,_⟩:=x;exact f_ e
 | own y=>obtain⟨_,e⟩:=x;exact f_ e
 | xd fs=>obtain⟨_,⟨_,_,_,e,_⟩,_⟩:=x;exact f_ e
 | rng lo hi=>obtain⟨_,_,_,e⟩:=x;exact f_ e
 | frz ob u=>obtain⟨e,_⟩:=x;exact f_ e
 | tbl ps=>exact f_ (show h.get? a=some _ from x)
 | tab q=>obtain⟨_,e,_⟩:=x;exact f_ e
 | met f y=>exact f_ (show h.get? a=some _ from x)
 | ext B=>obtain⟨_,⟨_,e⟩,_⟩:=x;exact f_ e
theorem Paired.mapP {α Y:Type} {F G:α->Y->Prop} : ∀{L:List α} {B:List Y},Paired F L B->(∀a b,F a b->G a b)->Paired G L B
 | _,_,.nil,_=>.nil
 | _,_,.cons r t,f=>.cons (f _ _ r) (Paired.mapP t f)
theorem bC.stay (x:bC P w H h a o) (k : ∀b u,(b=a\/H b=some (.own a))->h.get? b=some u->h'.get? b=some u)
  (Z : ∀b,H b=some (.own a)->H' b=some (.own a)) (ht : ∀b xs,H b>>xs->H' b>>xs) (hz : ∀b o y,H b=some (.frz o (.own y))->H' b=some (.frz o (.own y)):=by exact λ_ _ _ q=>q):bC P w H' h' a o:=by
 induction o with
 | lst xs=>obtain⟨z,its,n,r,e⟩:=x;exact⟨z,its,n,r,k _ _ (.inl rfl) e⟩
 | tup xs=>obtain⟨z,its,r,ob,e,c⟩:=x;exact⟨z,its,r,ob,k _ _ (.inl rfl) e,c⟩
 | dK kvs=>obtain⟨z,y,vs,r,ob,es,B,e,c⟩:=x;exact⟨z,y,vs,r,ob,es,B,k _ _ (.inl rfl) e,c⟩
 | dT kvs =>
  obtain⟨z,y,xs,r,ob,es,B,e,c⟩:=x;exact⟨z,y,xs,Paired.mapP r λp q z=>⟨z.1,ht _ _ z.2.1,z.2.2⟩,ob,es,B,k _ _ (.inl rfl) e,c⟩
 | set S n=>obtain⟨ob,es,B,t,e,c⟩:=x;exact⟨ob,es,B,t,k _ _ (.inl rfl) e,c⟩
 | ins C dx fs =>
  obtain⟨d,z,ne,e,mA,⟨od,es,B,e2,c⟩,r⟩:=x;exact⟨Z _ d,z,ne,k _ _ (.inl rfl) e,mA,⟨od,es,B,k _ _ (.inr d) e2,c⟩,r⟩
 | own y=>obtain⟨ob,e⟩:=x;exact⟨ob,k _ _ (.inl rfl) e⟩
 | xd fs=>obtain⟨mA,⟨od,es,B,e,c⟩,r⟩:=x;exact⟨mA,⟨od,es,B,k _ _ (.inl rfl) e,c⟩,r⟩
 | rng lo hi=>obtain⟨t,u,v,e⟩:=x;exact⟨t,u,v,k _ _ (.inl rfl) e⟩
 | frz ob u Y=>obtain⟨e,q⟩:=x;exact⟨k _ _ (.inl rfl) e,Y q⟩
 | tbl ps =>
  have e:h.get? a=some { cls:=.none,data:=.fields ps }:=x
  show h'.get? a=some { cls:=.none,data:=.fields ps }
  exact k a _ (.inl rfl) e
 | tab q =>
  obtain⟨ps,e,t,hc⟩:=x;refine⟨ps,k _ _ (.inl rfl) e,t,λpos cv z=>?_⟩
  obtain⟨c,oc,F,ne,hw,L⟩:=hc pos cv z;exact⟨c,oc,F,ne,hz _ _ _ hw,L⟩
 | met f y =>
  have e:h.get? a=some (methodObj (.ref f) (.ref y)):=x
  show h'.get? a=some (methodObj (.ref f) (.ref y))
  exact k a _ (.inl rfl) e
 | ext φ=>obtain⟨p,⟨o,e⟩,st⟩:=x;exact⟨st _ _ p λo q=>k _ _ (.inl rfl) q,⟨o,k _ _ (.inl rfl) e⟩,st⟩
theorem HOk.lt (x:HOk P w H h) (e:H a=some o):a < h.objs.size:=(x a o e).lt
theorem HOk.fresh (x:HOk P w H h) (e:h.objs.size<=a):H a=none:=by
 cases q:H a with
 | none=>rfl
 | some u=>exact absurd (hH (x.lt q) e) (s_ _)
theorem HOk.kept (x:HOk P w H h) (k : ∀b u,h.get? b=some u->h'.get? b=some u):HOk P w H h':=λa o e =>
 (x a o e).stay (λb u _ q=>k b u q) (λ_ q=>q) λ_ _ q=>q
theorem HOk.laid (x:HOk P w H h) (k : ∀b u,h.get? b=some u->h'.get? b=some u) (hp:h.objs.size<=a) (new:bC P w (upd H a o) h' a o):HOk P w (upd H a o) h':=λb u e=>by
 have B:=x.fresh hp
 by_cases F:b=a
 .subst F;rw[ae] at e;cases e;exact new
 .rw[ag F] at e
  exact(x b u e).stay (λc v _ q=>k c v q) (λc q=>by rw[ag (ap q B)];exact q) (λc xs q=>by rw[ag (ap q B)];exact q) λc _ _ q=>by rw[ag (ap q B)];exact q
end
def Rd (H:Hp) (a:Addr) (u:HO):Prop:=H a=some u\/∃o,H a=some (.frz o u)
theorem Rd.ok {H:Hp} {u:HO} (r:Rd H a u) (x:HOk P w H h):bC P w H h a u:=by
 rcases r with r | ⟨o,r⟩
 .exact x a u r
 .obtain⟨_,q⟩:=x a _ r
  exact q
def Mut:Option HO->Prop
 | some (.lst _)=>True
 | some (.dK _)=>True
 | some (.dT _)=>True
 | some (.set _ _)=>True
 | some (.ins _ _ _)=>True
 | some (.ext _)=>True
 | some (.tab _)=>True
 | _=>False
section
variable {H:Hp} {x e:Addr} {o':HO}
theorem HOk.write (ok:HOk P w H h) (L:Mut (H x)) (he:e=x\/H e=some (.own x)) (k : ∀b u,b≠e->h.get? b=some u->h'.get? b=some u) (aa : ∃u,h'.get? e=some u)
  (new:bC P w (upd H x o') h' x o'):HOk P w (upd H x o') h':=λb u q=>by
 have F : ∀c y,H c=some (.own y)->c≠x:=λc y r z=>by subst z;rw[r] at L;exact L
 have Y : ∀c xs,H c>>xs->c≠x:=λc xs r z=>by subst z;rw[r] at L;exact L
 by_cases hb:b=x
 .subst hb;rw[ae] at q;cases q;exact new
 .rw[ag hb] at q
  by_cases B:b=e
  .have q':H b=some (.own x):=by
    rcases he with z | z
    .exact absurd (B.trans z) hb
    .rw[B];exact z
   rw[q] at q';cases q';obtain⟨v,hv⟩:=aa;exact⟨v,by rw[B];exact hv⟩
  .refine(ok b u q).stay (λc v Z r=>k c v ?_ r) (λc r=>by rw[ag (F c b r)];exact r) (λc xs r=>by rw[ag (Y c xs r)];exact r) λc _ _ r=>by rw[ag (λz=>by subst z;rw[r] at L;exact L)];exact r
   rcases Z with rfl | Z
   .exact B
   .rintro rfl
    rcases he with z | z
    .exact F c b Z z
    .rw[Z] at z;cases z;exact hb rfl
end
structure Un (fs ex:List Addr) (H H':Hp) (h h':Heap):Prop where
 keep : ∀b o,h.get? b=some o->H b=none->b∉fs->b∉ex->h'.get? b=some o
 slot : ∀b o,h.get? b=some o->H b=none->b∈fs->b∉ex->∃sl,h'.get? b=some { o with slots:=sl }
 free : ∀b o,h.get? b=some o->H b=none->b∉ex->H' b=none
 there : ∀b o,h.get? b=some o->b∉ex->∃o',h'.get? b=some o'
 tups : ∀b xs,H b>>xs->H' b>>xs
 frzs : ∀b o u,H b=some (.frz o u)->H' b=some (.frz o u)
 tbls : ∀b ps,H b=some (.tbl ps)->∃more,H' b=some (.tbl (ps++more))
section
variable {fs fs' ex ex':List Addr} {H H1 H2:Hp} {h1 h2:Heap} {x e:Addr} {o:HO}
theorem Un.any (u:Un fs ex H H1 h h1) {b:Addr} {ob:Obj} (q:h.get? b=some ob) (n:H b=none) (F:b∉ex) : ∃sl,h1.get? b=some { ob with slots:=sl }:=by
 by_cases B:b∈fs
 .exact u.slot b ob q n B F
 .exact⟨ob.slots,u.keep b ob q n B F⟩
theorem Un.kept (k : ∀b u,h.get? b=some u->h'.get? b=some u):Un fs ex H H h h' :=
 ⟨λb ob q _ _ _=>k b ob q,λb ob q _ _ _=>⟨ob.slots,k b ob q⟩,λ_ _ _ n _=>n,λb ob q _=>⟨ob,k b ob q⟩,λ_ _ q=>q,λ_ _ _ q=>q,λ_ ps q=>⟨#[],by rw[q];simp⟩⟩
theorem Un.refl:Un fs ex H H h h:=Un.kept λ_ _ q=>q
theorem Un.laid (k : ∀b u,h.get? b=some u->h'.get? b=some u) (hp:h.objs.size<=a) (B:H a=none):Un fs ex H (upd H a o) h h' where
 keep:=λb u q _ _ _=>k b u q
 slot:=λb u q _ _ _=>⟨u.slots,k b u q⟩
 free:=λb u q n _=>by rw[ag (mu (hH (f_ q) hp))];exact n
 there:=λb u q _=>⟨u,k b u q⟩
 tups:=λb xs q=>by rw[ag (ap q B)];exact q
 frzs:=λb u xs q=>by rw[ag (ap q B)];exact q
 tbls:=λb ps q=>⟨#[],by rw[ag (ap q B),q];simp⟩
theorem Un.write (F:Mut (H x)) (he:e=x\/H e=some (.own x)) (k : ∀b u,b≠e->h.get? b=some u->h'.get? b=some u) (L : ∃u,h'.get? e=some u):Un fs ex H (upd H x o) h h':=by
 have hx : ∀b,H b=none->b≠x:=λb n z=>by subst z;rw[n] at F;exact F
 have Z : ∀b,H b=none->b≠e:=λb n z=>by
  subst z;rcases he with r | r
  .exact hx b n r
  .rw[n] at r;cases r
 have Y : ∀b u,H b=some u->¬ Mut (some u)->b≠x:=λb u q nm z=>by subst z;rw[q] at F;exact nm F
 refine⟨λb u q n _ _=>k b u (Z b n) q,λb u q n _ _=>⟨u.slots,k b u (Z b n) q⟩,λb u q n _=>by rw[ag (hx b n)];exact n,λb u q _=>?_,
  λb xs q=>by rw[ag (Y b _ q λz=>z)];exact q,λb u xs q=>by rw[ag (Y b _ q λz=>z)];exact q,λb ps q=>⟨#[],by rw[ag (Y b _ q λz=>z),q];simp⟩⟩
 by_cases B:b=e
 .subst B;exact L
 .exact⟨u,k b u B q⟩
end
def trk (h:Heap) (H:Hp):List Addr:=(range h.objs.size).filter λa=>(H a).isSome
def ub (h:Heap) (H:Hp):Heap:=PySem.W.hideAll h (trk h H)
theorem As (h:Heap) (H:Hp):(ub h H).objs.size=h.objs.size:=PySem.W.hideAll_size _ _
theorem Ca {H:Hp} {o:Obj} (e:h.get? b=some o) (n:H b=none):(ub h H).get? b=some o :=
 PySem.W.hideAll_get _ e λB=>by
  have q:(H b).isSome=true:=(E_.mp B).2
  rw[n] at q;simp at q
theorem Eh {H:Hp} {o:Obj} (e:(ub h H).get? b=some o):h.get? b=some o/\H b=none:=by
 have B:h.get? b=some o:=PySem.W.of_hideAll (trk h H) e
 refine⟨B,?_⟩
 cases q:H b with
 | none=>rfl
 | some x =>
  have F:b∈trk h H:=E_.mpr ⟨Kf.mpr (f_ B),by simp[q]⟩
  have z:(ub h H).get? b=none:=PySem.W.hideAll_none (trk h H) F
  rw[z] at e;cases e
structure Mod (K:fy) (mg:Str->Option Value) (base:Heap):Prop where
 kin:K.In base
 glob:base.Ns md mg
 blt : ∃mb,base.Ns builtinsNs mb/\∀x:Str,x ≠ "__name__" -> mb x=y7 x
 nolimit:base.NoLimit
structure Cx where
 prog:Program
 w:World
 K:fy
 mg:Str->Option Value
 base:Heap
 A:Around
 N:List Str
 s₀:Shared
 H₀:Hp
 env:Env
 outer:List Env
 stack:List Env
 ex:List Addr
 fn:Str->Bool
 calm:Bool
 pn:List (Addr × Obj)
 xe:Value->Shared->Prop
def frs (l:List Env):List Addr:=l.filterMap (·.frame)
abbrev Cx.fs (X:Cx):List Addr:=frs X.outer
def Vis (sc:Scope) (x:Str):Prop:=sc.names.lookup x=some .local\/sc.names.lookup x=some .cell\/sc.names.lookup x=some .free
def Loc (sc:Scope) (x:Str):Prop:=sc.names.lookup x=some .local\/sc.names.lookup x=some .cell
def Il (env:Env) (h:Heap) (m:Str->Option Value) (x:Str) (u:Value):Prop :=
 (env.kindOf x=some .local/\m x=some u)\/((env.kindOf x=some .cell\/env.kindOf x=some .free)/\∃c,env.cells.lookup x=some c/\h.IsCell c (some u))
structure Cx.Ok (X:Cx):Prop where
 mod:Mod X.K X.mg X.base
 kind:X.env.scope.kind = .function
 glob:X.env.globals=md
 blt:X.env.builtins=builtinsNs
 above:X.s₀.heap.objs.size<=X.env.locals
 inj : ∀x y c,X.env.cells.lookup x=some c->X.env.cells.lookup y=some c->x=y
 has : ∀x,(X.env.kindOf x=some .cell\/X.env.kindOf x=some .free)->∃c,X.env.cells.lookup x=some c
 cab : ∀x c,X.fn x=true->X.env.cells.lookup x=some c->X.s₀.heap.objs.size<=c
 hd:X.calm=true->X.A.handled=none
 frames:X.A.frames=some X.stack
 stk:X.stack=X.outer\/(X.stack=X.env :: X.outer/\X.env.frame=some X.env.locals)
 exf : ∀b∈X.ex,b≠X.env.locals/\∀x c,X.env.cells.lookup x=some c->c≠b
 bs : ∀b o,X.base.get? b=some o->X.s₀.heap.get? b=some o/\X.H₀ b=none
 bsz:X.base.objs.size<=X.s₀.heap.objs.size
 noex : ∀b o,X.base.get? b=some o->b∉X.ex
 exfs : ∀b∈X.ex,b∉X.fs
 funs:X.s₀.heap.FunFrames X.base X.outer
 frf : ∀b∈X.fs,X.H₀ b=none
structure Inv (X:Cx) (pins:List (Addr × Obj)) (σ:List (Option V)) (H:Hp) (s:Shared):Prop where
 ok:X.Ok
 os:s.os=X.s₀.os
 bare:AllBare s.gens
 base:Un X.fs X.ex X.H₀ H X.s₀.heap s.heap
 loc : ∃m,s.heap.Ns X.env.locals m/\∀(i:Nat) (x:Str) (v:V),X.N[i]? = some x->σ[i]? = some (some v)->Vis X.env.scope x->∃u,bg v u/\Il X.env s.heap m x u
 cell : ∀x c,X.env.cells.lookup x=some c->∃v,s.heap.IsCell c v
 free:H X.env.locals=none
 freeC : ∀x c,X.env.cells.lookup x=some c->H c=none
 pin : ∀p∈X.pn++pins,s.heap.get? p.1=some p.2/\H p.1=none/\p.1≠X.env.locals/\p.1∉X.fs/\∀v,p.2.data≠.cell v
 hok:HOk X.prog X.w H s.heap
 len:σ.length=X.N.length
section
variable {X:Cx} {σ:List (Option V)} {H H':Hp}
theorem Cx.Ok.nofr (ok:X.Ok) {b:Addr} {o:Obj} (e:X.base.get? b=some o):b∉X.fs:=λB=>by
 have:=(ok.funs.mem B).1
 rw[e] at this;cases this
theorem Inv.bs (I:Inv X pins σ H s) : ∀b o,X.base.get? b=some o->s.heap.get? b=some o/\H b=none:=λb o e =>
 ⟨I.base.keep b o (I.ok.bs b o e).1 (I.ok.bs b o e).2 (I.ok.nofr e) (I.ok.noex b o e),I.base.free b o (I.ok.bs b o e).1 (I.ok.bs b o e).2 (I.ok.noex b o e)⟩
theorem Inv.bk (I:Inv X pins σ H s) : ∀b o,X.base.get? b=some o->s.heap.get? b=some o:=λb o e=>(I.bs b o e).1
theorem Inv.mod (I:Inv X pins σ H s):Mod X.K X.mg X.base:=I.ok.mod
theorem Inv.kIn (I:Inv X pins σ H s):X.K.In s.heap:=I.ok.mod.kin.keeps I.bk
theorem Inv.lt (I:Inv X pins σ H s):X.env.locals < s.heap.objs.size:=let ⟨_,hn,_⟩:=I.loc;hn.lt
theorem Inv.sz (I:Inv X pins σ H s):X.s₀.heap.objs.size<=s.heap.objs.size:=i8 I.ok.above (Jc I.lt)
theorem Inv.nofs (I:Inv X pins σ H s) {a:Addr} (h:s.heap.objs.size<=a):a∉X.fs:=λF=>by
 obtain⟨_,o,B,_⟩:=I.ok.funs.mem F;exact absurd (hH (f_ B) (i8 I.sz h)) (s_ _)
theorem Inv.cne (I:Inv X pins σ H s) : ∀x c,X.env.cells.lookup x=some c->c≠X.env.locals:=λx c e z=>by
 obtain⟨v,o,Y,L⟩:=I.cell x c e;obtain⟨m,⟨o',es,Z,B,F,_⟩,_⟩:=I.loc;rw[z,B] at Y;cases Y;rw[F] at L;cases L
theorem Inv.funs (I:Inv X pins σ H s):s.heap.FunFrames X.base X.outer:=by
 have all : ∀(l:List Env),(∀b∈frs l,b∈X.fs)->X.s₀.heap.FunFrames X.base l->s.heap.FunFrames X.base l:=by
  intro l
  induction l with
  | nil=>intro _ _;trivial
  | cons env r ih =>
   intro Z hl;obtain⟨hk,⟨L,o,B,hn,ho,hd⟩,hr⟩:=hl;have F:L∈X.fs:=Z L (by unfold frs;rw[J1,B];exact m8)
   obtain⟨sl,e⟩:=I.base.slot L o ho (I.ok.frf L F) F λz=>I.ok.exfs L z F
   exact⟨hk,⟨L,_,B,hn,e,hd⟩,ih (λb Y=>Z b (by unfold frs;rw[J1,B];exact k6 _ Y)) hr⟩
 exact all X.outer (λ_ Y=>Y) I.ok.funs
theorem Inv.stack (I:Inv X pins σ H s):s.heap.FunFrames X.base X.stack:=by
 rcases I.ok.stk with e | ⟨e,hf⟩
 .rw[e];exact I.funs
 .rw[e]
  obtain⟨m,B,_⟩:=I.loc;refine .cons (by rw[I.ok.kind];decide) hf B ?_ I.funs
  exact Heap.get?_none_of_le (i8 I.ok.bsz I.ok.above)
theorem Inv.stkSub (I:Inv X pins σ H s) : ∀b∈frs X.stack,b∈X.env.locals :: X.fs:=λb B=>by
 rcases I.ok.stk with e | ⟨e,hf⟩
 .rw[e] at B;exact k6 _ B
 .rw[e] at B
  unfold frs at B;rw[J1,hf] at B;exact B
theorem Inv.stkFree (I:Inv X pins σ H s) : ∀b∈frs X.stack,H b=none:=λb B=>by
 rcases i7.mp (I.stkSub b B) with e | B
 .rw[e];exact I.free
 .obtain⟨_,o,ho,_⟩:=I.ok.funs.mem B
  exact I.base.free b o ho (I.ok.frf b B) λz=>I.ok.exfs b z B
theorem Inv.step (I:Inv X pins σ H s)
  (L : ∀b∈ch,(b∈X.ex\/X.s₀.heap.objs.size<=b)/\b≠X.env.locals/\(∀x c,X.env.cells.lookup x=some c->c≠b)/\∀p∈X.pn++pins,p.1≠b)
  (keep : ∀b o,b≠X.env.locals->b∉X.fs->b∉ch->s.heap.get? b=some o->H b=none->h'.get? b=some o)
  (slot : ∀b o,b≠X.env.locals->b∈X.fs->b∉ch->s.heap.get? b=some o->H b=none->∃sl,h'.get? b=some { o with slots:=sl }) (free : ∀b o,b∉ch->s.heap.get? b=some o->H b=none->H' b=none)
  (there : ∀b o,b∉ch->s.heap.get? b=some o->∃o',h'.get? b=some o')
  (tups : ∀b xs,H b>>xs->H' b>>xs) (frzs : ∀b o u,H b=some (.frz o u)->H' b=some (.frz o u)) (tbls : ∀b ps,H b=some (.tbl ps)->∃ab,H' b=some (.tbl (ps++ab)))
  (ns : ∀m,s.heap.Ns X.env.locals m->h'.Ns X.env.locals m) (ad:HOk X.prog X.w H' h') (hg:AllBare g') :
  Inv X pins σ H' { s with heap:=h',gens:=g',drawn:=d',toks:=t' }:=by
 have aa : ∀b o,X.s₀.heap.get? b=some o->b≠X.env.locals:=λb o e=>mu (hH (f_ e) I.ok.above)
 have Z : ∀b o,X.s₀.heap.get? b=some o->b∉X.ex->b∉ch:=λb o e B hb=>by
  rcases (L b hb).1 with z | z
  .exact B z
  .exact absurd (hH (f_ e) z) (s_ _)
 have Y : ∀x c,X.env.cells.lookup x=some c->∀v,s.heap.IsCell c v->h'.IsCell c v:=λx c e v ⟨o,ho,hd⟩=>by
  have F:c∉ch:=λz=>(L c z).2.2.1 x c e rfl
  by_cases hc:c∈X.fs
  .obtain⟨sl,q⟩:=slot c o (I.cne x c e) hc F ho (I.freeC x c e)
   exact⟨_,q,hd⟩
  .exact⟨o,keep c o (I.cne x c e) hc F ho (I.freeC x c e),hd⟩
 refine⟨I.ok,I.os,hg,⟨λb o e n hb B=>?_,λb o e n hb B=>?_,λb o e n B=>?_,λb o e B=>?_,λb xs e=>tups b xs (I.base.tups b xs e),λb o xs e=>frzs b o xs (I.base.frzs b o xs e),λb ps e=>?_⟩,?_,λx c e=>?_,?_,λx c e=>?_,λp hp=>?_,ad,I.len⟩
 .exact keep b o (aa b o e) hb (Z b o e B) (I.base.keep b o e n hb B) (I.base.free b o e n B)
 .obtain⟨sl,e1⟩:=I.base.slot b o e n hb B
  obtain⟨ac,e2⟩:=slot b _ (aa b o e) hb (Z b o e B) e1 (I.base.free b o e n B);exact⟨ac,e2⟩
 .obtain⟨o',e1⟩:=I.base.there b o e B
  exact free b o' (Z b o e B) e1 (I.base.free b o e n B)
 .obtain⟨o',e1⟩:=I.base.there b o e B
  exact there b o' (Z b o e B) e1
 .obtain⟨m1,e1⟩:=I.base.tbls b ps e
  obtain⟨m2,e2⟩:=tbls b _ e1;exact⟨m1++m2,by rw[e2,Array.append_assoc]⟩
 .obtain⟨m,hn,hl⟩:=I.loc
  refine⟨m,ns m hn,λi x v e1 e2 e3=>?_⟩
  obtain⟨u,r,l⟩:=hl i x v e1 e2 e3;refine⟨u,r,?_⟩
  rcases l with l | ⟨k,c,e,z⟩
  .exact .inl l
  .exact .inr ⟨k,c,e,Y x c e _ z⟩
 .obtain⟨v,z⟩:=I.cell x c e
  exact⟨v,Y x c e v z⟩
 .obtain⟨m,⟨o,_,_,ho,_⟩,_⟩:=I.loc
  exact free _ o (λz=>(L _ z).2.1 rfl) ho I.free
 .obtain⟨v,o,ho,hd⟩:=I.cell x c e
  exact free c o (λz=>(L c z).2.2.1 x c e rfl) ho (I.freeC x c e)
 .obtain⟨e,n,ne,nf,d⟩:=I.pin p hp
  have F:p.1∉ch:=λz=>(L p.1 z).2.2.2 p hp rfl
  exact⟨keep p.1 p.2 ne nf F e n,free p.1 p.2 F e n,ne,nf,d⟩
theorem Inv.un (I:Inv X pins σ H s) (u:Un X.fs [] H H' s.heap h') (F:HOk X.prog X.w H' h'):Inv X pins σ H' { s with heap:=h',toks:=t' }:=by
 obtain⟨m,⟨o,es,ep,ho,r⟩,_⟩:=id I.loc;obtain⟨sl,hL⟩:=u.any ho I.free (by simp)
 exact I.step (g':=s.gens) (d':=s.drawn) (ch:=[]) (λ_ z=>nomatch z) (λb o _ Y _ e n=>u.keep b o e n Y (by simp)) (λb o _ Y _ e n=>u.slot b o e n Y (by simp)) (λb o _ e n=>u.free b o e n (by simp)) (λb o _ e=>u.there b o e (by simp)) u.tups u.frzs u.tbls (λm' hm=>by
  obtain⟨o',Z,L,B,r'⟩:=hm;rw[ho] at B;cases B;exact⟨_,Z,L,hL,r'⟩) F I.bare
theorem Inv.call (I:Inv X pins σ H s) (u:Un (frs X.stack) ch H H' s.heap h') (Y:HOk X.prog X.w H' h') (hg:AllBare g')
  (L : ∀b∈ch,(b∈X.ex\/X.s₀.heap.objs.size<=b)/\b≠X.env.locals/\(∀x c,X.env.cells.lookup x=some c->c≠b)/\∀p∈X.pn++pins,p.1≠b) :
  Inv X pins σ H' { s with heap:=h',gens:=g',drawn:=d',toks:=t' }:=by
 obtain⟨m,⟨o,es,ep,ho,r⟩,_⟩:=id I.loc;obtain⟨sl,hL⟩:=u.any ho I.free λz=>(L _ z).2.1 rfl
 exact I.step (ch:=ch) L (λb o hL hb B e n=>u.keep b o e n (λz=>(i7.mp (I.stkSub b z)).elim hL hb) B) (λb o _ _ B e n=>u.any e n B) (λb o B e n=>u.free b o e n B) (λb o B e=>u.there b o e B) u.tups u.frzs u.tbls (λm' hm=>by
  obtain⟨o',aa,Z,F,r'⟩:=hm;rw[ho] at F;cases F;exact⟨_,aa,Z,hL,r'⟩) Y hg
theorem Inv.turned (I:Inv X pins σ H s) (k : ∀b o,b≠it->s.heap.get? b=some o->h'.get? b=some o) (Y:H it=none) (L:it≠X.env.locals)
  (h1:it∈X.ex\/X.s₀.heap.objs.size<=it) (h2 : ∀x c,X.env.cells.lookup x=some c->c≠it) (Z : ∀p∈X.pn++pins,p.1≠it):Inv X pins σ H { s with heap:=h',toks:=t' }:=by
 have F : ∀b u,H b=some u->b≠it:=λb u e z=>by rw[z,Y] at e;cases e
 refine I.step (g':=s.gens) (d':=s.drawn) (ch:=[it]) (λb hb=>?_) (λb o _ _ B e _=>k b o (λz=>B (by simp[z])) e) (λb o _ _ B e _=>⟨o.slots,k b o (λz=>B (by simp[z])) e⟩) (λ_ _ _ _ n=>n)
  (λb o B e=>⟨o,k b o (λz=>B (by simp[z])) e⟩) (λ_ _ e=>e) (λ_ _ _ e=>e) (λb ps e=>⟨#[],by rw[e];simp⟩) (λm hm=>?_) (λb u e=>?_) I.bare
 .have e:b=it:=by simpa using hb
  subst e;exact⟨h1,L,h2,Z⟩
 .obtain⟨o,es,ep,ho,r⟩:=hm
  exact⟨o,es,ep,k _ o (k_ L) ho,r⟩
 .refine(I.hok b u e).stay (λc v B q=>k c v ?_ q) (λ_ q=>q) λ_ _ q=>q
  rcases B with z | z
  .rw[z];exact F b u e
  .exact F c _ z
theorem Inv.tok (I:Inv X pins σ H s) (t:Nat):Inv X pins σ H { s with toks:=t }:=I.un (h':=s.heap) (t':=t) Un.refl I.hok
theorem Inv.kept {t':Nat} (I:Inv X pins σ H s) (k : ∀b u,s.heap.get? b=some u->h'.get? b=some u):Inv X pins σ H { s with heap:=h',toks:=t' }:=I.un (Un.kept k) (I.hok.kept k)
theorem Inv.laid {a:Addr} {o:HO} {t':Nat} (I:Inv X pins σ H s) (k : ∀b u,s.heap.get? b=some u->h'.get? b=some u) (hp:s.heap.objs.size<=a) (new:bC X.prog X.w (upd H a o) h' a o) :
  Inv X pins σ (upd H a o) { s with heap:=h',toks:=t' }:=I.un (Un.laid k hp (I.hok.fresh hp)) (I.hok.laid k hp new)
theorem Inv.write {x e:Addr} {o:HO} {t':Nat} (I:Inv X pins σ H s) (F:Mut (H x)) (L:e=x\/H e=some (.own x)) (k : ∀b u,b≠e->s.heap.get? b=some u->h'.get? b=some u) (B : ∃u,h'.get? e=some u)
  (new:bC X.prog X.w (upd H x o) h' x o):Inv X pins σ (upd H x o) { s with heap:=h',toks:=t' }:=I.un (Un.write F L k B) (I.hok.write F L k B new)
theorem Inv.weak {σ':List (Option V)} (I:Inv X pins σ H s) (hl:σ'.length=σ.length) (w : ∀(i:Nat) v,σ'[i]? = some (some v)->σ[i]? = some (some v)):Inv X pins σ' H s :=
 ⟨I.ok,I.os,I.bare,I.base,let ⟨m,hn,hl'⟩:=I.loc;⟨m,hn,λi x v e1 e2 B=>hl' i x v e1 (w i v e2) B⟩,I.cell,I.free,I.freeC,I.pin,I.hok,hl.trans I.len⟩
theorem Inv.pins_of (I:Inv X pins σ H s) (h : ∀p∈pins',s.heap.get? p.1=some p.2/\H p.1=none/\p.1≠X.env.locals/\p.1∉X.fs/\∀v,p.2.data≠.cell v):Inv X pins' σ H s :=
 ⟨I.ok,I.os,I.bare,I.base,I.loc,I.cell,I.free,I.freeC,λp hp=>(j9.mp hp).elim (λz=>I.pin p (k9 _ z)) (h p),I.hok,I.len⟩
theorem vZ (B:N.Nodup) {i j:Nat} {x:Str} (a:N[i]? = some x) (b:N[j]? = some x):i=j:=by
 obtain⟨h1,e1⟩:=g_.mp a;obtain⟨h2,e2⟩:=g_.mp b;exact(List.getElem_inj B).mp (e1.trans e2.symm)
theorem sx {v:V} {Q:Unit->Shared->Prop} (I:Inv X pins σ H s) (hN:X.N.Nodup) (hi:X.N[i]? = some x) (Y:Loc X.env.scope x) (r:bg v u)
  (h : ∀s',Inv X pins (σ.set i (some v)) H s'->(∃a,J7 a s.heap s'.heap/\(a=X.env.locals\/X.env.cells.lookup x=some a))->Q Unit.unit s') (hf:X.fn x=true\/X.env.scope.names.lookup x=some .local:=by first | exact .inl rfl | exact .inr rfl | assumption):wpAny M A (storeName X.env x u) Q E s:=by
 obtain⟨m,hn,hl⟩:=id I.loc;have ad:(X.env.scope.kind == .class || (X.env.scope.kind == .module && X.env.locals != X.env.globals))=false:=by rw[I.ok.kind];rfl
 have aa:i < σ.length:=by rw[I.len];exact(g_.mp hi).1
 have cne:=I.cne;have F : ∀{a:Addr} {h':Heap},(∃o,s.heap.get? a=some o/\H a=none)->J7 a s.heap h'->HOk X.prog X.w H h':=λ{a h'} ha B b ob e=>by
  obtain⟨_,_,Z⟩:=ha;refine(I.hok b ob e).stay (λc w' L q=>(B.2 c ?_).trans q) (λ_ q=>q) λ_ _ q=>q
  rintro rfl
  rcases L with rfl | L
  .rw[Z] at e;cases e
  .rw[Z] at L;cases L
 rcases Y with hk | hk
 .refine wpAny_storeName_local hk hn (λh' ah B=>?_) ad
  obtain⟨oL,_,_,ag,_⟩:=id hn;refine h _ ⟨I.ok,I.os,I.bare,⟨λb o e n hb Y=>?_,λb o e n hb Y=>?_,I.base.free,λb o e Y=>?_,I.base.tups,I.base.frzs,I.base.tbls⟩,⟨_,ah,λj y v' e1 e2 e3=>?_⟩,λy c e=>?_,I.free,I.freeC,λp hp=>?_,F ⟨oL,ag,I.free⟩ B,by simpa using I.len⟩ ⟨_,B,.inl rfl⟩
  .exact(B.2 b (mu (hH (f_ e) I.ok.above))).trans (I.base.keep b o e n hb Y)
  .obtain⟨sl,e1⟩:=I.base.slot b o e n hb Y
   exact⟨sl,(B.2 b (mu (hH (f_ e) I.ok.above))).trans e1⟩
  .obtain⟨o',e1⟩:=I.base.there b o e Y
   exact⟨o',(B.2 b (mu (hH (f_ e) I.ok.above))).trans e1⟩
  .by_cases hj:j=i
   .subst hj
    rw[hi] at e1;cases e1;rw[List.getElem?_set_self aa] at e2;cases e2;exact⟨u,r,.inl ⟨hk,by simp⟩⟩
   .rw[Kl (k_ hj)] at e2
    obtain⟨u',r',q⟩:=hl j y v' e1 e2 e3;refine⟨u',r',?_⟩
    rcases q with⟨k,e⟩ | ⟨k,c,e,z⟩
    .refine .inl ⟨k,?_⟩
     have:y≠x:=λe=>hj (vZ hN e1 (e ▸ hi))
     simp[this,e]
    .exact .inr ⟨k,c,e,z.sameBut B (cne y c e)⟩
  .obtain⟨w',z⟩:=I.cell y c e
   exact⟨w',z.sameBut B (cne y c e)⟩
  .obtain⟨e,n,ne,nf,d⟩:=I.pin p hp
   exact⟨(B.2 p.1 ne).trans e,n,ne,nf,d⟩
 .have hfn:X.fn x=true:=by
   rcases hf with z | z
   .exact z
   .rw[z] at hk;cases hk
  obtain⟨c,L⟩:=I.ok.has x (.inl hk);obtain⟨w',z⟩:=I.cell x c L;refine wpAny_storeName_cell I.ok.kind hk L z (λh' af B=>?_)
  obtain⟨oc,ac,ab⟩:=id z;refine h { s with heap:=h' } ⟨I.ok,I.os,I.bare,⟨λb o e n hb Y=>?_,λb o e n hb Y=>?_,I.base.free,λb o e Y=>?_,I.base.tups,I.base.frzs,I.base.tbls⟩,⟨m,hn.sameBut B (k_ (cne x c L)),λj y v' e1 e2 e3=>?_⟩,λy c' e=>?_,I.free,I.freeC,λp hp=>?_,F ⟨oc,ac,I.freeC x c L⟩ B,by simpa using I.len⟩ ⟨c,B,.inr L⟩
  .exact(B.2 b (mu (hH (f_ e) (I.ok.cab x c hfn L)))).trans (I.base.keep b o e n hb Y)
  .obtain⟨sl,e1⟩:=I.base.slot b o e n hb Y
   exact⟨sl,(B.2 b (mu (hH (f_ e) (I.ok.cab x c hfn L)))).trans e1⟩
  .obtain⟨o',e1⟩:=I.base.there b o e Y
   exact⟨o',(B.2 b (mu (hH (f_ e) (I.ok.cab x c hfn L)))).trans e1⟩
  .by_cases hj:j=i
   .subst hj
    rw[hi] at e1;cases e1;rw[List.getElem?_set_self aa] at e2;cases e2;exact⟨u,r,.inr ⟨.inl hk,c,L,af⟩⟩
   .rw[Kl (k_ hj)] at e2
    obtain⟨u',r',q⟩:=hl j y v' e1 e2 e3;refine⟨u',r',?_⟩
    rcases q with q | ⟨k,c',e,z'⟩
    .exact .inl q
    .refine .inr ⟨k,c',e,z'.sameBut B ?_⟩
     rintro rfl
     exact hj (vZ hN e1 (I.ok.inj _ _ _ e L ▸ hi))
  .by_cases hcc:c'=c
   .subst hcc;exact⟨_,af⟩
   .obtain⟨w2,z2⟩:=I.cell y c' e
    exact⟨w2,z2.sameBut B hcc⟩
  .obtain⟨e,n,ne,nf,d⟩:=I.pin p hp
   refine⟨(B.2 p.1 ?_).trans e,n,ne,nf,d⟩
   intro q;rw[q,ac] at e;have q':oc=p.2:=ge e
   exact d w' (by rw[<- q'];exact ab)
theorem qR {v:V} {Q:Unit->Shared->Prop} (I:Inv X pins σ H s) (F:X.N.Nodup) (hi:X.N[i]? = some x) (Y:Loc X.env.scope x) (r:bg v u)
  (h : ∀s',Inv X pins (σ.set i (some v)) H s'->Q Unit.unit s') (B:X.fn x=true\/X.env.scope.names.lookup x=some .local:=by first | exact .inl rfl | exact .inr rfl | assumption):wpAny M A (storeName X.env x u) Q E s :=
 sx I F hi Y r (λs' L _=>h s' L) B
theorem Inv.call' (I:Inv X pins σ H s) (L:s'.os=s.os) (u:Un (frs X.stack) ch H H' s.heap s'.heap) (B:HOk X.prog X.w H' s'.heap) (Y:AllBare s'.gens)
  (F : ∀b∈ch,(b∈X.ex\/X.s₀.heap.objs.size<=b)/\b≠X.env.locals/\(∀x c,X.env.cells.lookup x=some c->c≠b)/\∀p∈X.pn++pins,p.1≠b):Inv X pins σ H' s':=by
 obtain⟨h',g',d',t',o'⟩:=s';have e:o'=s.os:=L
 subst e;exact I.call (g':=g') (t':=t') (d':=d') u B Y F
end
abbrev XK:=Value->Option Addr->Hp->Prop
abbrev St:=List (Option V)
abbrev VK:=V->Hp->Prop
abbrev TE:=St->Hp->VK->Prop
abbrev TT:=St->Hp->(Bool->Hp->Prop)->Prop
abbrev TA:=St->Hp->(List V->Hp->Prop)->Prop
structure pA where
 nx:St->Hp->Prop
 rt:VK
 bk:St->Hp->Prop:=λ_ _=>False
 ct:St->Hp->Prop:=λ_ _=>False
abbrev TS:=pA->St->Hp->Prop
def EP (X:Cx) (pins:List (Addr × Obj)) (σ:St) (Q:VK) (u:Value) (s':Shared):Prop:=∃v H',Inv X pins σ H' s'/\bg v u/\Q v H'
def TP (X:Cx) (pins:List (Addr × Obj)) (σ:St) (Q:Bool->Hp->Prop) (b:Bool) (s':Shared):Prop:=∃H',Inv X pins σ H' s'/\Q b H'
def AP (X:Cx) (pins:List (Addr × Obj)) (σ:St) (Q:List V->Hp->Prop) (us:List Value) (s':Shared):Prop:=∃vs H',Inv X pins σ H' s'/\bi vs us/\Q vs H'
def SP (X:Cx) (pins:List (Addr × Obj)) (D:pA) (f:Flow) (s':Shared):Prop :=
 match f with
 | .next=>∃ σ' H',Inv X pins σ' H' s'/\D.nx σ' H'
 | .brk=>∃ σ' H',Inv X pins σ' H' s'/\D.bk σ' H'
 | .cont=>∃ σ' H',Inv X pins σ' H' s'/\D.ct σ' H'
 | .ret u=>∃v σ' H',Inv X pins σ' H' s'/\bg v u/\D.rt v H'
namespace Irr
set_option allowUnsafeReducibility true in
@[scoped irreducible] def _root_.L2.PE (X:Cx) (e:Expr) (t:TE):Prop :=
 ∀(pins:List (Addr × Obj)) (s:Shared) (σ:St) (H:Hp) (Q:VK),Inv X pins σ H s->t σ H Q->wpAny (model X.prog X.w) X.A (eval e X.env) (EP X pins σ Q) X.xe s
end Irr
namespace Irr
set_option allowUnsafeReducibility true in
@[scoped irreducible] def _root_.L2.PT (X:Cx) (e:Expr) (t:TT):Prop :=
 ∀(pins:List (Addr × Obj)) (s:Shared) (σ:St) (H:Hp) (Q:Bool->Hp->Prop),Inv X pins σ H s->t σ H Q->wpAny (model X.prog X.w) X.A (isTrue e X.env (eval e X.env)) (TP X pins σ Q) X.xe s
end Irr
namespace Irr
set_option allowUnsafeReducibility true in
@[scoped irreducible] def _root_.L2.PW (X:Cx) (e:Expr) (t:TT):Prop :=
 ∀(B:Sem Value) (pins:List (Addr × Obj)) (s:Shared) (σ:St) (H:Hp) (Q:Bool->Hp->Prop),Inv X pins σ H s->t σ H Q->wpAny (model X.prog X.w) X.A (isTrue e X.env B) (TP X pins σ Q) X.xe s
end Irr
theorem PW.pt {X:Cx} {t:TT} (h:PW X e t):PT X e t:=h _
namespace Irr
set_option allowUnsafeReducibility true in
@[scoped irreducible] def _root_.L2.PA (X:Cx) (es:List Expr) (t:TA):Prop :=
 ∀(pos:Pos) (pins:List (Addr × Obj)) (s:Shared) (σ:St) (H:Hp) (Q:List V->Hp->Prop),Inv X pins σ H s->t σ H Q->wpAny (model X.prog X.w) X.A (spliced (y8 pos (j8 es X.env))) (AP X pins σ Q) X.xe s
end Irr
namespace Irr
set_option allowUnsafeReducibility true in
@[scoped irreducible] def _root_.L2.PS (X:Cx) (st:Stmt) (t:TS):Prop :=
 ∀(pins:List (Addr × Obj)) (s:Shared) (σ:St) (H:Hp) (D:pA),Inv X pins σ H s->t D σ H->wpAny (model X.prog X.w) X.A (exec st X.env) (SP X pins D) X.xe s
end Irr
namespace Irr
set_option allowUnsafeReducibility true in
@[scoped irreducible] def _root_.L2.PSs (X:Cx) (st:List Stmt) (t:TS):Prop :=
 ∀(pins:List (Addr × Obj)) (s:Shared) (σ:St) (H:Hp) (D:pA),Inv X pins σ H s->t D σ H->wpAny (model X.prog X.w) X.A (execs st X.env) (SP X pins D) X.xe s
end Irr
theorem thn {t:Sem α} {Q B:α->Shared->Prop} (h:wpAny M A t Q E s) (F : ∀a s,Q a s->B a s):wpAny M A t B E s:=Gt h F λ_ _ x=>x
section
variable {X:Cx}
def Dw (i:Nat):TE:=λσ H Q=>∃v,σ[i]? = some (some v)/\Q v H
def tC (v:V):TE:=λ_ H Q=>Q v H
theorem EB (Z:X.N[i]? = some x) (hv:Vis X.env.scope x) (Y:(x ==("__debug__" : Str))=false:=by decide) (L:(x ==("__classdict__" : Str))=false:=by decide):PE X (.Name x pos) (Dw i):=by
 intro pins s σ H Q I h;obtain⟨v,e,h⟩:=h;obtain⟨m,hn,hl⟩:=I.loc;obtain⟨u,r,l⟩:=hl i x v Z e hv;have F:EP X pins σ Q u s:=⟨v,H,I,r,h⟩
 rcases l with⟨B,hm⟩ | ⟨B,c,hc,hcell⟩
 .exact wpAny_Name (wpAny_loadName_local I.ok.kind B hn hm F) Y
 .rcases B with B | B
  .exact wpAny_Name (wpAny_loadName_cell I.ok.kind B hc hcell F) Y
  .exact wpAny_Name (wpAny_loadName_free I.ok.kind B hc hcell F L) Y
theorem ao {i j pos}:PE X (.Constant (.int i) j pos) (tC (.int i)):=λ_ _ _ H _ I h=>wpAny_Constant_int ⟨.int i,H,I.tok _,⟨_,rfl⟩,h⟩
theorem cR {b j pos}:PE X (.Constant (.bool b) j pos) (tC (.bl b)):=λ_ _ _ H _ I h=>Constant_bool ⟨.bl b,H,I,rfl,h⟩
theorem CL {j pos}:PE X (.Constant .none j pos) (tC .non):=λ_ _ _ H _ I h=>Constant_none ⟨.non,H,I,rfl,h⟩
theorem aJ {x j pos}:PE X (.Constant (.str x) j pos) (tC (.str x)):=λ_ _ _ H _ I h=>Calls.Constant_str ⟨.str x,H,I.tok _,⟨_,rfl⟩,h⟩
def Gl (X:Cx) (x:Str):Prop:=X.env.kindOf x=some .globalImplicit
theorem lT {σ:St} {H:Hp} (I:Inv X pins σ H s) (L:Gl X x) (F:X.mg x=some u) (h:Q u s)
  (B:(x ==("__debug__" : Str))=false:=by decide):wpAny (model X.prog X.w) X.A (eval (.Name x pos) X.env) Q E s :=
 Calls.Name_function_global I.ok.kind L (Calls.loadGlobal_global (by rw[I.ok.glob];exact I.mod.glob.keeps I.bk) F h) B
theorem gD {σ:St} {H:Hp} (I:Inv X pins σ H s) (Z:Gl X x) (L:X.mg x=none) (Y:y7 x=some u) (h:Q u s)
  (F:x ≠ "__name__" := by decide) (B:(x ==("__debug__" : Str))=false:=by decide):wpAny (model X.prog X.w) X.A (eval (.Name x pos) X.env) Q E s:=by
 obtain⟨mb,h1,h2⟩:=I.mod.blt;exact Calls.Name_function_global I.ok.kind Z (Calls.loadGlobal_builtin (by rw[I.ok.glob];exact I.mod.glob.keeps I.bk) L (by rw[I.ok.blt];exact h1.keeps I.bk) ((h2 x F).trans Y) h) B
theorem gl {v:V} (L:Gl X x) (F:X.mg x=some u) (r:bg v u) (B:(x ==("__debug__" : Str))=false:=by decide):PE X (.Name x pos) (tC v) :=
 λ_ _ _ H _ I h=>lT I L F ⟨v,H,I,r,h⟩ B
theorem DT {v:V} (Z:Gl X x) (L:X.mg x=none) (Y:y7 x=some u) (r:bg v u) (F:x ≠ "__name__" := by decide) (B:(x ==("__debug__" : Str))=false:=by decide):PE X (.Name x pos) (tC v) :=
 λ_ _ _ H _ I h=>gD I Z L Y ⟨v,H,I,r,h⟩ F B
variable {a b:Expr} {ta tb:TE}
def PC (X:Cx) (F:CmpOp) (a b:Expr) (t:TE):Prop :=
 ∀ (pins:List (Addr × Obj)) (s:Shared) (σ:St) (H:Hp) (Q:VK),Inv X pins σ H s->t σ H Q ->
  wpAny (model X.prog X.w) X.A (eval a X.env) (λv s₁=>wpAny (model X.prog X.w) X.A (eval b X.env) (λu B=>wpAny (model X.prog X.w) X.A (t3 F v u) (EP X pins σ Q) X.xe B) X.xe s₁) X.xe s
theorem vW (b:Expr) {B:CmpOp} (h:B≠.In) (h2:B≠.NotIn):Jk B b=false:=by
 have e1:(B == CmpOp.In)=false:=by cases B <;> first | rfl | exact absurd rfl h
 have e2:(B == CmpOp.NotIn)=false:=by cases B <;> first | rfl | exact absurd rfl h2
 cases b <;> simp[Jk,e1,e2]
def xE (ta:TE):TE:=λσ H Q=>ta σ H λx H1=>Q (.bl (decide (x = .non))) H1
theorem bg.none_iff {x:V} {v:Value} (r:bg x v):(v == w6)=decide (x = .non):=by
 cases x with
 | non=>cases r;rfl
 | bl _=>cases r;rfl
 | int _=>obtain⟨t,rfl⟩:=r;rfl
 | str _=>obtain⟨t,rfl⟩:=r;rfl
 | byt _=>obtain⟨t,rfl⟩:=r;rfl
 | flt _=>obtain⟨t,rfl⟩:=r;rfl
 | ref _=>cases r;rfl
 | ty _=>cases r;rfl
theorem mT {j pos'} (ha:PE X a ta):PC X .Is a (.Constant .none j pos') (xE ta):=by
 intro pins s σ H Q I h;refine thn (ha pins s σ H _ I h) λv Z B=>?_
 obtain⟨x,H1,Y,F,L⟩:=B;exact Constant_none (is_none_gen ⟨.bl _,H1,Y,by rw[F.none_iff];rfl,L⟩)
def tB (t:TE):TT:=λσ H Q=>t σ H λx H1=>∃c,x = .bl c/\Q c H1
theorem ox {B:CmpOp} {t:TE} (h:PC X B a b t) (h1:Jk B b=false:=by first | exact vW _ ∅ ∅ | rfl):PE X (.Compare a [B] [b] pos) t:=λpins s σ H Q I F=>wpAny_Compare1 (h pins s σ H Q I F) h1
theorem nU {F:CmpOp} {t:TE} (h:PC X F a b t) (h1:Jk F b=false:=by first | exact vW _ ∅ ∅ | rfl):PT X (.Compare a [F] [b] pos) (tB t):=by
 intro pins s σ H Q I Y;refine wpAny_isTrue_Compare1 (thn (h pins s σ H _ I Y) λv s1 h1=>thn h1 λu s2 h2=>thn h2 λc s3 B=>?_) h1
 obtain⟨x,H1,L,r1,Z⟩:=B;obtain⟨d,rfl,q⟩:=Z;cases r1;exact B_ ⟨H1,L,q⟩
theorem fU {t:TE} (h:PE X e t) (Y : ∀B,isTrue e X.env B=(do let v <- B;standAt e.pos;holding [v] (truthy v)):=by intro _;rfl):PT X e (tB t):=by
 intro pins s σ H Q I Z;refine isTrue_plain (thn (h pins s σ H _ I Z) λv s1 F=>?_) (Y _)
 obtain⟨x,H1,L,r1,q1⟩:=F;obtain⟨d,rfl,q⟩:=q1;cases r1;exact B_ ⟨H1,L,q⟩
variable {tA tB':TT} {rest:List Expr}
def GG (t u:TT):TT:=λσ H Q=>t σ H λc H1=>if c=true then u σ H1 Q else Q false H1
def tOr (t u:TT):TT:=λσ H Q=>t σ H λc H1=>if c=true then Q true H1 else u σ H1 Q
def GA (t:TT):TT:=λσ H Q=>t σ H λc H1=>Q (!c) H1
theorem zk (ha:PT X a tA):PW X (.BoolOp .And [a] pos) tA:=by
 intro B pins s σ H Q I h;refine isTrue_and (thn (ha pins s σ H Q I h) λc F e=>?_)
 cases c with
 | true=>exact isTrue_and_nil e
 | false=>exact e
theorem nJ (ha:PT X a tA):PW X (.BoolOp .Or [a] pos) tA:=by
 intro B pins s σ H Q I h;refine isTrue_or (thn (ha pins s σ H Q I h) λc F e=>?_)
 cases c with
 | false=>exact isTrue_or_nil e
 | true=>exact e
theorem xz (ha:PT X a tA) (Z:PW X (.BoolOp .And (b :: rest) pos) tB'):PW X (.BoolOp .And (a :: b :: rest) pos) (GG tA tB'):=by
 intro Y pins s σ H Q I h;refine isTrue_and (thn (ha pins s σ H _ I h) λc s1 B=>?_)
 obtain⟨H1,L,F⟩:=B;cases c with
 | true=>exact Z Y pins s1 σ H1 Q L F
 | false=>exact⟨H1,L,F⟩
theorem rW (ha:PT X a tA) (Z:PW X (.BoolOp .Or (b :: rest) pos) tB'):PW X (.BoolOp .Or (a :: b :: rest) pos) (tOr tA tB'):=by
 intro Y pins s σ H Q I h;refine isTrue_or (thn (ha pins s σ H _ I h) λc s1 B=>?_)
 obtain⟨H1,L,F⟩:=B;cases c with
 | true=>exact⟨H1,L,F⟩
 | false=>exact Z Y pins s1 σ H1 Q L F
theorem nk (ha:PT X a tA):PT X (.UnaryOp .Not a pos) (GA tA):=by
 intro pins s σ H Q I h;exact isTrue_not (ha pins s σ H (λc H1=>Q (!c) H1) I h)
def BU (ta tb:TE):TE:=λσ H Q=>ta σ H λx H1=>∃c,x = .bl c/\if c=true then tb σ H1 Q else Q (.bl false) H1
def Gg (ta tb:TE):TE:=λσ H Q=>ta σ H λx H1=>∃c,x = .bl c/\if c=true then Q (.bl true) H1 else tb σ H1 Q
def Cm (ta:TE):TE:=λσ H Q=>ta σ H λx H1=>∃c,x = .bl c/\Q (.bl (!c)) H1
theorem cO {op} {t:TE} (h:PE X a t):PE X (.BoolOp op [a] pos) t:=λpins s σ H Q I B=>BoolOp_one (h pins s σ H Q I B)
theorem im (ha:PE X a ta) (Z:PE X (.BoolOp .And (b :: rest) pos) tb):PE X (.BoolOp .And (a :: b :: rest) pos) (BU ta tb):=by
 intro pins s σ H Q I h;refine BoolOp_and (thn (ha pins s σ H _ I h) λv Y B=>?_)
 obtain⟨x,H1,L,r1,F⟩:=B;obtain⟨c,rfl,F⟩:=F;cases r1;refine B_ ?_
 cases c with
 | true=>exact Z pins Y σ H1 Q L F
 | false=>exact⟨.bl false,H1,L,rfl,F⟩
theorem kD (ha:PE X a ta) (Z:PE X (.BoolOp .Or (b :: rest) pos) tb):PE X (.BoolOp .Or (a :: b :: rest) pos) (Gg ta tb):=by
 intro pins s σ H Q I h;refine BoolOp_or (thn (ha pins s σ H _ I h) λv Y B=>?_)
 obtain⟨x,H1,L,r1,F⟩:=B;obtain⟨c,rfl,F⟩:=F;cases r1;refine B_ ?_
 cases c with
 | false=>exact Z pins Y σ H1 Q L F
 | true=>exact⟨.bl true,H1,L,rfl,F⟩
theorem Cc (ha:PE X a ta):PE X (.UnaryOp .Not a pos) (Cm ta):=by
 intro pins s σ H Q I h;refine UnaryOp_ (thn (ha pins s σ H _ I h) λv Z B=>?_)
 obtain⟨x,H1,Y,L,F⟩:=B;obtain⟨c,rfl,F⟩:=F;cases L;exact not_of (B_ ⟨.bl (!c),H1,Y,rfl,F⟩)
end
def SqL (K:fy) (H:Hp) (a:Addr) (xs:List V):Prop :=
 Rd H a (.lst xs) \/
  ∃(o:Obj) (its:Array Value) (n:Nat),K.lookup a=some o/\o.cls = .type "list" /\ o.dict=none/\o.data = .seq its n/\its.size<=hB/\bi xs its.toList
def SqT (K:fy) (H:Hp) (a:Addr) (xs:List V):Prop :=
 Rd H a (.tup xs) \/
  ∃(o:Obj) (its:Array Value) (n:Nat),K.lookup a=some o/\o.cls = .type "tuple" /\ o.data = .seq its n/\its.size<=hB/\bi xs its.toList
def IA:Value->Option V
 | .none=>some .non
 | .bool b=>some (.bl b)
 | .int i _=>some (.int i)
 | .str x _=>some (.str x)
 | .bytes b _=>some (.byt b)
 | .float b _=>some (.flt b)
 | .ref a=>some (.ref a)
 | .type n=>some (.ty n)
 | _=>none
theorem bg.abs {x:V} (r:bg x u):IA u=some x:=by
 cases x with
 | non=>cases r;rfl
 | bl _=>cases r;rfl
 | int _=>obtain⟨t,rfl⟩:=r;rfl
 | str _=>obtain⟨t,rfl⟩:=r;rfl
 | byt _=>obtain⟨t,rfl⟩:=r;rfl
 | flt _=>obtain⟨t,rfl⟩:=r;rfl
 | ref _=>cases r;rfl
 | ty _=>cases r;rfl
theorem bg.inj {x y:V} {u:Value} (r:bg x u) (q:bg y u):x=y:=ge (r.abs.symm.trans q.abs)
theorem bi.inj : ∀{xs ys:List V} {us:List Value},bi xs us->bi ys us->xs=ys
 | _,_,_,.nil,.nil=>rfl
 | _,_,_,.cons r t,.cons r' t'=>by rw[r.inj r',bi.inj t t']
section
variable {X:Cx} {σ:St} {H:Hp} {xs ys:List V}
theorem SqL.of (h:H a*>xs):SqL K H a xs:=.inl (.inl h)
theorem SqT.of (h:H a>>xs):SqT K H a xs:=.inl (.inl h)
theorem Inv.list (I:Inv X pins σ H s) (h:SqL X.K H a xs) : ∃its:List Value,bi xs its/\PlainL s.heap a its.toArray/\xs.length<=hB:=by
 rcases h with h | ⟨o,its,n,hk,hc,hd,hs,hz,r⟩
 .obtain⟨z,its,n,r,e⟩:=h.ok I.hok
  exact⟨its,r,⟨_,n,e,rfl,rfl,rfl⟩,z⟩
 .refine⟨its.toList,r,⟨o,n,I.kIn a o hk,hc,hd,by simpa using hs⟩,?_⟩
  have e:=r.length;simp only[F_] at e;omega
theorem Inv.tuple (I:Inv X pins σ H s) (h:SqT X.K H a xs) : ∃its:List Value,bi xs its/\IsTup s.heap a its.toArray/\xs.length<=hB:=by
 rcases h with h | ⟨o,its,n,hk,hc,hs,hz,r⟩
 .obtain⟨z,its,r,p⟩:=h.ok I.hok
  exact⟨its,r,p,z⟩
 .refine⟨its.toList,r,⟨o,I.kIn a o hk,hc,n,by simpa using hs⟩,?_⟩
  have e:=r.length;simp only[F_] at e;omega
theorem Inv.list_inj (I:Inv X pins σ H s) (h:SqL X.K H a xs) (h':SqL X.K H a ys):xs=ys:=by
 obtain⟨its,r,⟨o,n,e,_,_,d⟩,_⟩:=I.list h;obtain⟨its',r',⟨o',F,B,_,_,d'⟩,_⟩:=I.list h';rw[e] at B;cases B;rw[d] at d'
 injection d' with d1 _
 have:its=its':=by simpa using congrArg Array.toList d1
 subst this;exact r.inj r'
theorem Inv.tuple_inj (I:Inv X pins σ H s) (h:SqT X.K H a xs) (h':SqT X.K H a ys):xs=ys:=by
 obtain⟨its,r,⟨o,e,_,n,d⟩,_⟩:=I.tuple h;obtain⟨its',r',⟨o',B,_,F,d'⟩,_⟩:=I.tuple h';rw[e] at B;cases B;rw[d] at d'
 injection d' with d1 _
 have:its=its':=by simpa using congrArg Array.toList d1
 subst this;exact r.inj r'
end
abbrev Cx.wish (X:Cx) (E:Value->Shared->Prop):Cx:={ X with xe:=E }
abbrev Cx.nox (X:Cx):Cx:=X.wish λ_ _=>False
theorem Cx.Ok.wish {X:Cx} (ok:X.Ok) (E:Value->Shared->Prop):(X.wish E).Ok :=
 ⟨ok.mod,ok.kind,ok.glob,ok.blt,ok.above,ok.inj,ok.has,ok.cab,ok.hd,ok.frames,ok.stk,ok.exf,ok.bs,ok.bsz,ok.noex,ok.exfs,ok.funs,ok.frf⟩
theorem Cx.Ok.unwish {X:Cx} (ok:(X.wish E).Ok):X.Ok :=
 ⟨ok.mod,ok.kind,ok.glob,ok.blt,ok.above,ok.inj,ok.has,ok.cab,ok.hd,ok.frames,ok.stk,ok.exf,ok.bs,ok.bsz,ok.noex,ok.exfs,ok.funs,ok.frf⟩
section
variable {X:Cx} {σ:St} {H:Hp}
theorem Inv.wish (I:Inv X pins σ H s) (E:Value->Shared->Prop):Inv (X.wish E) pins σ H s:=⟨I.ok.wish E,I.os,I.bare,I.base,I.loc,I.cell,I.free,I.freeC,I.pin,I.hok,I.len⟩
theorem Inv.unwish (I:Inv (X.wish E) pins σ H s):Inv X pins σ H s:=⟨I.ok.unwish,I.os,I.bare,I.base,I.loc,I.cell,I.free,I.freeC,I.pin,I.hok,I.len⟩
theorem SP.unwish {D:pA} {f:Flow} {s':Shared} (h:SP (X.wish E) pins D f s'):SP X pins D f s':=by
 cases f with
 | next=>obtain⟨σ',H',I,q⟩:=h;exact⟨σ',H',I.unwish,q⟩
 | brk=>obtain⟨σ',H',I,q⟩:=h;exact⟨σ',H',I.unwish,q⟩
 | cont=>obtain⟨σ',H',I,q⟩:=h;exact⟨σ',H',I.unwish,q⟩
 | ret u=>obtain⟨v,σ',H',I,r,q⟩:=h;exact⟨v,σ',H',I.unwish,r,q⟩
theorem PSs.nox {st:List Stmt} {t:TS} (h:PSs X.nox st t):PSs X st t:=λpins s σ H D I B =>
 Gt (h pins s σ H D (I.wish _) B) (λ_ _ q=>q.unwish) λ_ _ z=>G1 z
end
section
variable {X:Cx} {t u:TS} {te:TE}
def qA:TS:=λD σ H=>D.nx σ H
def jo (t u:TS):TS:=λD σ H=>t { D with nx:=u D } σ H
theorem aR:PSs X [] qA:=λ_ _ σ H _ I h=>wpAny_execs_nil ⟨σ,H,I,h⟩
theorem ai (h1:PS X st t) (h2:PSs X rest u):PSs X (st :: rest) (jo t u):=by
 intro pins s σ H D I h;refine wpAny_execs_cons (thn (h1 pins s σ H { D with nx:=u D } I h) λf B q=>?_)
 cases f with
 | next =>
  obtain⟨σ',H',F,q⟩:=q;exact h2 pins B σ' H' D F q
 | ret v=>exact q
 | brk=>exact q
 | cont=>exact q
theorem ak (h1:PS X st t):PSs X [st] t:=by
 intro pins s σ H D I h;refine wpAny_execs_cons (thn (h1 pins s σ H D I h) λf B q=>?_)
 cases f with
 | next=>exact wpAny_execs_nil q
 | ret v=>exact q
 | brk=>exact q
 | cont=>exact q
theorem Inv.quiet {σ:St} {H:Hp} (I:Inv X pins σ H s):interactive X.env=false:=by simp[interactive,I.ok.kind]
def Ce (te:TE):TS:=λD σ H=>te σ H λ_ H1=>D.nx σ H1
theorem cJ (Y:PE X e te) (F:KF e none pos.line X.env=pure false:=by rfl):PS X (.Expr e pos) (Ce te):=by
 intro pins s σ H D I h;exact wpAny_Expr_any (thn (Y pins s σ H _ I h) λv s1 B=>by obtain⟨x,H1,Z,r1,L⟩:=B;exact(⟨σ,H1,Z,L⟩)) I.quiet F
def Gv (te:TE):TS:=λD σ H=>te σ H D.rt
theorem az (Y:PE X e te):PS X (.Return (some e) pos) (Gv te):=by
 intro pins s σ H D I h;exact wpAny_Return_some (thn (Y pins s σ H _ I h) λv s1 B=>by obtain⟨x,H1,Z,F,L⟩:=B;exact(⟨x,σ,H1,Z,F,L⟩))
def yg (c:TT) (t u:TS):TS:=λD σ H=>c σ H λb H1=>if b=true then t D σ H1 else u D σ H1
theorem bF {c:Expr} {a b:List Stmt} {tc:TT} (Z:PT X c tc) (ha:PSs X a t) (hb:PSs X b u):PS X (.If c a b pos) (yg tc t u):=by
 intro pins s σ H D I h;refine wpAny_If (thn (Z pins s σ H _ I h) λd L B=>?_)
 obtain⟨H1,F,Y⟩:=B;cases d with
 | true=>exact ha pins L σ H1 D F Y
 | false=>exact hb pins L σ H1 D F Y
def wR:TS:=λ_ _ _=>False
theorem eA:PS X st wR:=λ_ _ _ _ _ _ h=>h.elim
end
abbrev TG:=V->St->Hp->(St->Hp->Prop)->Prop
abbrev TGs:=List V->St->Hp->(St->Hp->Prop)->Prop
def PG (X:Cx) (B:Expr) (t:TG):Prop :=
 ∀ (pins:List (Addr × Obj)) (s:Shared) (σ:St) (H:Hp) (v:V) (u:Value) (Q:St->Hp->Prop),Inv X pins σ H s->bg v u->t v σ H Q ->
  wpAny (model X.prog X.w) X.A (assign B X.env u) (λ_ s'=>∃ σ' H',Inv X pins σ' H' s'/\Q σ' H') X.xe s
def PGs (X:Cx) (ts:List Expr) (t:TGs):Prop :=
 ∀ (pins:List (Addr × Obj)) (s:Shared) (σ:St) (H:Hp) (vs:List V) (us:List Value) (Q:St->Hp->Prop),Inv X pins σ H s->bi vs us->t vs σ H Q ->
  wpAny (model X.prog X.w) X.A (assignInOrder ((Km ts X.env).map (·.2)) us) (λ_ s'=>∃ σ' H',Inv X pins σ' H' s'/\Q σ' H') X.xe s
abbrev TIp:=V->V->Hp->VK->Prop
def PIp (X:Cx) (B:Operator) (t:TIp):Prop :=
 ∀ (pins:List (Addr × Obj)) (s:Shared) (σ:St) (H:Hp) (x y:V) (v u:Value) (Q:VK),Inv X pins σ H s->bg x v->bg y u->t x y H Q ->
  wpAny (model X.prog X.w) X.A (inplaceOp B v u) (EP X pins σ Q) X.xe s
section
variable {X:Cx}
def gi (i:Nat):TG:=λv σ H Q=>Q (σ.set i (some v)) H
theorem aA (i:Nat) {x:Str} (F:X.N.Nodup:=by first | assumption | exact of_decide_eq_true (by kernel_rfl)) (hi:X.N[i]? = some x:=by exact rfl) (Y:Loc X.env.scope x:=by first | exact Or.inl rfl | exact Or.inr rfl) (B:X.fn x=true\/X.env.scope.names.lookup x=some .local:=by first | exact .inl rfl | exact .inr rfl | assumption):PG X (.Name x pos) (gi i):=by
 intro pins s σ H v u Q I r h;exact wpAny_assign_Name (qR I F hi Y r (λs' L=>⟨_,H,L,h⟩) B)
def AR:TGs:=λvs σ H Q=>vs=[]/\Q σ H
def qF (t:TG) (u:TGs):TGs:=λvs σ H Q=>∃v r,vs=v :: r/\t v σ H λσ' H'=>u r σ' H' Q
theorem gp:PGs X [] AR:=by
 intro pins s σ H vs us Q I r h;obtain⟨e,h⟩:=h;subst e;cases r;exact assignInOrder_nil ⟨σ,H,I,h⟩
theorem bO {t:TG} {u:TGs} (h1:PG X e t) (h2:PGs X es u)
  (hs:(Km (e :: es) X.env).map (·.2)=assign e X.env ::(Km es X.env).map (·.2):=by rfl):PGs X (e :: es) (qF t u):=by
 intro pins s σ H vs us Q I r h;obtain⟨v,vr,e1,h⟩:=h;subst e1;cases r with
 | cons r rr =>
  rw[hs];refine assignInOrder_cons (thn (h1 pins s σ H _ _ _ I r h) λ_ Y B=>?_)
  obtain⟨F,H1,L,Z⟩:=B;exact h2 pins Y F H1 _ _ Q L rr Z
def H0 (K:fy) (n:Nat) (t:TGs):TG:=λv σ H Q=>∃a xs,v = .ref a/\SqT K H a xs/\xs.length=n/\t xs σ H Q
theorem EW {t:TGs} (hc:X.calm=true) (h:PGs X es t)
  (hn:(Km es X.env).length=n:=by rfl) (F:(Km es X.env).findIdx? (·.1)=none:=by rfl):PG X (.Tuple es k pos) (H0 X.K n t):=by
 intro pins s σ H v u Q I r B;obtain⟨a,xs,e1,Z,hl,B⟩:=B;subst e1;cases r;obtain⟨its,L,ht,hz⟩:=I.tuple Z;refine assign_Tuple_tuple (I.ok.hd hc) ht (by simp[hn,<- hl,L.length]) F λh' hx=>?_
 have Y:Inv X pins σ H { s with heap:=h' }:=I.kept (t':=s.toks) λb o e=>hx b o (mu (f_ e)) e
 exact h pins _ σ H xs _ Q Y (by simpa using L) B
def Ah (te:TE) (g:TG):TS:=λD σ H=>te σ H λx H1=>g x σ H1 D.nx
theorem Cy {te:TE} {g:TG} (Y:PE X e te) (hg:PG X tg g) (hs:swapsWithSole [tg] e pos.line X.env=pure false:=by rfl) (Z:swappedStores [tg] e X.env=pure none:=by rfl)
  (h1:(Km [tg] X.env).map (·.2)=[assign tg X.env]:=by rfl):PS X (.Assign [tg] e pos) (Ah te g):=by
 intro pins s σ H D I h;refine wpAny_Assign_stores (thn (Y pins s σ H _ I h) λv L B=>?_) hs Z
 obtain⟨x,H1,F,r1,q1⟩:=B;rw[h1];exact thn (hg pins L σ H1 x v _ F r1 q1) λ_ s2 q=>q
theorem aF (i:Nat) {x:Str} {e:Expr} {te:TE} {pos':Pos} (Z:PE X e te) (Y:X.N.Nodup:=by assumption) (hi:X.N[i]? = some x:=by exact rfl) (hx:Loc X.env.scope x:=by first | exact Or.inl rfl | exact Or.inr rfl) (hs:KF e (some (.Name x pos')) pos.line X.env=pure false:=by rfl) (hf:X.fn x=true\/X.env.scope.names.lookup x=some .local:=by first | exact .inl rfl | exact .inr rfl | assumption) :
  PS X (.Assign [.Name x pos'] e pos) (Ah te (gi i)):=by
 intro pins s σ H D I h;refine wpAny_Assign_Name (thn (Z pins s σ H _ I h) λv s1 B=>?_) hs
 obtain⟨y,H1,L,r1,q1⟩:=B;exact qR L Y hi hx r1 (λs2 F=>⟨_,H1,F,q1⟩) hf
def GF (i:Nat) (te:TE) (B:TIp):TS:=λD σ H=>∃x,σ[i]? = some (some x)/\te σ H λy H1=>B x y H1 λz H2=>D.nx (σ.set i (some z)) H2
theorem Ez (i:Nat) {x:Str} {e:Expr} {te:TE} {op:Operator} {ti:TIp} {pos':Pos} (he:PE X e te) (ho:PIp X op ti) (hN:X.N.Nodup:=by assumption) (hi:X.N[i]? = some x:=by exact rfl) (hx:Loc X.env.scope x:=by first | exact Or.inl rfl | exact Or.inr rfl) (hf:X.fn x=true\/X.env.scope.names.lookup x=some .local:=by first | exact .inl rfl | exact .inr rfl | assumption) :
  PS X (.AugAssign (.Name x pos') op e pos) (GF i te ti):=by
 intro pins s σ H D I h;obtain⟨v,e1,h⟩:=h;obtain⟨m,hn,hl⟩:=I.loc;have aa:Vis X.env.scope x:=by rcases hx with k | k;exact .inl k;exact .inr (.inl k)
 obtain⟨u,r,l⟩:=hl i x v hi e1 aa;refine wpAny_AugAssign_Name ?_
 have go:wpAny (model X.prog X.w) X.A (eval e X.env) (λw Z=>wpAny (model X.prog X.w) X.A (inplaceOp op u w) (λr Y=>wpAny (model X.prog X.w) X.A (storeName X.env x r) (λ_=>SP X pins D .next) X.xe Y) X.xe Z) X.xe s:=by
  refine thn (he pins s σ H _ I h) λw s1 F=>?_
  obtain⟨y,H1,I1,r1,q1⟩:=F;refine thn (ho pins s1 σ H1 v y u w _ I1 r r1 q1) λz s2 B=>?_
  obtain⟨zv,H2,I2,r2,q2⟩:=B;exact qR I2 hN hi hx r2 (λs3 I3=>⟨_,H2,I3,q2⟩) hf
 rcases l with⟨L,hm⟩ | ⟨L,c,hc,hcell⟩
 .exact wpAny_loadName_local I.ok.kind L hn hm go
 .rcases L with L | L
  .exact wpAny_loadName_cell I.ok.kind L hc hcell go
  .rcases hx with k | k
   .have:X.env.scope.names.lookup x=some .free:=L
    rw[k] at this;cases this
   .have:X.env.scope.names.lookup x=some .free:=L
    rw[k] at this;cases this
end
section
variable {X:Cx}
def wP (c:TT) (tb:TS):TS:=λD σ H=>∃W:Nat->St->Hp->Prop,(∃m,W m σ H)/\∀m σ H,W m σ H ->
 c σ H λb H1=>if b=true then ∃N:St->Hp->Prop,(∀ σ' H',N σ' H'->∃B,B < m/\W B σ' H')/\tb { D with nx:=N,ct:=N,bk:=D.nx } σ H1 else D.nx σ H1
theorem vY {c:Expr} {tc:TT} {tb:TS} (hp:PassesOwn (model X.prog X.w) X.A X.env X.xe) (hc:PT X c tc) (hb:PSs X body tb):PS X (.While c body [] pos) (wP tc tb):=by
 intro pins s σ H D I h;obtain⟨W,⟨m0,w0⟩,Z⟩:=h;refine wpAny_While (codeAny_whileLoop (λn s'=>∃ σ' H',Inv X pins σ' H' s'/\W n σ' H') ?_ m0 ⟨σ,H,I,w0⟩)
 rintro n s1 ⟨L,H1,I1,w1⟩
 refine Jh hp (thn (hc pins s1 L H1 _ I1 (Z n L H1 w1)) λb s2 F=>?_)
 obtain⟨H2,I2,q2⟩:=F;cases b with
 | true =>
  obtain⟨N,hN,q2⟩:=q2;rw[if_pos rfl];refine Jh hp (thn (hb pins s2 L H2 _ I2 q2) λf s3 q3=>?_)
  cases f with
  | next =>
   obtain⟨B,Y,I3,n3⟩:=q3;obtain⟨m',hm,w3⟩:=hN B Y n3;exact⟨m',hm,B,Y,I3,w3⟩
  | cont =>
   obtain⟨B,Y,I3,n3⟩:=q3;obtain⟨m',hm,w3⟩:=hN B Y n3;exact⟨m',hm,B,Y,I3,w3⟩
  | brk=>exact q3
  | ret v=>exact q3
 | false =>
  rw[if_neg j7];exact wpAny_execs_nil ⟨L,H2,I2,q2⟩
end
structure It where
 go:Nat->Hp->Prop
 yld:Nat->Hp->V->Hp->Prop
 stop:Nat->Hp->Prop
def qf (X:Cx) (pins:List (Addr × Obj)) (H:Hp) (b:Addr):Prop :=
 H b=none/\b≠X.env.locals/\b∉X.fs/\(b∈X.ex\/X.s₀.heap.objs.size<=b)/\(∀x c,X.env.cells.lookup x=some c->c≠b)/\∀p∈X.pn++pins,p.1≠b
theorem Inv.fpOk {X:Cx} {σ:St} {H H':Hp} (I:Inv X pins σ H s) (B:s.heap.objs.size<=b) (F:H' b=none):qf X pins H' b:=by
 refine⟨F,sn (hH I.lt B),I.nofs B,.inr (i8 I.sz B),λx c e z=>?_,λp hp z=>?_⟩
 .obtain⟨v,q⟩:=I.cell x c e
  exact absurd (hH q.lt (by rw[z];exact B)) (s_ _)
 .exact absurd (hH (f_ (I.pin p hp).1) (by rw[z];exact B)) (s_ _)
structure uF (P:Program) (w:World) (K:fy) (tg:Expr) (J:It) (fp:List Addr) (it:Addr) (tn:Nat->Heap->Prop):Prop where
 mem:it∈fp
 obj : ∀i h,tn i h->∀b∈fp,∃o,h.get? b=some o/\∀v,o.data≠.cell v
 keep : ∀i h h',tn i h->(∀b∈fp,∀o,h.get? b=some o->h'.get? b=some o)->tn i h'
 item : ∀(X:Cx),X.prog=P->X.w=w->X.K=K->X.calm=true->∀(i:Nat) (pins:List (Addr × Obj)) (s:Shared) (σ:St) (H:Hp) (E:Value->Shared->Prop),Inv X pins σ H s->(∀b∈fp,qf X pins H b)->tn i s.heap->J.go i H ->
  wpAny (model P w) X.A (JP (.ref it)) (λr s1=>∃u,r=some u /\
   wpAny (model P w) X.A (letOwnedTupleGo tg (.ref it) u) (λ_ s2=>∃x H',Inv X pins σ H' s2/\bg x u/\J.yld i H x H'/\tn (i+1) s2.heap/\∀b∈fp,H' b=none) E s1) E s
 done : ∀(X:Cx),X.prog=P->X.w=w->X.K=K->X.calm=true->∀(i:Nat) (pins:List (Addr × Obj)) (s:Shared) (σ:St) (H:Hp) (E:Value->Shared->Prop),Inv X pins σ H s->(∀b∈fp,qf X pins H b)->tn i s.heap->J.stop i H ->
  wpAny (model P w) X.A (JP (.ref it)) (λr s1=>r=none/\Inv X pins σ H s1) E s
 self : ∀(A:Around) (i:Nat) (s:Shared) (Q:Value->Shared->Prop) (E:Value->Shared->Prop),tn i s.heap->Q (.ref it) s->wpAny (model P w) A (pyIter (.ref it)) Q E s
abbrev TI:=St->Hp->(It->Hp->Prop)->Prop
def PIE (X:Cx) (pins:List (Addr × Obj)) (σ:St) (tg:Expr) (R:It->Hp->Prop) (B:Value) (L:Shared):Prop :=
 ∃(it:Addr) (fp:List Addr) (F:Nat->Heap->Prop) (J:It) (H':Hp),B = .ref it/\Inv X pins σ H' L/\uF X.prog X.w X.K tg J fp it F/\F 0 L.heap/\(∀b∈fp,qf X pins H' b)/\R J H'
def PI (X:Cx) (tg iter:Expr) (wi:TI):Prop :=
 ∀ (pins:List (Addr × Obj)) (s:Shared) (σ:St) (H:Hp) (R:It->Hp->Prop),Inv X pins σ H s->wi σ H R ->
  wpAny (model X.prog X.w) X.A (eval iter X.env) (λv B=>wpAny (model X.prog X.w) X.A (pyIter v) (PIE X pins σ tg R) X.xe B) X.xe s
theorem sk {o:Obj} {n:String} {vs:Array Value} {Q:Unit->Shared->Prop} (Y:s.heap.get? it=some o) (F:o.cls = .type n) (L:o.data = .fields vs)
    (Z:["enumerate","zip","dict_itemiterator","dict_reverseitemiterator","odict_iterator","itertools.zip_longest","itertools.pairwise"].contains n=false) (B:Q Unit.unit s):wpAny M A (letOwnedTupleGo tg (.ref it) u) Q E s:=by
  unfold letOwnedTupleGo;cases tg <;> first
    | exact e_ B
    | (cases u <;> first
        | exact e_ B
        | (refine a_ (wpAny_load Y ?_)
           rw[F,L]
           show wpAny M A (if (["enumerate","zip","dict_itemiterator","dict_reverseitemiterator","odict_iterator","itertools.zip_longest","itertools.pairwise"].contains n && vs[0]? == some (x8 _))=true then _ else _) Q E s
           rw[if_neg (by intro h;rw[Z,Bool.false_and] at h;cases h)]
           exact e_ B))
def Itl (K:fy) (a:Addr):It :=
 ⟨λi H=>∃xs x,SqL K H a xs/\xs[i]? = some x,λi H x H'=>H'=H/\∀xs,SqL K H a xs->xs[i]? = some x,λi H=>∃xs,SqL K H a xs/\xs.length<=i⟩
def Itt (K:fy) (a:Addr):It :=
 ⟨λi H=>∃xs x,SqT K H a xs/\xs[i]? = some x,λi H x H'=>H'=H/\∀xs,SqT K H a xs->xs[i]? = some x,λi H=>∃xs,SqT K H a xs/\xs.length<=i⟩
def Itr (lo:Int) (n:Nat):It:=⟨λi _=>i < n,λi H x H'=>H'=H/\x = .int (lo+i),λi _=>n<=i⟩
theorem Ae (a it:Addr):uF P w K tg (Itl K a) [it] it (λi h=>h.IsListIter it a i) where
 mem:=by simp
 obj:=λi h st b B=>by
  have e:b=it:=by simpa using B
  subst e;obtain⟨o,e,c,d⟩:=st;exact⟨o,e,λv z=>by rw[d] at z;cases z⟩
 keep:=λi h h' st k=>st.at λo e=>k it (by simp) o e
 item:=by
  intro X hP hw hK hc i pins s σ H E I Y st hg;subst hP hw hK;obtain⟨xs,x,L,hx⟩:=hg;obtain⟨its,Z,p,hz⟩:=I.list L;obtain⟨u,hu,ru⟩:=Z.get hx;obtain⟨f0,f1,f2,f3,f4,f5⟩:=Y it (by simp)
  refine wpAny_pyNext_list_item st p.isList (x:=u) (by simpa using hu) λh' F sb=>?_
  have I1:Inv X pins σ H { s with heap:=h' }:=I.turned (t':=s.toks) (λb o B e=>(sb.2 b B).trans e) f0 f1 f3 f4 f5
  obtain⟨o,e,c,d⟩:=id F;exact⟨u,rfl,sk (s:={ s with heap:=h' }) e c d ∅ ⟨x,H,I1,ru,⟨rfl,λys hy=>by rw[I.list_inj hy L];exact hx⟩,F,λb B=>(Y b B).1⟩⟩
 done:=by
  intro X hP hw hK hc i pins s σ H E I Y st hg;subst hP hw hK;obtain⟨xs,L,hx⟩:=hg;obtain⟨its,Z,p,hz⟩:=I.list L;obtain⟨f0,f1,f2,f3,f4,f5⟩:=Y it (by simp)
  have hl:=Z.length;exact wpAny_pyNext_list_end (I.ok.hd hc) st p.isList (by simp;omega) λh' eb=>⟨rfl,I.turned (t':=s.toks) (λb o B e=>eb b o B e) f0 f1 f3 f4 f5⟩
 self:=λ_ _ _ _ _ st h=>wpAny_pyIter_listiter st h
theorem pQ (a it:Addr):uF P w K tg (Itt K a) [it] it (λi h=>h.IsTupleIter it a i) where
 mem:=by simp
 obj:=λi h st b B=>by
  have e:b=it:=by simpa using B
  subst e;obtain⟨o,e,c,d⟩:=st;exact⟨o,e,λv z=>by rw[d] at z;cases z⟩
 keep:=λi h h' st k=>st.at λo e=>k it (by simp) o e
 item:=by
  intro X hP hw hK hc i pins s σ H E I Y st hg;subst hP hw hK;obtain⟨xs,x,L,hx⟩:=hg;obtain⟨its,Z,p,hz⟩:=I.tuple L;obtain⟨u,hu,ru⟩:=Z.get hx;obtain⟨f0,f1,f2,f3,f4,f5⟩:=Y it (by simp)
  refine wpAny_pyNext_tuple_item st (show s.heap.IsTuple a its.toArray from p) (x:=u) (by simpa using hu) λh' F sb=>?_
  have I1:Inv X pins σ H { s with heap:=h' }:=I.turned (t':=s.toks) (λb o B e=>(sb.2 b B).trans e) f0 f1 f3 f4 f5
  obtain⟨o,e,c,d⟩:=id F;exact⟨u,rfl,sk (s:={ s with heap:=h' }) e c d ∅ ⟨x,H,I1,ru,⟨rfl,λys hy=>by rw[I.tuple_inj hy L];exact hx⟩,F,λb B=>(Y b B).1⟩⟩
 done:=by
  intro X hP hw hK hc i pins s σ H E I Y st hg;subst hP hw hK;obtain⟨xs,L,hx⟩:=hg;obtain⟨its,Z,p,hz⟩:=I.tuple L;obtain⟨f0,f1,f2,f3,f4,f5⟩:=Y it (by simp)
  have hl:=Z.length;exact wpAny_pyNext_tuple_end (I.ok.hd hc) st (show s.heap.IsTuple a its.toArray from p) (by simp;omega) λh' eb=>⟨rfl,I.turned (t':=s.toks) (λb o B e=>eb b o B e) f0 f1 f3 f4 f5⟩
 self:=λ_ _ _ _ _ st h=>wpAny_pyIter_tupleiter st h
theorem wT (it:Addr) (lo:Int) (n:Nat):uF P w K tg (Itr lo n) [it] it (λi h=>IsRangeIter h it (lo+(i:Nat) * 1) ((n:Int) - (i:Nat)) 1) where
 mem:=by simp
 obj := λi h st b B=>by
  have e:b=it:=by simpa using B
  subst e;exact⟨_,st,λv z=>by
   have z':Data.fields _=Data.cell v:=z
   cases z'⟩
 keep:=λi h h' st k=>k it (by simp) _ st
 item:=by
  intro X hP hw hK hc i pins s σ H E I L st hg;subst hP hw hK;obtain⟨f0,f1,f2,Z,Y,f5⟩:=L it (by simp)
  have W:=Walks.range (prog:=X.prog) (w:=X.w) (I.ok.hd hc) it lo 1 n;refine W.item i s _ _ hg st λv h' tk hv F kk=>?_
  obtain⟨t,rfl⟩:=hv;have I1:Inv X pins σ H { s with heap:=h',toks:=tk }:=I.turned (λb o B e=>kk b o (by simpa using B) e) f0 f1 Z Y f5
  refine⟨_,rfl,sk (s:={ s with heap:=h',toks:=tk }) (n := "range_iterator") F rfl rfl ∅ ⟨.int (lo+i),H,I1,⟨t,?_⟩,⟨rfl,rfl⟩,F,λb B=>(L b B).1⟩⟩
  rw[Int.mul_one]
 done:=by
  intro X hP hw hK hc i pins s σ H E I L st hg;subst hP hw hK;obtain⟨f0,f1,f2,Z,Y,f5⟩:=L it (by simp)
  exact wpAny_pyNext_range_end (I.ok.hd hc) st (by have:n<=i:=hg;omega) λh' eb=>⟨rfl,I.turned (t':=s.toks) (λb o B e=>eb b o B e) f0 f1 Z Y f5⟩
 self:=λ_ _ _ _ _ st h=>wpAny_pyIter_rangeiter st h
section
variable {X:Cx}
theorem Bd {σ:St} {H:Hp} {R:It->Hp->Prop} {hi:Int} {t u v:Tok} (I:Inv X pins σ H s) (h1 : -(2 ^ 62)<=lo) (h2:lo < 2 ^ 62) (L : -(2 ^ 62)<=hi) (F:hi < 2 ^ 62)
  (q:R (Itr lo (hi - lo).toNat) H):wpAny (model X.prog X.w) X.A (pyIter (.ref s.heap.objs.size)) (PIE X pins σ tg R) E { s with heap:=s.heap.push { cls:=.type "range",data:=.fields #[.int lo t,.int hi u,.int 1 v] },toks:=tk }:=by
 refine wpAny_pyIter_range (IsRange.new ..) (small_one h1 h2 L F) ?_
 have B:Inv X pins σ H { s with heap:=s.heap.push { cls:=.type "range",data:=.fields #[.int lo t,.int hi u,.int 1 v] },toks:=tk }:=I.kept λb o e=>c_ _ e
 refine⟨(s.heap.push { cls:=.type "range",data:=.fields #[.int lo t,.int hi u,.int 1 v] }).objs.size,[(s.heap.push { cls:=.type "range",data:=.fields #[.int lo t,.int hi u,.int 1 v] }).objs.size],_,_,H,rfl,
  B.kept (t':=tk) λb o e=>c_ _ e,wT _ lo (hi - lo).toNat,?_,λb Y=>?_,q⟩
 .have e1:lo+((0:Nat):Int) * 1=lo:=by simp
  have e2:(((hi - lo).toNat:Nat):Int) - ((0:Nat):Int)=Builtin.Range.rangeSize lo hi 1:=by rw[rangeSize_one];split <;> omega
  show IsRangeIter _ _ (lo+((0:Nat):Int) * 1) ((((hi - lo).toNat:Nat):Int) - ((0:Nat):Int)) 1
  rw[e1,e2];exact gt _ rfl
 .have e:b=(s.heap.push { cls:=.type "range",data:=.fields #[.int lo t,.int hi u,.int 1 v] }).objs.size:=by simpa using Y
  subst e;exact B.fpOk (i6 _) (B.hok.fresh (i6 _))
def Bf (ta:TA):TI:=λσ H R=>ta σ H λvs H1=>∃j:Int,vs=[.int j]/\-(2 ^ 62)<=j/\j < 2 ^ 62/\R (Itr 0 j.toNat) H1
theorem dS {a:Expr} {ta:TA} {p:Pos} (Z:Gl X "range") (hm:X.mg "range" = none) (ha:PA X [a] ta) (hs:j8 [a] X.env=[(false,eval a X.env)]:=by rfl):PI X tg (.Call (.Name "range" p) [a] [] pos) (Bf ta):=by
 intro pins s σ H R I h;refine Call_ (gD I Z hm boot_range (p7 (thn (ha pos pins s σ H _ I h) λus s1 B=>?_) hs rfl))
 obtain⟨vs,H1,L,r1,F⟩:=B;obtain⟨j,e,F,q2,q⟩:=F;subst e;cases r1 with
 | cons r Y =>
  cases Y;obtain⟨t,rfl⟩:=r;exact call_range_1 (Bd L () () F q2 (by simpa using q))
def GR (wi:TI) (g:TG) (tb:TS):TS:=λD σ H=>wi σ H λJ H1=>∃W:Nat->Nat->St->Hp->Prop,(∃m,W 0 m σ H1)/\∀i m σ H,W i m σ H ->
 (J.stop i H/\D.nx σ H)\/(J.go i H/\∃N:St->Hp->Prop,(∀ σ' H',N σ' H'->∃F,F < m/\W (i+1) F σ' H')/\∀x H',J.yld i H x H'->g x σ H' λB H2=>tb { D with nx:=N,ct:=N,bk:=D.nx } B H2)
def qM (fp:List Addr) (h:Heap):List (Addr × Obj):=fp.filterMap λb=>(h.get? b).map λo=>(b,o)
theorem ly {o:Obj} (B:b∈fp) (e:h.get? b=some o):(b,o)∈qM fp h:=List.mem_filterMap.mpr ⟨b,B,by rw[e];rfl⟩
theorem zM {p:Addr × Obj} (hp:p∈qM fp h):p.1∈fp/\h.get? p.1=some p.2:=by
 obtain⟨b,B,e⟩:=List.mem_filterMap.mp hp;cases q:h.get? b with
 | none=>rw[q] at e;cases e
 | some o =>
  rw[q] at e;have F:(b,o)=p:=ge e
  subst F;exact⟨B,q⟩
theorem Inv.pinned {σ:St} {H:Hp} (I:Inv X pins σ H s) (Y : ∀b∈fp,qf X pins H b) (L : ∀b∈fp,∃o,s.heap.get? b=some o/\∀v,o.data≠.cell v):Inv X (pins++qM fp s.heap) σ H s :=
 I.pins_of λp hp=>(j9.mp hp).elim (λz=>I.pin p (p9 _ z)) λz=>by
  obtain⟨F,e⟩:=zM z;obtain⟨f0,f1,Z,_⟩:=Y p.1 F;obtain⟨o,B,d⟩:=L p.1 F;rw[e] at B;cases B;exact⟨e,f0,f1,Z,d⟩
theorem Inv.unpinned {pl:List (Addr × Obj)} {σ:St} {H:Hp} (I:Inv X (pins++pl) σ H s):Inv X pins σ H s:=I.pins_of λp hp=>I.pin p (p9 _ (k9 _ hp))
theorem bq {wi:TI} {g:TG} {tb:TS} (hi:PI X tg iter wi) (hg:PG X tg g) (Z:PSs X body tb) (hp:PassesOwn (model X.prog X.w) X.A X.env X.xe:=by exact PassesOwn.never) (hc:X.calm=true:=by exact rfl)
  (hs : ∀x,foldedSetIterable iter X.env x=pure x:=by intro _;rfl):PS X (.For tg iter body [] pos) (GR wi g tb):=by
 intro pins s σ H D I h;refine wpAny_For (thn (hi pins s σ H _ I h) λv s1 h1=>thn h1 λaq s2 h2=>?_) hs
 obtain⟨it,fp,tn,J,H2,e,I2,T,an,f2,W,⟨m0,w0⟩,ah⟩:=h2;subst e;have aa : ∀{H':Hp},(∀b∈fp,H' b=none)->∀b∈fp,qf X pins H' b:=λhn b Z=>⟨hn b Z,(f2 b Z).2⟩
 refine codeAny_forLoop_any (λn s'=>∃i σ' H',Inv X pins σ' H' s'/\tn i s'.heap/\(∀b∈fp,H' b=none)/\W i n σ' H') ?_ m0 ⟨0,σ,H2,I2,an,λb Z=>(f2 b Z).1,w0⟩
 rintro n s3 ⟨i,L,H3,I3,ak,aj,w3⟩
 rcases ah i n L H3 w3 with⟨ai,qn⟩ | ⟨go,N,hN,step⟩
 .refine Jh hp (thn (T.done X rfl rfl rfl hc i pins s3 L H3 X.xe I3 (aa aj) ak ai) λr s4 ac=>?_)
  obtain⟨hr,I4⟩:=ac;subst hr;exact wpAny_execs_nil ⟨L,H3,I4,qn⟩
 .refine Jh hp (thn (T.item X rfl rfl rfl hc i pins s3 L H3 X.xe I3 (aa aj) ak go) λr s4 ab=>?_)
  obtain⟨u,hr,h4⟩:=ab;subst hr;refine Jh hp (thn h4 λ_ s5 ad=>?_)
  obtain⟨x,H5,I5,r5,y5,ag,am⟩:=ad;have ao:=I5.pinned (aa am) (T.obj _ _ ag);refine Jh hp (thn (hg _ s5 L H5 x u _ ao r5 (step x H5 y5)) λ_ s6 af=>?_)
  obtain⟨ap,H6,I6,q6⟩:=af;refine Jh hp (thn (Z _ s6 ap H6 _ I6 q6) λf s7 q7=>?_)
  have F : ∀{B:St} {H7:Hp},Inv X (pins++qM fp s5.heap) B H7 s7->N B H7->∃m,m < n/\∃i σ' H',Inv X pins σ' H' s7/\tn i s7.heap/\(∀b∈fp,H' b=none)/\W i m σ' H':=λ{B H7} Y n7=>by
   obtain⟨m',hm,w7⟩:=hN B H7 n7;refine⟨m',hm,i+1,B,H7,Y.unpinned,T.keep _ _ _ ag λb Z o e=>(Y.pin (b,o) (p9 _ (p9 _ (ly Z e)))).1,λb Z=>?_,w7⟩
   obtain⟨o,e,d⟩:=T.obj _ _ ag b Z;exact(Y.pin (b,o) (p9 _ (p9 _ (ly Z e)))).2.1
  cases f with
  | next=>obtain⟨B,H7,Y,n7⟩:=q7;exact F Y n7
  | cont=>obtain⟨B,H7,Y,n7⟩:=q7;exact F Y n7
  | brk=>obtain⟨B,H7,Y,q7⟩:=q7;exact⟨B,H7,Y.unpinned,q7⟩
  | ret v=>obtain⟨x7,B,H7,Y,r7,q7⟩:=q7;exact⟨x7,B,H7,Y.unpinned,r7,q7⟩
end
abbrev R2:=V->V->Hp->VK->Prop
def OpR (X:Cx) (f:Value->Value->Sem Value) (r:R2):Prop :=
 ∀ (pins:List (Addr × Obj)) (s:Shared) (σ:St) (H:Hp) (x y:V) (v u:Value) (Q:VK),Inv X pins σ H s->bg x v->bg y u->r x y H Q ->
  wpAny (model X.prog X.w) X.A (f v u) (EP X pins σ Q) X.xe s
def UnR (X:Cx) (f:Value->Sem Value) (r:V->Hp->VK->Prop):Prop :=
 ∀ (pins:List (Addr × Obj)) (s:Shared) (σ:St) (H:Hp) (x:V) (v:Value) (Q:VK),Inv X pins σ H s->bg x v->r x H Q ->
  wpAny (model X.prog X.w) X.A (f v) (EP X pins σ Q) X.xe s
def bK (X:Cx) (f:Value) (r:List V->Hp->VK->Prop):Prop :=
 ∀ (pins:List (Addr × Obj)) (s:Shared) (σ:St) (H:Hp) (xs:List V) (us:List Value) (Q:VK),Inv X pins σ H s->bi xs us->r xs H Q ->
  wpAny (model X.prog X.w) X.A (call f us) (EP X pins σ Q) X.xe s
def tOp (r:R2) (ta tb:TE):TE:=λσ H Q=>ta σ H λx H1=>tb σ H1 λy H2=>r x y H2 Q
def tUn (r:V->Hp->VK->Prop) (ta:TE):TE:=λσ H Q=>ta σ H λx H1=>r x H1 Q
def rI (C:Int->Int->Prop) (g:Int->Int->V):R2:=λx y H Q=>∃i j,x = .int i/\y = .int j/\C i j/\Q (g i j) H
def rI0 (g:Int->Int->V):R2:=λx y H Q=>∃i j,x = .int i/\y = .int j/\Q (g i j) H
def rU (g:Int->V):V->Hp->VK->Prop:=λx H Q=>∃i,x = .int i/\Q (g i) H
section
variable {X:Cx} {a b c:Expr} {ta tb tc:TE}
theorem Gr (ha:PE X a ta) (hb:PE X b tb) {pins:List (Addr × Obj)} {s:Shared} {σ:St} {H:Hp} {R:V->V->Hp->Prop} (I:Inv X pins σ H s)
  (h:ta σ H λx H1=>tb σ H1 λy H2=>R x y H2) {Q:Value->Shared->Prop} {f:Value->Value->Sem Value}
  (hf : ∀v u Y x y H2,Inv X pins σ H2 Y->bg x v->bg y u->R x y H2->wpAny (model X.prog X.w) X.A (f v u) Q X.xe Y) :
  wpAny (model X.prog X.w) X.A (eval a X.env) (λv s₁=>wpAny (model X.prog X.w) X.A (eval b X.env) (λu L=>wpAny (model X.prog X.w) X.A (f v u) Q X.xe L) X.xe s₁) X.xe s:=by
 refine thn (ha pins s σ H _ I h) λv s1 B=>?_
 obtain⟨x,H1,I1,r1,q1⟩:=B;refine thn (hb pins s1 σ H1 _ I1 q1) λu Y F=>?_
 obtain⟨y,H2,Z,r2,q2⟩:=F;exact hf v u Y x y H2 Z r1 r2 q2
theorem aQ {B:Operator} {r:R2} (Y:OpR X (Kn B) r) (ha:PE X a ta) (hb:PE X b tb):PE X (.BinOp a B b pos) (tOp r ta tb):=by
 intro pins s σ H Q I h;exact wpAny_BinOp (Gr ha hb I h λv u Z x y H2 F L ry q=>Y pins Z σ H2 x y v u Q F L ry q)
theorem mL {F:UnaryOp} {r:V->Hp->VK->Prop} (Y:UnR X (unaryOp F) r) (ha:PE X a ta):PE X (.UnaryOp F a pos) (tUn r ta):=by
 intro pins s σ H Q I h;exact UnaryOp_ (thn (ha pins s σ H _ I h) λv Z B=>by obtain⟨x,H1,L,r1,q1⟩:=B;exact(Y pins Z σ H1 x v Q L r1 q1))
theorem opI {f:Value->Value->Sem Value} {C:Int->Int->Prop} {g:Int->Int->Int}
  (B : ∀(i j:Int) (t u:Tok) (s:Shared) (Q:Value->Shared->Prop) (E:Value->Shared->Prop),C i j->Q (.int (g i j) s.toks) { s with toks:=s.toks+1 }->wpAny (model X.prog X.w) X.A (f (.int i t) (.int j u)) Q E s) :
  OpR X f (rI C λi j=>.int (g i j)):=by
 intro pins s σ H x y v u Q I F Y h;obtain⟨i,j,rfl,rfl,L,q⟩:=h;obtain⟨t,rfl⟩:=F;obtain⟨t',rfl⟩:=Y;exact B i j t t' s _ _ L ⟨.int (g i j),H,I.tok _,⟨_,rfl⟩,q⟩
theorem GT {f:Value->Value->Sem Value} {g:Int->Int->Int}
  (B : ∀(i j:Int) (t u:Tok) (s:Shared) (Q:Value->Shared->Prop) (E:Value->Shared->Prop),Q (.int (g i j) s.toks) { s with toks:=s.toks+1 }->wpAny (model X.prog X.w) X.A (f (.int i t) (.int j u)) Q E s) :
  OpR X f (rI0 λi j=>.int (g i j)):=by
 intro pins s σ H x y v u Q I F L h;obtain⟨i,j,rfl,rfl,q⟩:=h;obtain⟨t,rfl⟩:=F;obtain⟨t',rfl⟩:=L;exact B i j t t' s _ _ ⟨.int (g i j),H,I.tok _,⟨_,rfl⟩,q⟩
theorem Do {f:Value->Value->Sem Value} {g:Int->Int->Bool}
  (B : ∀(i j:Int) (t u:Tok) (s:Shared) (Q:Value->Shared->Prop) (E:Value->Shared->Prop),Q (.bool (g i j)) s->wpAny (model X.prog X.w) X.A (f (.int i t) (.int j u)) Q E s) :
  OpR X f (rI0 λi j=>.bl (g i j)):=by
 intro pins s σ H x y v u Q I F L h;obtain⟨i,j,rfl,rfl,q⟩:=h;obtain⟨t,rfl⟩:=F;obtain⟨t',rfl⟩:=L;exact B i j t t' s _ _ ⟨.bl (g i j),H,I,rfl,q⟩
def Aq (i j:Int):Prop:=(-(2 ^ 64) < i/\i < 2 ^ 64)\/(-(2 ^ 64) < j/\j < 2 ^ 64)
theorem Aq.ok {i j:Int} (h:Aq i j):IntMulOk i j:=by
 rcases h with⟨h1,h2⟩ | ⟨h1,h2⟩
 .exact .of_left (intBits_le_64 h1 h2)
 .exact .of_right (intBits_le_64 h1 h2)
theorem bf:OpR X (Kn .Add) (rI0 λi j=>.int (i+j)):=GT λ_ _ _ _ _ _ _ q=>add_int q
theorem jw:OpR X (Kn .Sub) (rI0 λi j=>.int (i - j)):=GT λ_ _ _ _ _ _ _ q=>sub_int q
theorem gC:OpR X (Kn .Mult) (rI Aq λi j=>.int (i * j)):=opI λ_ _ _ _ _ _ _ B q=>mul_int q B.ok
theorem iM:OpR X (Kn .Mod) (rI (λ_ j=>0 < j) λi j=>.int (i % j)):=opI λi j _ _ _ _ _ B q=>by
 have h1:(0:Int) < j:=B
 exact mod_int' () (by rw[Int.fmod_eq_emod_of_nonneg i ()];exact q)
theorem unI {f:Value->Sem Value} {g:Int->Int}
  (B : ∀(i:Int) (t:Tok) (s:Shared) (Q:Value->Shared->Prop) (E:Value->Shared->Prop),Q (.int (g i) s.toks) { s with toks:=s.toks+1 }->wpAny (model X.prog X.w) X.A (f (.int i t)) Q E s) :
  UnR X f (rU λi=>.int (g i)):=by
 intro pins s σ H x v Q I F h;obtain⟨i,rfl,q⟩:=h;obtain⟨t,rfl⟩:=F;exact B i t s _ _ ⟨.int (g i),H,I.tok _,⟨_,rfl⟩,q⟩
theorem iW:UnR X (unaryOp .USub) (rU λi=>.int (Neg.neg i)):=unI λ_ _ _ _ _ q=>neg_int q
end
def wv:V->V->Bool
 | .non,.non=>true | .non,.int _=>true | .int _,.non=>true | .non,.bl _=>true | .bl _,.non=>true | .non,.str _=>true | .str _,.non=>true
 | .int _,.int _=>true | .bl _,.bl _=>true | .str _,.str _=>true | .byt _,.byt _=>true
 | .int _,.str _=>true | .str _,.int _=>true | .bl _,.str _=>true | .str _,.bl _=>true
 | _,_=>false
def rEq:R2:=λx y H Q=>wv x y=true/\Q (.bl (decide (x=y))) H
def rNe:R2:=λx y H Q=>wv x y=true/\Q (.bl (!decide (x=y))) H
theorem yy {i j:Int}:decide (V.int i=V.int j)=(i == j):=by
 rw[n9];simp
theorem A7 {i j:Bool}:decide (V.bl i=V.bl j)=(i == j):=by
 rw[n9];simp
theorem zp {i j:Str}:decide (V.str i=V.str j)=(i == j):=by
 rw[n9];simp
theorem yV {i j:Array UInt8}:decide (V.byt i=V.byt j)=(i.toList == j.toList):=by
 rw[n9];cases i;cases j;simp
section
variable {X:Cx} {a b c:Expr} {ta tb tc:TE}
theorem bG {σ:St} {H:Hp} {Q:VK} {k B:Bool} (I:Inv X pins σ H s) (q:Q (.bl k) H) (e:k=B):EP X pins σ Q (.bool B) s:=by
 subst e;exact⟨.bl k,H,I,rfl,q⟩
theorem bY:OpR X (t3 .Eq) rEq:=by
 intro pins s σ H x y v u Q I L B h;obtain⟨F,q⟩:=h;cases x with
 | non =>
  cases L;cases y with
  | non=>cases B;exact PySem.EqNone.eq_none_none (bG I q (by simp))
  | bl j=>cases B;exact PySem.EqNone.eq_none_bool (bG I q (by simp))
  | int j=>obtain⟨t',rfl⟩:=B;exact PySem.EqNone.eq_none_int (bG I q (by simp))
  | str j=>obtain⟨t',rfl⟩:=B;exact PySem.EqNone.eq_none_str (bG I q (by simp))
  | _=>exact absurd (show false=true from F) j7
 | bl i =>
  cases L;cases y with
  | non=>cases B;exact PySem.EqNone.eq_bool_none (bG I q (by simp))
  | bl j=>cases B;exact eq_bool (bG I q A7)
  | str j=>obtain⟨t',rfl⟩:=B;exact PySem.EqMixed.eq_bool_str (bG I q (by simp))
  | _=>exact absurd (show false=true from F) j7
 | int i =>
  obtain⟨t,rfl⟩:=L;cases y with
  | non=>cases B;exact PySem.EqNone.eq_int_none (bG I q (by simp))
  | int j=>obtain⟨t',rfl⟩:=B;exact eq_int (bG I q yy)
  | str j=>obtain⟨t',rfl⟩:=B;exact PySem.EqMixed.eq_int_str (bG I q (by simp))
  | _=>exact absurd (show false=true from F) j7
 | str i =>
  obtain⟨t,rfl⟩:=L;cases y with
  | non=>cases B;exact PySem.EqNone.eq_str_none (bG I q (by simp))
  | bl j=>cases B;exact PySem.EqMixed.eq_str_bool (bG I q (by simp))
  | int j=>obtain⟨t',rfl⟩:=B;exact PySem.EqMixed.eq_str_int (bG I q (by simp))
  | str j=>obtain⟨t',rfl⟩:=B;exact eq_str (bG I q zp)
  | _=>exact absurd (show false=true from F) j7
 | byt i =>
  obtain⟨t,rfl⟩:=L;cases y with
  | byt j=>obtain⟨t',rfl⟩:=B;exact PySem.W.eq_bytes (bG I q yV)
  | _=>exact absurd (show false=true from F) j7
 | _=>cases y <;> exact absurd (show false=true from F) j7
theorem Bs:OpR X (t3 .NotEq) rNe:=by
 intro pins s σ H x y v u Q I L B h;obtain⟨F,q⟩:=h;cases x with
 | non =>
  cases L;cases y with
  | non=>cases B;exact PySem.EqNone.ne_none_none (bG I q (by simp))
  | bl j=>cases B;exact PySem.EqNone.ne_none_bool (bG I q (by simp))
  | int j=>obtain⟨t',rfl⟩:=B;exact PySem.EqNone.ne_none_int (bG I q (by simp))
  | str j=>obtain⟨t',rfl⟩:=B;exact PySem.EqNone.ne_none_str (bG I q (by simp))
  | _=>exact absurd (show false=true from F) j7
 | bl i =>
  cases L;cases y with
  | non=>cases B;exact PySem.EqNone.ne_bool_none (bG I q (by simp))
  | bl j=>cases B;exact ne_bool (bG I q (congrArg not A7))
  | str j=>obtain⟨t',rfl⟩:=B;exact PySem.EqMixed.ne_bool_str (bG I q (by simp))
  | _=>exact absurd (show false=true from F) j7
 | int i =>
  obtain⟨t,rfl⟩:=L;cases y with
  | non=>cases B;exact PySem.EqNone.ne_int_none (bG I q (by simp))
  | int j=>obtain⟨t',rfl⟩:=B;exact ne_int (bG I q (congrArg not yy))
  | str j=>obtain⟨t',rfl⟩:=B;exact PySem.EqMixed.ne_int_str (bG I q (by simp))
  | _=>exact absurd (show false=true from F) j7
 | str i =>
  obtain⟨t,rfl⟩:=L;cases y with
  | non=>cases B;exact PySem.EqNone.ne_str_none (bG I q (by simp))
  | bl j=>cases B;exact PySem.EqMixed.ne_str_bool (bG I q (by simp))
  | int j=>obtain⟨t',rfl⟩:=B;exact PySem.EqMixed.ne_str_int (bG I q (by simp))
  | str j=>obtain⟨t',rfl⟩:=B;exact ne_str (bG I q (congrArg not zp))
  | _=>exact absurd (show false=true from F) j7
 | byt i =>
  obtain⟨t,rfl⟩:=L;cases y with
  | byt j=>obtain⟨t',rfl⟩:=B;exact PySem.W.ne_bytes (bG I q (congrArg not yV))
  | _=>exact absurd (show false=true from F) j7
 | _=>cases y <;> exact absurd (show false=true from F) j7
theorem AZ:OpR X (t3 .Lt) (rI0 λi j=>.bl (decide (i < j))):=Do λ_ _ _ _ _ _ _ q=>lt_int q
theorem jY:OpR X (t3 .LtE) (rI0 λi j=>.bl (decide (i<=j))):=Do λ_ _ _ _ _ _ _ q=>le_int q
theorem qJ:OpR X (t3 .Gt) (rI0 λi j=>.bl (decide (j < i))):=Do λ_ _ _ _ _ _ _ q=>gt_int q
theorem HM:OpR X (t3 .GtE) (rI0 λi j=>.bl (decide (j<=i))):=Do λ_ _ _ _ _ _ _ q=>ge_int q
theorem nomark (b:Expr) {B:CmpOp} (h:B≠.In:=by decide) (h2:B≠.NotIn:=by decide):Jk B b=false:=by
 have e1:(B == CmpOp.In)=false:=by cases B <;> first | rfl | exact absurd rfl h
 have e2:(B == CmpOp.NotIn)=false:=by cases B <;> first | rfl | exact absurd rfl h2
 cases b <;> simp[Jk,e1,e2]
theorem aU {B:CmpOp} {r:R2} (Y:OpR X (t3 B) r) (ha:PE X a ta) (hb:PE X b tb) (hm:Jk B b=false:=by first | exact nomark _ | with_unfolding_all rfl):PE X (.Compare a [B] [b] pos) (tOp r ta tb):=by
 intro pins s σ H Q I h;exact wpAny_Compare1 (Gr ha hb I h λv u Z x y H2 F L ry q=>Y pins Z σ H2 x y v u Q F L ry q) hm
def kH (t:TE):TT:=λσ H Q=>t σ H λx H'=>∃k,x = .bl k/\Q k H'
theorem aO {B:CmpOp} {r:R2} (F:OpR X (t3 B) r) (ha:PE X a ta) (Z:PE X b tb) (hm:Jk B b=false:=by first | exact nomark _ | with_unfolding_all rfl):PT X (.Compare a [B] [b] pos) (kH (tOp r ta tb)):=by
 intro pins s σ H Q I h;refine wpAny_isTrue_Compare1 (thn (ha pins s σ H _ I h) λv L ⟨x,H1,I1,r1,q1⟩=>thn (Z pins L σ H1 _ I1 q1) λu Y ⟨y,H2,I2,r2,q2⟩ =>
  thn (F pins Y σ H2 x y v u _ I2 r1 r2 q2) λc s3 ⟨z,H3,I3,r3,k,e,q3⟩=>?_) hm
 subst e;cases r3;exact B_ ⟨H3,I3,q3⟩
def xH (r r':R2) (ta tb tc:TE):TE:=λσ H Q=>ta σ H λx H1=>tb σ H1 λy H2=>r x y H2 λz B=>∃k,z = .bl k /\
 (if k=true then tc σ B λF L=>r' y F L Q else Q (.bl false) B)
theorem Bv {Y B:CmpOp} {r r':R2} (ho:OpR X (t3 Y) r) (F:OpR X (t3 B) r') (ha:PE X a ta) (hb:PE X b tb) (hc:PE X c tc)
  (hm:lastMarks [Y,B] [b,c]=false:=by with_unfolding_all rfl):PE X (.Compare a [Y,B] [b,c] pos) (xH r r' ta tb tc):=by
 intro pins s σ H Q I h;refine Compare_chain (thn (ha pins s σ H _ I h) λv s1 ⟨x,H1,I1,r1,q1⟩=>chain_link (thn (hb pins s1 σ H1 _ I1 q1) λu s2 ⟨y,H2,I2,r2,q2⟩ =>
  thn (ho pins s2 σ H2 x y v u _ I2 r1 r2 q2) λd Z ⟨z,H3,I3,r3,k,e,q3⟩=>?_)) hm
 subst e;cases r3;refine B_ ?_
 cases k with
 | false=>exact ite_ff ⟨.bl false,H3,I3,rfl,q3⟩
 | true=>exact ite_tt (chain_last (thn (hc pins Z σ H3 _ I3 q3) λw' s4 L=>by obtain⟨z',H4,I4,r4,q4⟩:=L;exact(F pins s4 σ H4 y z' u w' Q I4 r2 r4 q4)))
theorem oB:(hB:Nat) < 2 ^ 63:=by rw[sizeLine_eq];decide
theorem xW:OpR X (Kn .Add) (λx y H Q=>∃i j,x = .str i/\y = .str j/\i.length+j.length<=hB/\Q (.str (i++j)) H):=by
 intro pins s σ H x y v u Q I B L h;obtain⟨i,j,rfl,rfl,F,q⟩:=h;obtain⟨t,rfl⟩:=B;obtain⟨t',rfl⟩:=L;exact add_str (λt' tk=>⟨.str (i++j),H,I.tok _,⟨_,rfl⟩,q⟩) F
theorem dD {x:V} (r:bi [x] us) : ∃u,us=[u]/\bg x u:=by
 cases r with
 | cons B F=>cases F;exact⟨_,rfl,B⟩
theorem sY {x y:V} (r:bi [x,y] us) : ∃u B,us=[u,B]/\bg x u/\bg y B:=by
 cases r with
 | cons F Z =>
  cases Z with
  | cons Y L=>cases L;exact⟨_,_,rfl,F,Y⟩
theorem sr (F:X.calm=true):bK X (.builtin "max") (λxs H Q=>∃i j,xs=[.int i,.int j]/\Q (.int (if j > i then j else i)) H):=by
 intro pins s σ H xs us Q I r h;obtain⟨i,j,rfl,q⟩:=h;obtain⟨u,L,rfl,⟨t,rfl⟩,⟨t',rfl⟩⟩:=sY r;refine max_two_ints (I.ok.hd F) λh' tk k=>⟨_,H,I.kept k,?_,q⟩
 by_cases B:j > i
 .rw[if_pos B,if_pos B];exact⟨_,rfl⟩
 .rw[if_neg B,if_neg B];exact⟨_,rfl⟩
theorem sS (F:X.calm=true):bK X (.builtin "min") (λxs H Q=>∃i j,xs=[.int i,.int j]/\Q (.int (if j < i then j else i)) H):=by
 intro pins s σ H xs us Q I r h;obtain⟨i,j,rfl,q⟩:=h;obtain⟨u,L,rfl,⟨t,rfl⟩,⟨t',rfl⟩⟩:=sY r;refine min_two_ints (I.ok.hd F) λh' tk k=>⟨_,H,I.kept k,?_,q⟩
 by_cases B:j < i
 .rw[if_pos B,if_pos B];exact⟨_,rfl⟩
 .rw[if_neg B,if_neg B];exact⟨_,rfl⟩
theorem zy:bK X (.type "int") (λxs H Q=>(∃i,xs=[.int i]/\Q (.int i) H)\/∃k,xs=[.bl k]/\Q (.int (if k then 1 else 0)) H):=by
 intro pins s σ H xs us Q I r h;rcases h with⟨i,rfl,q⟩ | ⟨k,rfl,q⟩
 .obtain⟨u,rfl,t,rfl⟩:=dD r
  exact call_int_int ⟨.int i,H,I,⟨_,rfl⟩,q⟩
 .obtain⟨u,rfl,r1⟩:=dD r
  cases r1;exact call_int_bool ⟨.int (if k then 1 else 0),H,I.tok _,⟨_,rfl⟩,q⟩
end
structure xh (h:Heap) (x dx C:Addr) (mA:Str->Option Value):Prop where
 obj:h.get? x=some (instObj C dx)
 ns:h.Ns1 dx mA
 ne:dx≠x
theorem Ad (n:h.Ns1 dx mA) : ∃od,h.get? dx=some od/\∀name,lookIn name od=some (mA name):=by
 obtain⟨o,es,ep,Y,L,F,_,hm⟩:=n;refine⟨o,Y,λname=>?_⟩
 have e:=hm name;unfold nsFind findBy at e;rw[<- Array.find?_toList] at e;unfold lookIn;rw[L];dsimp only
 split
 .rename_i y q
  rw[q] at e;exact congrArg some e
 .rename_i q
  rw[q] at e;have a:es.toList.any (·.refKey)=false:=by
   rw[List.any_eq_false];intro y Z;obtain⟨z,t,B⟩:=F y (Array.mem_toList_iff.mp Z);simp[DictEntry.refKey,B]
  have a' : ¬ es.toList.any (·.refKey)=true:=by rw[a];exact j7
  rw[if_neg a'];exact congrArg some e
theorem xh.look {x:Addr} (I:xh h x dx C mA) : ∃od,PySem.W.InstAt h x (instObj C dx) C (some od)/\∀name,lookIn name od=some (mA name) :=
 let ⟨od,ho,hl⟩:=Ad I.ns
 ⟨od,⟨I.obj,rfl,rfl,ho⟩,hl⟩
section
variable {x:Addr} {v:Value}
theorem Dq {B:Bool} (X:K.In s.heap) (I:xh s.heap x dx C mA) (Y:plainGet K C name=true) (L:hasDictIn K C=true)
  (ha:J4 K (.ref C) name=some none) (Z:mA name=some v) (F:handedIn v=true) (h:Q v { s with toks:=s.toks+1 }) :
  wpAny (model prog w) A (getAttr (.ref x) name B) Q E s:=by
 obtain⟨od,J,hl⟩:=I.look;exact PySem.W.get_value X J (plainGet_of Y).1 (PySem.W.findObj_own L ha rfl (by rw[hl,Z])) F h
theorem Bj {Q:Value × List Value->Shared->Prop} (X:K.In s.heap) (I:xh s.heap x dx C mA) (B:plainGet K C name=true)
  (F:J4 K (.ref C) name=some (-f)) (L:isFn K (.ref f)=true) (Y:mA name=none) (h:Q (.ref f,[.ref x]) s) :
  wpAny (model prog w) A (getMethod (.ref x) name pl) Q E s:=by
 obtain⟨od,J,hl⟩:=I.look;exact PySem.W.method_fn X J (plainGet_of B).1 (plainGet_of B).2 F (beq_iff_eq.mp L) (by show(lookIn name od).map (·.isSome)=some false;rw[hl,Y];rfl) h
theorem CZ {ns:List Str} {Q:Unit->Shared->Prop} (X:K.In s.heap) (I:xh s.heap x dx C mA)
  (hs:J4 K (.ref C) "__setattr__" = some (some (.builtin "object.__setattr__"))) (hp:plainOver K C=true) (ht:takerIn K C name=some none) (hh:hasDictIn K C=true)
  (hw:PySem.Within mA ns) (hsz:ns.length<=hB)
  (h : ∀h',xh h' x dx C (λy=>if y=name then some v else mA y)->J7 dx s.heap h'->Q Unit.unit { s with heap:=h',toks:=s.toks+2 }) :
  wpAny (model prog w) A (setAttr (.ref x) name v) Q E s:=by
 obtain⟨od,J,hl⟩:=I.look;refine PySem.W.set_plain X J hs (PySem.W.osa_open (s:={ s with toks:=s.toks+1 }) (r:=none) X J hp ht λb=>?_)
 obtain⟨cd,hc,Y⟩:=PySem.W.any_some hh;have hx:s.heap.get? x=some ⟨.ref C,some dx,.plain,#[]⟩:=I.obj
 refine a_ (e_ (a_ (a_ (wpAny_loadPart hx (a_ (PySem.W.Looks.here (s:={ s with toks:=s.toks+1 }) (PySem.W.looks_clsIn X hc) ?_))))))
 rw[Y];refine e_ (a:=some dx) (a_ (e_ (a_ ?_)))
 refine wpAny_nsSet1 (s:={ s with toks:=s.toks+1 }) I.ns λh' F B=>?_
 obtain⟨oD,ac,ab,aa,L,Z⟩:=F.count (PySem.Within.cons name v hw);refine a_ (wpAny_lookBehind aa (by rw[L];exact pastItsLine_dict (i8 Z (by rw[x4];omega))) ?_)
 exact e_ (h _ ⟨(B.2 _ (k_ I.ne)).trans I.obj,F,I.ne⟩ B)
theorem BH {vs:List Value} (X:K.In s.heap) (L:makesIn K C=true)
  (hi:J4 K (.ref C) "__init__" = some (-f)) (F:PySem.W.typeIn K (.ref f)=some (.type "function"))
  (h:J8 (model prog w) (A.under (.builtin "type.__call__" ⟨.ref C :: vs,kw⟩)) (.call (.ref f) ⟨.ref (s.heap.objs.size+1) :: vs,kw⟩) (PySem.W.InitBack (s.heap.objs.size+1) R)
   { s with heap:=(s.heap.push JL).push (instObj C s.heap.objs.size) }) :
  J8 (model prog w) A (.call (.ref C) ⟨vs,kw⟩) R s:=by
 obtain⟨Z,g,d,t,Y⟩:=s;exact PySem.W.make_core (PySem.W.makes_of X L) (PySem.W.looks_findIn X hi) (λB=>PySem.W.bind_fn X B F) (.inl rfl) h
end
def ck (f:Str) (v:V):List (Str × V)->List (Str × V)
 | []=>[(f,v)]
 | (g,x) :: r=>if g=f then(g,v) :: r else(g,x) :: ck f v r
theorem br (f g:Str) (v:V) : ∀fs:List (Str × V),(ck f v fs).lookup g=if g=f then some v else fs.lookup g
 | []=>by
  show Ku g [(f,v)]=_
  by_cases h:g=f
  .have hb:(g == f)=true:=beq_iff_eq.mpr h
   simp only[Ku,hb,if_pos h]
  .have hb:(g == f)=false:=beq_eq_false_iff_ne.mpr h
   simp only[Ku,hb,if_neg h]
 | (k, x) :: r=>by
  have F:=br f g v r;rw[show ck f v ((k,x) :: r)=(if k=f then(k,v) :: r else(k,x) :: ck f v r) from rfl]
  by_cases B:k=f
  .rw[if_pos B]
   by_cases h:g=k
   .have hb:(g == k)=true:=beq_iff_eq.mpr h
    simp only[Ku,hb,if_pos (h.trans B)]
   .have hb:(g == k)=false:=beq_eq_false_iff_ne.mpr h
    simp only[Ku,hb,if_neg (λe:g=f=>h (e.trans B.symm))]
  .rw[if_neg B]
   by_cases h:g=k
   .have hb:(g == k)=true:=beq_iff_eq.mpr h
    simp only[Ku,hb,if_neg (λe:g=f=>B (h.symm.trans e))]
   .have hb:(g == k)=false:=beq_eq_false_iff_ne.mpr h
    simp only[Ku,hb];exact F
theorem nF (f:Str) (v:V) : ∀fs:List (Str × V),f∈(ck f v fs).map (·.1)/\∀g,g∈fs.map (·.1)->g∈(ck f v fs).map (·.1)
 | []=>⟨by simp[ck],λg h=>by simp at h⟩
 | (k, x) :: r=>by
  obtain⟨F,L⟩:=nF f v r;rw[show ck f v ((k,x) :: r)=(if k=f then(k,v) :: r else(k,x) :: ck f v r) from rfl]
  by_cases B:k=f
  .rw[if_pos B]
   subst B;exact⟨by simp,λg h=>by simpa using h⟩
  .rw[if_neg B]
   refine⟨?_,λg h=>?_⟩
   .rw[i_]
    exact k6 _ F
   .rw[i_] at h ⊢
    rcases i7.mp h with e | e
    .exact i7.mpr (.inl e)
    .exact k6 _ (L g e)
theorem oH (f:Str) (v:V) : ∀fs:List (Str × V),(ck f v fs).length<=fs.length+1
 | []=>by simp[ck]
 | (k,x) :: r=>by
  have F:=oH f v r;rw[show ck f v ((k,x) :: r)=(if k=f then(k,v) :: r else(k,x) :: ck f v r) from rfl]
  by_cases B:k=f
  .rw[if_pos B,x4,x4];omega
  .rw[if_neg B,x4,x4];omega
theorem jc.some_of {v:V} {o:Option Value} (r:jc (some v) o) : ∃u,o=some u/\bg v u:=by
 cases o with
 | none=>exact(show False from r).elim
 | some u=>exact⟨u,rfl,r⟩
theorem jc.none_of {o:Option Value} (r:jc none o):o=none:=by
 cases o with
 | none=>rfl
 | some u=>exact(show False from r).elim
theorem zJ {v:V} (r:bg v u):handedIn u=true:=by
 cases v with
 | non=>cases (show u=w6 from r);rfl
 | bl b=>cases (show u=JO b from r);rfl
 | int i=>obtain⟨t,e⟩:=(show ∃t,u=Value.int i t from r);cases e;rfl
 | str x=>obtain⟨t,e⟩:=(show ∃t,u=Value.str x t from r);cases e;rfl
 | byt b=>obtain⟨t,e⟩:=(show ∃t,u=Value.bytes b t from r);cases e;rfl
 | flt b=>obtain⟨t,e⟩:=(show ∃t,u=Value.float b t from r);cases e;rfl
 | ref a=>cases (show u=j6 a from r);rfl
 | ty n=>cases (show u=y2 n from r);rfl
section
variable {H H':Hp} {fs fs':List (Str × V)}
theorem pJ (B:HOk P w H h) (e:H a=some (.ins C dx fs)) : ∃mA,xh h a dx C mA/\(∀f,jc (fs.lookup f) (mA f))/\PySem.Within mA (fs.map (·.1))/\fs.length<=1000/\H dx=some (.own a):=by
 obtain⟨d,z,ne,ob,mA,n,r,q⟩:=(show bC P w H h a (.ins C dx fs) from B a _ e)
 exact⟨mA,⟨ob,n,ne⟩,r,q,z,d⟩
end
structure Cls (K:fy) (C:Addr):Prop where
 pg:plainGet K C Str.empty=true
 hd:hasDictIn K C=true
 po:plainOver K C=true
 sa:J4 K (.ref C) "__setattr__" = some (some (.builtin "object.__setattr__"))
theorem Cls.get (c:Cls K C) (f:Str):plainGet K C f=true:=c.pg
def aN (K:fy) (C:Addr) (f:Str):Prop:=J4 K (.ref C) f=some none
theorem aN.taker {f:Str} (n:aN K C f):takerIn K C f=some none:=by
 unfold takerIn;rw[show J4 K (.ref C) f=some none from n]
 rfl
structure aC (K:fy) (C:Addr) (m:Str) (f:Addr):Prop where
 at_:J4 K (.ref C) m=some (-f)
 fn:isFn K (.ref f)=true
 kp:JM K (.ref f)=true
section
variable {X:Cx} {σ:St} {H:Hp} {fs:List (Str × V)} {f:Str} {v:V}
theorem wU {b:Bool} (I:Inv X pins σ H s) (e:H a=some (.ins C dx fs)) (c:Cls X.K C) (n:aN X.K C f) (l:fs.lookup f=some v)
  (h : ∀u s',Inv X pins σ H s'->bg v u->Q u s'):wpAny (model X.prog X.w) A (getAttr (.ref a) f b) Q E s:=by
 obtain⟨mA,O,r,_,_,_⟩:=pJ I.hok e;obtain⟨u,hu,B⟩:=jc.some_of (v:=v) (o:=mA f) (by rw[<- l];exact r f)
 exact Dq I.kIn O (c.get f) c.hd n hu (zJ B) (h u _ (I.tok _) B)
theorem qW {m:Str} {g:Addr} {Q:Value × List Value->Shared->Prop} (I:Inv X pins σ H s) (e:H a=some (.ins C dx fs)) (c:Cls X.K C) (k:aC X.K C m g) (l:fs.lookup m=none)
  (h:Q (.ref g,[.ref a]) s):wpAny (model X.prog X.w) A (getMethod (.ref a) m pl) Q E s:=by
 obtain⟨mA,O,r,_,_,_⟩:=pJ I.hok e;have B:mA m=none:=jc.none_of (by rw[<- l];exact r m)
 exact Bj I.kIn O (c.get m) k.at_ k.fn B h
theorem xT {y:V} {Q:Unit->Shared->Prop} (I:Inv X pins σ H s) (e:H a=some (.ins C dx fs)) (c:Cls X.K C) (n:aN X.K C f) (hl:fs.length < 1000) (Z:bg y u)
  (h : ∀s',Inv X pins σ (upd H a (.ins C dx (ck f y fs))) s'->Q Unit.unit s'):wpAny (model X.prog X.w) A (setAttr (.ref a) f u) Q E s:=by
 obtain⟨mA,O,r,wi,_,F⟩:=pJ I.hok e;have L:(fs.map (·.1)).length<=hB:=by rw[d_,sizeLine_eq];omega
 refine CZ I.kIn O c.sa c.po n.taker c.hd wi L λh' B sb=>h _ ?_
 have hd : ∃o,h'.get? dx=some o:=let ⟨o,_,_,e',_⟩:=B.ns;⟨o,e'⟩
 refine I.write (x:=a) (e:=dx) (by rw[e];exact p_) (.inr F) (λb q Y z=>(sb.2 b Y).trans z) hd ?_
 refine⟨by rw[ag O.ne];exact F,?_,O.ne,B.obj,_,B.ns,λg=>?_,λg hg=>?_⟩
 .have:=oH f y fs;omega
 .show jc ((ck f y fs).lookup g) (if g=f then some u else mA g)
  rw[br]
  by_cases q:g=f
  .rw[if_pos q,if_pos q];exact Z
  .rw[if_neg q,if_neg q];exact r g
 .by_cases q:g=f
  .rw[q];exact(nF f y fs).1
  .refine(nF f y fs).2 g (wi g λz=>hg ?_)
   show(if g=f then some u else mA g)=none
   rw[if_neg q];exact z
theorem Inv.made (I:Inv X pins σ H s):Inv X pins σ (upd (upd H s.heap.objs.size (.own (s.heap.objs.size+1))) (s.heap.objs.size+1) (.ins C s.heap.objs.size []))
  { s with heap:=(s.heap.push JL).push (instObj C s.heap.objs.size) }:=by
 have e1:(s.heap.push JL).get? s.heap.objs.size=some JL:=gt s.heap rfl
 have e2:((s.heap.push JL).push (instObj C s.heap.objs.size)).get? (s.heap.objs.size+1)=some (instObj C s.heap.objs.size):=by
  have:=gt (s.heap.push JL) (o:=instObj C s.heap.objs.size) rfl
  rwa [o8] at this
 have L:(s.heap.push JL).Ns s.heap.objs.size (λ_=>none):=⟨JL,#[],_,e1,rfl,(λe F=>absurd F (by simp)),λ_=>rfl⟩
 have Y:=I.laid (a:=s.heap.objs.size) (o:=.own (s.heap.objs.size+1)) (h':=s.heap.push JL) (t':=s.toks) (λb u q=>c_ _ q) (i6 _) ⟨_,e1⟩
 refine Y.laid (a:=s.heap.objs.size+1) (o:=.ins C s.heap.objs.size []) (t':=s.toks) (λb u q=>c_ _ q) (Jz (o8 _ _)) ?_
 have ne:s.heap.objs.size≠s.heap.objs.size+1:=mu (G_ _)
 refine⟨by rw[ag ne,ae],y6 _,ne,e2,λ_=>none,(Heap.Ns1.of_empty L).at λo q=>c_ _ q,λ_=>p_,λy B=>absurd rfl B⟩
theorem DD {f:Str} (B:Kt e f env (eval e env)=eval e env)
  (h:wpAny (model prog w) A (eval e env) (λo s₁=>wpAny (model prog w) A (getAttr o f true) Q E s₁) E s):wpAny (model prog w) A (eval (.Attribute e f pos) env) Q E s :=
 Attribute_any_ h (by rw[arm_eval_Attribute,B])
end
section
variable {X:Cx} {σ:St} {H:Hp} {c:Value} {b:Bool}
inductive mP (K:fy) (H:Hp):V->Value->Prop where
 | non:mP K H .non (.type "NoneType")
 | bl (x:Bool):mP K H (.bl x) (.type "bool")
 | int (i:Int):mP K H (.int i) (.type "int")
 | str (x:Str):mP K H (.str x) (.type "str")
 | flt (x:UInt64):mP K H (.flt x) (.type "float")
 | lst {a:Addr} {xs:List V} (e:H a*>xs):mP K H (.ref a) (.type "list")
 | frz {a:Addr} {o:Obj} {xs:List V} (e:H a=some (.frz o (.lst xs))):mP K H (.ref a) (.type "list")
 | tup {a:Addr} {xs:List V} (e:H a>>xs):mP K H (.ref a) (.type "tuple")
 | dK {a:Addr} {kvs:List (Key × V)} (e:H a<*kvs):mP K H (.ref a) (.type "dict")
 | dT {a:Addr} {kvs:List (List Key × V)} (e:H a=some (.dT kvs)):mP K H (.ref a) (.type "dict")
 | ins {a C dx:Addr} {fs:List (Str × V)} (e:H a=some (.ins C dx fs)) (cl:Cls K C) (ha:J4 K (.ref C) "__class__" = some (some (.builtin "object.__class__")))
   (hn:specialIn K (.builtin "object.__class__") "__get__" = some (some (.builtin "getset_descriptor.__get__"))) (htk:takesIn K (.builtin "object.__class__")=some true)
   (hm:mroIn K C (.type "object")=some true):mP K H (.ref a) (.ref C)
theorem oA {x:V} {t:Value} (I:Inv X pins σ H s) (B:bg x u) (ty:mP X.K H x t) (e:JN X.K t c=some b) (h : ∀tk,Q (.bool b) { s with toks:=tk }) :
  wpAny (model X.prog X.w) A (call (.builtin "isinstance") [u,c]) Q E s:=by
 cases ty with
 | non=>cases (show u=w6 from B);exact J5 PySem.W.kitx_none I.kIn p_ e (λz=>nomatch z) h
 | bl y=>cases (show u=JO y from B);exact J5 PySem.W.kitx_bool I.kIn p_ e (λz=>nomatch z) h
 | int i=>obtain⟨t,q⟩:=(show ∃t,u=Value.int i t from B);cases q;exact J5 PySem.W.kitx_int I.kIn p_ e (λz=>nomatch z) h
 | str y=>obtain⟨t,q⟩:=(show ∃t,u=Value.str y t from B);cases q;exact J5 PySem.W.kitx_str I.kIn p_ e (λz=>nomatch z) h
 | flt y=>obtain⟨t,q⟩:=(show ∃t,u=Value.float y t from B);cases q;exact J5 PySem.W.kitx_float I.kIn p_ e (λz=>nomatch z) h
 | @lst a xs ea =>
  cases (show u=j6 a from B)
  obtain⟨_,_,n,_,h1⟩:=(show bC X.prog X.w H s.heap a (.lst xs) from I.hok a _ ea)
  exact J5 kitx_list I.kIn ⟨_,h1,rfl⟩ e (λz=>nomatch z) h
 | @frz a ob xs ea =>
  cases (show u=j6 a from B)
  obtain⟨_,_,_,n,_,h1⟩:=(show bC X.prog X.w H s.heap a (.frz ob (.lst xs)) from I.hok a _ ea)
  exact J5 kitx_list I.kIn ⟨_,h1,rfl⟩ e (λz=>nomatch z) h
 | @tup a xs ea =>
  cases (show u=j6 a from B)
  obtain⟨_,_,_,p⟩:=(show bC X.prog X.w H s.heap a (.tup xs) from I.hok a _ ea)
  obtain⟨o,h1,h2,_⟩:=p;exact J5 PySem.W.kitx_tuple I.kIn ⟨o,h1,h2⟩ e (λz=>nomatch z) h
 | @dK a kvs ea =>
  cases (show u=j6 a from B)
  obtain⟨_,_,vs,_,p⟩:=(show bC X.prog X.w H s.heap a (.dK kvs) from I.hok a _ ea)
  obtain⟨o,es,F,h1,h2,_⟩:=p;exact J5 kitx_dict I.kIn ⟨o,h1,h2.1⟩ e (λz=>nomatch z) h
 | @dT a kvs ea =>
  cases (show u=j6 a from B)
  obtain⟨_,_,xs,_,o,es,F,h1,h2,_⟩:=(show bC X.prog X.w H s.heap a (.dT kvs) from I.hok a _ ea)
  exact J5 kitx_dict I.kIn ⟨o,h1,h2.1⟩ e (λz=>nomatch z) h
 | @ins a C dx fs ea cl ha hn htk hm =>
  cases (show u=j6 a from B)
  obtain⟨mA,O,_⟩:=pJ I.hok ea;obtain⟨od,J,_⟩:=O.look;exact J5 (PySem.W.kitx_own (cl.get _) cl.hd ha hn htk hm) I.kIn J e (λz=>nomatch z) h
end
structure dg (k:Nat) (A:Around):Prop where
 hd:A.handled=none
 dp:A.depth+3 * k+5 < recursionLimit
 un:A.units+16 * k+200 < cLine
theorem dg.mono (r:dg k A) (h:j<=k):dg j A:=⟨r.hd,by have:=r.dp;omega,by have:=r.un;omega⟩
theorem dg.deeper {k:Nat} {A:Around} (r:dg (k+1) A) (env:Env):dg k (A.deeper env) :=
 ⟨r.hd,by have:=r.dp;show A.depth+1+3 * k+5 < _;omega,by have:=r.un;show A.units+3+16 * k+200 < _;omega⟩
theorem ye:(A.under (.builtin "type.__call__" ⟨.ref C :: us,kw⟩)).depth=A.depth+1:=by
 first | rfl | simp[Around.under,Code.weight,Code.isCreation,Code.isGuard,Code.isCaller,Code.frames,Code.isFrame,guardIds]
theorem ya:(A.under (.builtin "type.__call__" ⟨.ref C :: us,kw⟩)).units=A.units+1:=by
 first | rfl | simp[Around.under,Code.cUnits,Code.frames,Code.isFrame]
theorem dg.make (r:dg (k+1) A) (C:Addr) (us:List Value) (kw:List (Str × Value)):dg k (A.under (.builtin "type.__call__" ⟨.ref C :: us,kw⟩)) :=
 ⟨r.hd,by have:=r.dp;rw[ye];omega,by have:=r.un;rw[ya];omega⟩
theorem dg.depth {k:Nat} {A:Around} (r:dg k A):A.depth < recursionLimit:=by have:=r.dp;omega
theorem dg.units {k:Nat} {A:Around} (r:dg k A):A.units+64 < cLine:=by have:=r.un;omega
def xO:TA:=λ_ H Q=>Q [] H
def kE (ta:TE) (B:TA):TA:=λσ H Q=>ta σ H λx H1=>B σ H1 λxs H2=>Q (x :: xs) H2
section
variable {X:Cx} {te:TE} {t:TA}
theorem af:PA X [] xO:=λ_ _ _ _ H Q I h=>JY ⟨[],H,I,.nil,h⟩
theorem ac (ha:PE X e te) (hr:PA X es t) (hs:j8 (e :: es) X.env=(false,eval e X.env) :: j8 es X.env:=by rfl):PA X (e :: es) (kE te t):=by
 intro pos pins s σ H Q I h;rw[hs]
 show wpAny _ _ (spliced ((false,eval e X.env) :: y8 pos (j8 es X.env))) _ _ s
 refine JQ (thn (ha pins s σ H _ I h) λu Z B=>?_)
 obtain⟨x,H1,Y,r1,q1⟩:=B;exact thn (hr pos pins Z σ H1 _ Y q1) λus s2 F=>by obtain⟨xs,H2,L,r2,q2⟩:=F;exact(⟨x :: xs,H2,L,.cons r1 r2,q2⟩)
def Ei (t:TA):TE:=λσ H Q=>t σ H λxs H1=>xs.length<=hB/\∀p,H1 p=none->Q (.ref p) (upd H1 p (.tup xs))
def Ee (t:TA):TE:=λσ H Q=>t σ H λxs H1=>xs.length<=hB/\∀p,H1 p=none->Q (.ref p) (upd H1 p (.lst xs))
theorem cq {x1} (h:PA X es t):PE X (.Tuple es x1 pos) (Ei t):=by
 intro pins s σ H Q I F;refine wpAny_Tuple_spliced (thn (h pos pins s σ H _ I F) λus B ⟨xs,H1,I1,r,z,q⟩=>⟨by rw[<- r.length];exact z,?_⟩)
 have L:H1 B.heap.objs.size=none:=I1.hok.fresh (i6 _)
 refine⟨.ref B.heap.objs.size,upd H1 B.heap.objs.size (.tup xs),I1.laid (t':=B.toks) (λb u e=>c_ _ e) (i6 _) ?_,rfl,q _ L⟩
 exact⟨z,us,r,⟨_,gt _ rfl,rfl,_,rfl⟩⟩
theorem cA (h:PA X es t):PE X (.List es pos) (Ee t):=by
 intro pins s σ H Q I F;refine wpAny_List_spliced (thn (h pos pins s σ H _ I F) λus B ⟨xs,H1,I1,r,z,q⟩=>⟨by rw[<- r.length];exact z,?_⟩)
 have L:H1 B.heap.objs.size=none:=I1.hok.fresh (i6 _)
 refine⟨.ref B.heap.objs.size,upd H1 B.heap.objs.size (.lst xs),I1.laid (t':=B.toks) (λb u e=>c_ _ e) (i6 _) ?_,rfl,q _ L⟩
 exact⟨z,us,0,r,gt _ rfl⟩
end
abbrev Sp:=List V->Hp->VK->XK->Prop
abbrev CXT:=List Env->Hp->Shared->XK->Value->Shared->Prop
structure yh (P:Program) (w:World) (K:fy) (mg:Str->Option Value) (base:Heap) (A:Around) (outer:List Env) (s:Shared) (H:Hp):Prop where
 frames:A.frames=some outer
 mod:Mod K mg base
 bs : ∀b o,base.get? b=some o->s.heap.get? b=some o/\H b=none
 bsz:base.objs.size<=s.heap.objs.size
 funs:s.heap.FunFrames base outer
 frf : ∀b∈frs outer,H b=none
 hok:HOk P w H s.heap
 bare:AllBare s.gens
def CE (outer:List Env) (P:Program) (w:World) (H:Hp) (s:Shared) (Q:VK) (u:Value) (s':Shared):Prop :=
 ∃v H',s'.os=s.os/\AllBare s'.gens/\Un (frs outer) [] H H' s.heap s'.heap/\HOk P w H' s'.heap/\bg v u/\Q v H'
def CR (CX:CXT) (outer:List Env) (P:Program) (w:World) (H:Hp) (s:Shared) (Q:VK) (E:XK) (r:Result) (s':Shared):Prop :=
 match r with
 | .ok (.ret u)=>CE outer P w H s Q u s'
 | .ok _=>False
 | .error e=>CX outer H s E e s'
structure ji (P:Program) (w:World) (K:fy) (mg:Str->Option Value) (base:Heap) (CX:CXT) (k:Nat) (f:Addr) (fd:FuncData) (ps:List Str) (sp:Sp):Prop where
 len : ∀vs H Q E,sp vs H Q E->vs.length=ps.length
 run : ∀(A:Around) (outer:List Env) (s:Shared) (H:Hp) (args:Args) (us:List Value) (vs:List V) (Q:VK) (E:XK),dg k A->yh P w K mg base A outer s H->BindsTo s fd args (ps.zip us)->bi vs us->sp vs H Q E ->
  J8 (model P w) A (.call (.ref f) args) (CR CX outer P w H s Q E) s
theorem ji.mono {P:Program} {w:World} {K:fy} {mg:Str->Option Value} {base:Heap} {CX:CXT} {j k:Nat} {f:Addr} {fd:FuncData} {ps:List Str} {sp:Sp} (F:ji P w K mg base CX j f fd ps sp) (h:j<=k) :
  ji P w K mg base CX k f fd ps sp:=⟨F.len,λA outer s H args us vs Q E B=>F.run A outer s H args us vs Q E (B.mono h)⟩
theorem ji.imp {CX:CXT} {sp sp':Sp} (F:ji P w K mg base CX k f fd ps sp)
  (h : ∀vs H Q E,sp' vs H Q E->sp vs H Q E):ji P w K mg base CX k f fd ps sp' :=
 ⟨λvs H Q E q=>F.len vs H Q E (h _ _ _ _ q),λA outer s H args us vs Q E Z B L Y hs=>F.run A outer s H args us vs Q E Z B L Y (h _ _ _ _ hs)⟩
theorem yh.make {H:Hp} (e:yh P w K mg base A outer s H) (C:Addr) (us:List Value) (kw:List (Str × Value)) :
  yh P w K mg base (A.under (.builtin "type.__call__" ⟨.ref C :: us,kw⟩)) outer s H:=⟨by first | exact e.frames | (simpa [Around.under,Code.envs,Code.isFrame,pushEnvs] using e.frames),e.mod,e.bs,e.bsz,e.funs,e.frf,e.hok,e.bare⟩
section
variable {X:Cx} {σ:St} {H:Hp}
theorem Inv.env0 (I:Inv X pins σ H s):yh X.prog X.w X.K X.mg X.base X.A X.stack s H :=
 ⟨I.ok.frames,I.ok.mod,I.bs,i8 I.ok.bsz I.sz,I.stack,I.stkFree,I.hok,I.bare⟩
theorem Inv.after {Q:VK} (I:Inv X pins σ H s) (h:CE X.stack X.prog X.w H s Q u s'):EP X pins σ Q u s':=by
 obtain⟨v,H',os,B,un,F,r,q⟩:=h;obtain⟨Y,g,d,t,L⟩:=s';obtain rfl:L=s.os:=os
 exact⟨v,H',I.call (h':=Y) (g':=g) (d':=d) (t':=t) (ch:=[]) un F B (λb z=>absurd z (by simp)),r,q⟩
end
def rX (sp:Sp) (dvs:List V) (E:XK) (t:TA):TE:=λσ H Q=>t σ H λvs H1=>sp (vs++dvs) H1 Q E
def jD (K:fy) (fd:FuncData) (ps:List Str) (ds:List Value):Prop :=
 ∀(s:Shared) (us:List Value),K.In s.heap->(us++ds).length=ps.length->BindsTo s fd ⟨us,[]⟩ (ps.zip (us++ds))
theorem jD.all (h : ∀us:List Value,us.length=ps.length->bindArgs fd ⟨us,[]⟩=pure (ps.zip us)):jD K fd ps []:=λs us _ hl=>by
 rw[append_nil] at hl ⊢;exact .of_eq (h us hl)
def uQ (CX:CXT) (X:Cx) (E:XK):Prop:=∀(pins:List (Addr × Obj)) (σ:St) (H:Hp) (s:Shared) (e:Value) (s':Shared),Inv X pins σ H s->CX X.stack H s E e s'->X.xe e s'
section
variable {X:Cx} {CX:CXT} {sp:Sp} {dvs:List V} {E:XK} {m:Str} {p:Pos} {o:Expr} {ta:TE} {t:TA}
theorem kT {σ:St} {H:Hp} {Q:VK} {vs:List V} (F:ji X.prog X.w X.K X.mg X.base CX k f fd ps sp) (hr:dg k X.A) (hb:jD X.K fd ps ds) (Y:bi dvs ds) (hx:uQ CX X E)
  (I:Inv X pins σ H s) (r:bi vs us) (h:sp (vs++dvs) H Q E):wpAny (model X.prog X.w) X.A (call (.ref f) us) (EP X pins σ Q) X.xe s:=by
 have L:bi (vs++dvs) (us++ds):=r.append Y
 have hl:(us++ds).length=ps.length:=by rw[<- L.length];exact F.len _ _ _ _ h
 refine wpAny_call (KG (F.run X.A X.stack s H ⟨us,[]⟩ (us++ds) (vs++dvs) Q E hr I.env0 (hb s us I.kIn hl) L h) λr s' B=>?_)
 cases r with
 | error e=>exact hx pins σ H s e s' I B
 | ok Z =>
  cases Z with
  | ret u=>exact I.after B
  | next=>exact G1 B
  | brk=>exact G1 B
  | cont=>exact G1 B
theorem C0 (F:ji X.prog X.w X.K X.mg X.base CX k f fd ps sp) (hr:dg k X.A) (hg:Gl X x) (hm:X.mg x=-f) (Y:JM X.K (.ref f)=true) (hb:jD X.K fd ps ds) (Z:bi dvs ds) (hx:uQ CX X E)
  (ha:PA X (e :: es) t) (B:(x ==("__debug__" : Str))=false:=by decide) (he:j8 (e :: es) X.env=(false,eval e X.env) :: j8 es X.env:=by rfl) (L:(y8 pos (j8 es X.env)).any (·.1)=false:=by rfl) :
  PE X (.Call (.Name x p) (e :: es) [] pos) (rX sp dvs E t):=by
 intro pins s σ H Q I h;refine x5 (lT I hg hm ?_ B)
 refine Kj (h₀:=X.base) I.ok.mod.kin Y (thn (ha pos pins s σ H _ I h) λus s1 ⟨vs,H1,I1,r,q⟩=>⟨I1.kIn,?_⟩) he L
 exact kT F hr hb Z hx I1 r q
structure Mk (K:fy) (C f:Addr):Prop where
 makes:makesIn K C=true
 init:J4 K (.ref C) "__init__" = some (-f)
 fn:isFn K (.ref f)=true
 kp:JM K (.ref C)=true
theorem AQ {σ:St} {H:Hp} {Q:VK} {vs:List V} (M:Mk X.K C f) (F:ji X.prog X.w X.K X.mg X.base CX k f fd ps sp) (hr:dg (k+1) X.A) (hb:jD X.K fd ps ds) (hd:bi dvs ds)
  (hx:uQ CX X E) (I:Inv X pins σ H s) (r:bi vs us)
  (h : ∀x dx,H x=none->H dx=none->dx≠x->sp (.ref x ::(vs++dvs)) (upd (upd H dx (.own x)) x (.ins C dx [])) (λv H2=>v = .non/\Q (.ref x) H2) E) :
  wpAny (model X.prog X.w) X.A (call (.ref C) us) (EP X pins σ Q) X.xe s:=by
 have Y:=h (s.heap.objs.size+1) s.heap.objs.size (I.hok.fresh (le_succ _)) (I.hok.fresh (i6 _)) (mu (G_ _));have L:=Inv.made (C:=C) I;have Z:bi (V.ref (s.heap.objs.size+1) ::(vs++dvs)) (j6 (s.heap.objs.size+1) ::(us++ds)):=.cons rfl (r.append hd)
 have hl:(j6 (s.heap.objs.size+1) :: us++ds).length=ps.length:=by
  have e:=Z.length;rw[F.len _ _ _ _ Y] at e;exact e.symm
 refine wpAny_call (BH (f:=f) I.kIn M.makes M.init (beq_iff_eq.mp M.fn) (KG (F.run _ X.stack _ _ ⟨j6 (s.heap.objs.size+1) :: us,[]⟩ (j6 (s.heap.objs.size+1) ::(us++ds)) _ _ E (hr.make C us [])
  (L.env0.make C us []) (hb _ (j6 (s.heap.objs.size+1) :: us) L.kIn hl) Z Y) λr s' B=>?_))
 cases r with
 | error e=>exact hx pins σ _ _ e s' L B
 | ok fl =>
  cases fl with
  | ret u =>
   obtain⟨v,H',I3,rv,ev,q3⟩:=L.after B;subst ev;exact⟨rv,⟨V.ref (s.heap.objs.size+1),H',I3,rfl,q3⟩⟩
  | next=>exact G1 B
  | brk=>exact G1 B
  | cont=>exact G1 B
end
structure ay (N P:List Str) (sc:Scope):Prop where
 kind:sc.kind = .function
 co:sc.isCoroutine=false
 gen:sc.isGenerator=false
 nd:N.Nodup
 pre:N.take P.length=P
 par : ∀x∈P,sc.names.lookup x=some .local\/sc.names.lookup x=some .cell
 nofree : ∀y∈sc.names,y.2≠.free
theorem sT {B:Str->Option y9} {x:Str} : ∀{binds:List (Str × Value)} {m:Str->Option Value},(∀v,(x,v)∉binds)->bindL B binds m x=m x
 | [],_,_=>rfl
 | (n,v) :: r,m,h=>by
  unfold bindL;rw[sT λw F=>h w (k6 _ F)]
  split
  .have:x≠n:=by rintro rfl;exact h v m8
   simp[this]
  .rfl
theorem sJ {B:Str->Option y9} {x:Str} : ∀{binds:List (Str × Value)} {m:Str->Option Value},(∀v,(x,v)∉binds)->bindC B binds m x=m x
 | [],_,_=>rfl
 | (n,v) :: r,m,h=>by
  unfold bindC;rw[sJ λw F=>h w (k6 _ F)]
  split
  .rfl
  .have:x≠n:=by rintro rfl;exact h v m8
   simp[this]
theorem sL {B:Str->Option y9} {x:Str} {v:Value} : ∀{P:List Str} {vs:List Value} {i:Nat} {m:Str->Option Value},P.Nodup->P[i]? = some x->vs[i]? = some v->B x=some .local ->
  bindL B (P.zip vs) m x=some v
 | [],_,_,_,_,h,_,_=>by simp at h
 | _ :: _,[],_,_,_,_,h,_=>by simp at h
 | p :: P,w :: vs,0,m,nd,h1,h2,hk=>by
  simp at h1 h2;subst h1;subst h2
  show bindL B ((p,w) :: P.zip vs) m p=_
  unfold bindL;rw[sT λv F=>(m7.mp nd).1 (of_mem_zip F).1,if_pos hk]
  simp
 | p :: P,w :: vs,i+1,m,nd,h1,h2,hk=>by
  show bindL B ((p,w) :: P.zip vs) m x=_
  unfold bindL;exact sL (i:=i) (m7.mp nd).2 (by simpa using h1) (by simpa using h2) hk
theorem sF {B:Str->Option y9} {x:Str} {v:Value} : ∀{P:List Str} {vs:List Value} {i:Nat} {m:Str->Option Value},P.Nodup->P[i]? = some x->vs[i]? = some v->B x≠some .local ->
  bindC B (P.zip vs) m x=some v
 | [],_,_,_,_,h,_,_=>by simp at h
 | _ :: _,[],_,_,_,_,h,_=>by simp at h
 | p :: P,w :: vs,0,m,nd,h1,h2,hk=>by
  simp at h1 h2;subst h1;subst h2
  show bindC B ((p,w) :: P.zip vs) m p=_
  unfold bindC;rw[sJ λv F=>(m7.mp nd).1 (of_mem_zip F).1,if_neg hk]
  simp
 | p :: P,w :: vs,i+1,m,nd,h1,h2,hk=>by
  show bindC B ((p,w) :: P.zip vs) m x=_
  unfold bindC;exact sF (i:=i) (m7.mp nd).2 (by simpa using h1) (by simpa using h2) hk
def jl (N:List Str) (vs:List V):St:=vs.map some++List.replicate (N.length - vs.length) none
def tM (CX:CXT) (P:Program) (w:World) (K:fy) (mg:Str->Option Value) (base:Heap) (N:List Str) (qual:Str) (scope:Scope) (f:Addr) (cd:Value) (A:Around) (outer:List Env) (s:Shared) (H:Hp) (E:XK):Cx where
 prog:=P
 w:=w
 K:=K
 mg:=mg
 base:=base
 A:=A.deeper (envOfC qual scope s.heap.objs.size f cd)
 N:=N
 s₀:=s
 H₀:=H
 env:=envOfC qual scope s.heap.objs.size f cd
 outer:=outer
 stack:=envOfC qual scope s.heap.objs.size f cd :: outer
 ex:=[]
 calm:=true
 fn:=λ_=>true
 pn:=[]
 xe:=λe s'=>wpAny (model P w) (A.deeper (envOfC qual scope s.heap.objs.size f cd)) (leaving (envOfC qual scope s.heap.objs.size f cd) e) (λ_ B=>CX outer H s E e B) (λF B=>CX outer H s E F B) s'
theorem wH (h:sc.names.lookup x=some .cell) : ∃c,(o_ n sc.names []).lookup x=some c:=by
 have q:=PySem.W.cellsFrom_some sc.names n [] (.inl h);exact Jp.mp q
theorem zV {CX:CXT} {s1:Shared} {H:Hp} {E:XK} {vs:List V}
  (S:ay N ps scope) (hd:A.handled=none) (B:yh P w K mg base A outer s H) (hl:vs.length=ps.length) (r:bi vs us)
  (x:InCallC s s.heap.objs.size (bindL (envOfC qual scope s.heap.objs.size f cd).kindOf (ps.zip us) λ_=>none) (o_ (s.heap.objs.size+1) scope.names []) (bindC (envOfC qual scope s.heap.objs.size f cd).kindOf (ps.zip us) λ_=>none) s1) :
  Inv (tM CX P w K mg base N qual scope f cd A outer s H E) [] (jl N vs) H s1:=by
 have aa:ps.length<=N.length:=by have:=congrArg List.length S.pre;rw[Ju] at this;omega
 obtain⟨h1,tk,rfl,Z⟩:=x.done;have F : ∀b:Addr,b∉(tM CX P w K mg base N qual scope f cd A outer s H E).ex:=λb z=>absurd (show b∈([]:List Addr) from z) (by simp)
 refine⟨⟨B.mod,S.kind,rfl,rfl,i6 _,λy z c h1 h2=>?_,λy L=>?_,λy c _ h=>?_,λ_=>hd,Around.frames_deeper B.frames,.inr ⟨rfl,rfl⟩,λb z=>absurd z (F b),B.bs,B.bsz,λb _ _=>F b,λb z=>absurd z (F b),B.funs,B.frf⟩,
  rfl,B.bare,Un.kept Z,⟨_,x.toInCall.ns,λi y v h1 h2 h3=>?_⟩,λy c h=>⟨_,x.cell y c h⟩,B.hok.fresh (i6 _),λy c h=>?_,λp hp=>absurd (show p∈([]:List (Addr × Obj)) from hp) (by simp),B.hok.kept Z,?_⟩
 .exact name_of_addr x.apart (JE h1) (JE h2)
 .have L:scope.names.lookup y=some .cell\/scope.names.lookup y=some .free:=L
  rcases L with L | L
  .exact wH L
  .exact absurd rfl (S.nofree _ (JE L))
 .exact Jc (x.above y c (JE h))
 .have hi:i < vs.length:=by
   unfold jl at h2
   by_cases hi:i < vs.length
   .exact hi
   .rw[t7 (by simpa using hi)] at h2
    rw[List.getElem?_replicate] at h2
    split at h2 <;> cases h2
  have ha:vs[i]? = some v:=by
   unfold jl at h2;rw[tj (by simpa using hi),fx] at h2
   cases e:vs[i]? with
   | none=>rw[e] at h2;cases h2
   | some a=>rw[e] at h2;cases h2;rfl
  obtain⟨u,hu,rv⟩:=r.get ha;have hp:ps[i]? = some y:=by
   rw[<- S.pre,List.getElem?_take_of_lt ()];exact h1
  have Y:ps.Nodup:=by rw[<- S.pre];exact S.nd.sublist (Jy _ _)
  refine⟨u,rv,?_⟩
  rcases S.par y (g7 hp) with k | k
  .exact .inl ⟨k,sL Y hp hu k⟩
  .obtain⟨c,e⟩:=wH (n:=s.heap.objs.size+1) k
   refine .inr ⟨.inl k,c,e,?_⟩
   have q:=x.cell y c e;rw[sF Y hp hu (by show scope.names.lookup y≠_;rw[k];decide)] at q
   exact q
 .exact B.hok.fresh (Jc (x.above y c (JE h)))
 .unfold jl
  show _=N.length
  rw[w4,d_,List.length_replicate];omega
theorem Hm {CX:CXT} {dV kV:Value} {an:Option Addr}
   {sp:Sp} (lk:K.lookup f=some ⟨oc,od,.func (fnOf name qual params body scope dV kV doc pm an cdv ct),osl⟩) (ab:codeIn K cdv qual=true) (S:ay N ps scope)
  (Z : ∀vs H Q E,sp vs H Q E->vs.length=ps.length)
  (F : ∀(A:Around) (outer:List Env) (s:Shared) (H:Hp) (vs:List V) (Q:VK) (E:XK),dg k (A.deeper (envOfC qual scope s.heap.objs.size f cdv))->sp vs H Q E ->
   ∃t,PSs (tM CX P w K mg base N qual scope f cdv A outer s H E) body t/\t { nx:=λ_ H'=>Q .non H',rt:=Q } (jl N vs) H) :
  ji P w K mg base CX (k+1) f (fnOf name qual params body scope dV kV doc pm an cdv ct) ps sp:=by
 refine⟨Z,λA outer s H args us vs Q E hr e0 hb r Y=>?_⟩
 have hl:=Z _ _ _ _ Y;have KX:K.In s.heap:=e0.mod.kin.keeps λb o e=>(e0.bs b o e).1
 have ac:s.heap.NoLimit:=e0.mod.nolimit.keeps λb o e=>(e0.bs b o e).1
 have B : ∀y∈ps.zip us,scope.names.lookup y.1=some .local\/(scope.names.lookup y.1=some .cell/\((o_ (s.heap.objs.size+1) scope.names []).lookup y.1).isSome=true):=λ⟨n,v⟩ hy=>by
  rcases S.par n (of_mem_zip hy).1 with q | q
  .exact .inl q
  .exact .inr ⟨q,PySem.W.cellsFrom_some _ _ _ (.inl q)⟩
 refine codeAny_call_function hr.depth (KX _ _ lk) rfl S.co S.gen rfl (PySem.W.codeRec_of KX ab) (hb _ _ _ _ ?_)
 refine wpAny_newFunctionEnv_cells S.kind B λenv he s1 x=>?_
 subst he;refine⟨ac.keeps x.toInCall.keep,codeAny_func ?_⟩
 obtain⟨t,ht,hq⟩:=F A outer s H vs Q E (hr.deeper _) Y;have I:Inv (tM CX P w K mg base N qual scope f cdv A outer s H E) [] (jl N vs) H s1:=zV S hr.hd e0 hl r x
 refine Gt (ht [] s1 (jl N vs) H _ I hq) (λfl s' L=>?_) λe s' L=>L
 have aa : ∀{σ':St} {H':Hp} {v:V} {u:Value},Inv (tM CX P w K mg base N qual scope f cdv A outer s H E) [] σ' H' s'->bg v u->Q v H'->CE outer P w H s Q u s' :=
  λ{σ' H' v u} J rv q=>⟨v,H',J.os,J.bare,J.base,J.hok,rv,q⟩
 cases fl with
 | ret u =>
  obtain⟨v,σ',H',J,rv,q⟩:=L;exact aa J rv q
 | next =>
  obtain⟨σ',H',J,q⟩:=L;exact aa (v:=V.non) (u:=w6) J rfl q
 | brk =>
  obtain⟨_,_,_,q⟩:=L;exact G1 q
 | cont =>
  obtain⟨_,_,_,q⟩:=L;exact G1 q
section
variable {X:Cx} {p:Pos} {t:TA} {id T:String} {r:List V->Hp->VK->Prop}
def tCB (r:List V->Hp->VK->Prop) (t:TA):TE:=λσ H Q=>t σ H λvs H1=>r vs H1 Q
theorem aD (hc:bK X (.builtin id) r) (hm:X.mg x=none) (ha:PA X (e :: es) t) (hg:Gl X x:=by exact rfl) (hv:y7 x=some (.builtin id):=by decide+kernel) (hn:x ≠ "__name__" := by decide) (B:(x ==("__debug__" : Str))=false:=by decide)
  (he:j8 (e :: es) X.env=(false,eval e X.env) :: j8 es X.env:=by rfl) (F:(y8 pos (j8 es X.env)).any (·.1)=false:=by rfl):PE X (.Call (.Name x p) (e :: es) [] pos) (tCB r t):=by
 intro pins s σ H Q I h;refine x5 (gD I hg hm hv ?_ hn B)
 exact PyProof.Rows.callWith_builtin1 (thn (ha pos pins s σ H _ I h) λus Z L=>by obtain⟨vs,H1,Y,r1,q1⟩:=L;exact(hc pins Z σ H1 vs us Q Y r1 q1)) he F
theorem be (hc:bK X (.type T) r) (hm:X.mg x=none) (ha:PA X (e :: es) t) (hg:Gl X x:=by exact rfl) (hv:y7 x=some (.type T):=by decide+kernel) (hn:x ≠ "__name__" := by decide) (B:(x ==("__debug__" : Str))=false:=by decide)
  (he:j8 (e :: es) X.env=(false,eval e X.env) :: j8 es X.env:=by rfl) (F:(y8 pos (j8 es X.env)).any (·.1)=false:=by rfl):PE X (.Call (.Name x p) (e :: es) [] pos) (tCB r t):=by
 intro pins s σ H Q I h;refine x5 (gD I hg hm hv ?_ hn B)
 exact p7 (thn (ha pos pins s σ H _ I h) λus Z L=>by obtain⟨vs,H1,Y,r1,q1⟩:=L;exact(hc pins Z σ H1 vs us Q Y r1 q1)) he F
end
end L2
variable {CX:L2.CXT} {Cs:List (Kh × L2.Sp)} {D:L2.pA} {H H' H1 H2:L2.Hp} {J:L2.It} {X:L2.Cx} {dvs vs xs zs:List L2.V} {fs':List (Jt × L2.V)} {kv kvs:List (L2.Key × L2.V)} {o o' u0:L2.HO} {r r':L2.V->Option Int->Option Int->L2.Hp->L2.VK->Prop} {sp sp':L2.Sp} {ta td te to tv ty:L2.TE} {tb:L2.TS} {tc:L2.TT} {trs:List (L2.TE × L2.TE)} {vb:List (L2.Key × Jd)} {wi:L2.TI} {y:L2.V} {σ σ0:L2.St} {σ':List (Option L2.V)}
namespace HT
open PySem PyProof.Rows
def sIx (n d:Nat):Option Int->Nat
 | none=>d
 | some v=>if v < 0 then(v+(n:Int)).toNat else min v.toNat n
theorem sIx_none (n d:Nat):sIx n d none=d:=rfl
theorem sIx_nat (n d k:Nat):sIx n d (some (k:Int))=min k n:=by
 show(if (k:Int) < 0 then((k:Int)+(n:Int)).toNat else min (k:Int).toNat n)=min k n
 rw[if_neg (),JZ]
theorem sIx_le (n d:Nat) (F:d<=n) (o:Option Int):sIx n d o<=n:=by
 cases o with
 | none=>exact F
 | some v =>
  show(if v < 0 then(v+(n:Int)).toNat else min v.toNat n)<=n
  by_cases B:v < 0
  .rw[if_pos B];omega
  .rw[if_neg B];exact Nat.min_le_right _ _
theorem yA (v:Int) (n d:Nat):(if v < 0 then max (v+(n:Int)) 0 else min v (n:Int))=((sIx n d (some v):Nat):Int):=by
 show(if v < 0 then max (v+(n:Int)) 0 else min v (n:Int))=(((if v < 0 then(v+(n:Int)).toNat else min v.toNat n):Nat):Int)
 by_cases B:v < 0
 .simp only[if_pos B];omega
 .simp only[if_neg B];omega
theorem wX (lo hi:Option Int) (n:Nat):y3 lo hi 1 (n:Int)=(((sIx n 0 lo:Nat):Int),((sIx n n hi:Nat):Int)):=by
 have h1 : ¬ ((1:Int) < 0):=()
 unfold y3;simp only[h1,if_false];refine Prod.ext ?_ ?_
 .cases lo with
  | none=>rfl
  | some v=>exact yA v n 0
 .cases hi with
  | none=>rfl
  | some v=>exact yA v n n
theorem wO (i j:Nat):uj (i:Int) (j:Int) 1=j - i:=by
 unfold uj;have h1:(1:Int) > 0:=()
 simp only[h1,if_true,Int.ediv_one]
 split <;> omega
theorem lj {v:Value} {o:Option Int} {Q:Option Int->Shared->Prop} (p:IsPart v o) (h:Q o s):wpAny (model prog w) A (Builtin.Slice.slicePartIndex v) Q E s:=by
 cases p with
 | none=>exact slicePart_none h
 | int i t=>exact slicePart_int h
theorem iC {sl:Addr} {lo:Option Int} {Q:Int × Int × Nat->Shared->Prop} (Y:s.heap.IsSliceOf sl vl vu .none) (pl:IsPart vl lo) (Z:IsPart vu hi)
  (h:Q (((sIx n 0 lo:Nat):Int),1,sIx n n hi - sIx n 0 lo) s):wpAny (model prog w) A (Jl (.ref sl) (pure (n:Int))) Q E s:=by
 obtain⟨os,B,L,F⟩:=id Y;unfold Jl Builtin.Slice.sliceFields;refine a_ (a_ (la B F (x:=vl) rfl (a_ (la B F (x:=vu) rfl (a_ (la B F (x:=.none) rfl (e_ ?_)))))))
 refine a_ (slicePart_none ?_)
 show wpAny _ _ (if ((1:Int) == 0)=true then _ else _) _ _ s
 rw[if_neg ∅]
 refine a_ (lj pl (a_ (lj Z (a_ (e_ ?_)))))
 show wpAny _ _ (match y3 lo hi 1 (n:Int) with | (lo,hi)=>pure (lo,(1:Int),uj lo hi 1)) _ _ s
 rw[wX lo hi n]
 show wpAny _ _ (pure (((sIx n 0 lo:Nat):Int),(1:Int),uj ((sIx n 0 lo:Nat):Int) ((sIx n n hi:Nat):Int) 1)) _ _ s
 rw[wO];exact e_ h
theorem wc (xs:Array Value) (i k:Nat):((range k).filterMap λ(m:Nat)=>xs[((i:Int)+(m:Int) * 1).toNat]?).toArray=((xs.toList.drop i).take k).toArray:=by
 have e:(λ(m:Nat)=>xs[((i:Int)+(m:Int) * 1).toNat]?)=λm=>xs[i+m]? := by
  funext m
  have:((i:Int)+(m:Int) * 1).toNat=i+m:=()
  rw[this]
 rw[e];have:=pick_run xs i k
 rw[List.filterMap_map] at this;have e2:((λx=>xs[x]?) ∘ λx=>i+x)=λm=>xs[i+m]? := rfl
 rw[e2] at this;rw[this]
theorem getItem_tuple_cut {t sl:Addr} {lo:Option Int} (F:IsTup s.heap t items) (hs:s.heap.IsSliceOf sl vl vu .none) (pl:IsPart vl lo) (pu:IsPart vu hi)
  (hw : ¬ (sIx items.size 0 lo=0/\sIx items.size items.size hi=items.size))
  (h:Q (.ref s.heap.objs.size) { s with heap:=s.heap.push { cls:=.type "tuple",data:=.seq ((items.toList.drop (sIx items.size 0 lo)).take (sIx items.size items.size hi - sIx items.size 0 lo)).toArray } })
  (hsz:items.size<=hB):wpAny (model prog w) A (J9 (.ref t) (.ref sl)) Q E s:=by
 have B:sizeOk (.seq ((items.toList.drop (sIx items.size 0 lo)).take (sIx items.size items.size hi - sIx items.size 0 lo)).toArray):=by
  show((items.toList.drop (sIx items.size 0 lo)).take (sIx items.size items.size hi - sIx items.size 0 lo)).toArray.size<=hB
  rw[j_,Ju,length_drop,F_];omega
 have hj:sIx items.size items.size hi<=items.size:=sIx_le _ _ (i6 _) hi
 obtain⟨os,aa,Z,ab⟩:=id hs;have L:s.TypeIs (.ref sl) "slice" :=⟨os,aa,Z⟩
 unfold J9
 try with_reducible refine u7 ?_
 first | refine a_ (e_ ?_) | skip
 refine a_ (wpAny_sequenceKey F.typeIs ∅ ?_)
 refine a_ (m9 (name:=b_ "__getitem__") F.typeIs o6
  (o7 o6 F.typeIs entry_tuple_getitem ?_ (args_tuple_getitem _ _)))
 show wpAny _ _ (Builtin.Tuple.tupleItemsOf (.ref t) >>= _) _ _ s
 refine a_ (tupleItemsOf_ F ?_)
 refine a_ (J_ L ?_)
 rw[if_pos ∅]
 refine a_ (iC hs pl pu ?_)
 have Y : ¬ ((((sIx items.size 0 lo:Nat):Int) == 0 && (1:Int) == 1 && (sIx items.size items.size hi - sIx items.size 0 lo) == items.size)=true):=by
  intro q;rw[l_,l_] at q;have q1:((sIx items.size 0 lo:Nat):Int)=0:=eq_of_beq q.1.1
  have q2:sIx items.size items.size hi - sIx items.size 0 lo=items.size:=eq_of_beq q.2
  exact hw ⟨(),()⟩
 show wpAny _ _ (if (((sIx items.size 0 lo:Nat):Int) == 0 && (1:Int) == 1 && (sIx items.size items.size hi - sIx items.size 0 lo) == items.size)=true then _ else _) _ _ s
 rw[if_neg Y,wc]
 first
  | exact a_ (m:=u9 _) (r_ (e_ ⟨_,rfl,e_ h⟩) B)
  | exact a_ (m:=u9 _) (r_ (a_ (e_ (e_ ⟨_,rfl,e_ h⟩))) B)
  | exact a_ (a_ (m:=u9 _) (r_ (e_ (e_ ⟨_,rfl,e_ h⟩)) B))
  | exact a_ (a_ (m:=u9 _) (r_ (e_ ⟨_,rfl,e_ h⟩) B))
end HT
namespace L2
open PySem PySem.Spec PyProof.Rows
abbrev TO:=St->Hp->(Option Int->Hp->Prop)->Prop
def PO (X:Cx) (e:Option Expr) (t:TO):Prop :=
 ∀ (pins:List (Addr × Obj)) (s:Shared) (σ:St) (H:Hp) (Q:Option Int->Hp->Prop),Inv X pins σ H s->t σ H Q ->
  wpAny (model X.prog X.w) X.A (evalPart e X.env) (λu s'=>∃o H',Inv X pins σ H' s'/\IsPart u o/\Q o H') X.xe s
def mz:TO:=λ_ H Q=>Q none H
def vt (t:TE):TO:=λσ H Q=>t σ H λx H1=>∃i,x = .int i/\Q (some i) H1
theorem eK : ∀{us:List Value},bi (ns.map V.int) us->KI us ns:=by
 induction ns with
 | nil=>intro us r;rw[map_nil] at r;cases r;exact .nil
 | cons n ns B =>
  intro us r;rw[i_] at r;cases r with
  | cons F L =>
   obtain⟨t,e⟩:=F;subst e;exact .cons n t (B L)
section
variable {lo hi:Option Expr} {tl th:TO}
theorem eF:PO X none mz:=by
 intro pins s σ H Q I h;rw[evalPart_none];exact e_ ⟨none,H,I,.none,h⟩
theorem de (h:PE X e te):PO X (some e) (vt te):=by
 intro pins s σ H Q I L;rw[evalPart_some];refine thn (h pins s σ H _ I L) λu s1 B=>?_
 obtain⟨x,H1,F,Z,Y⟩:=B;obtain⟨i,rfl,q⟩:=Y;obtain⟨t,rfl⟩:=Z;exact⟨some i,H1,F,.int i t,q⟩
def SlR (X:Cx) (r:V->Option Int->Option Int->Hp->VK->Prop):Prop :=
 ∀ (pins:List (Addr × Obj)) (s:Shared) (σ:St) (H:Hp) (x:V) (v vl vu:Value) (lo hi:Option Int) (sl:Addr) (Q:VK),Inv X pins σ H s->bg x v->s.heap.IsSliceOf sl vl vu .none->IsPart vl lo->IsPart vu hi->r x lo hi H Q ->
  ∃T id,Ko (.type T) "__getitem__" = pure (some (.builtin id))/\s.TypeIs v T/\wpAny (model X.prog X.w) X.A (J9 v (.ref sl)) (EP X pins σ Q) X.xe s
def tSl (r:V->Option Int->Option Int->Hp->VK->Prop) (te:TE) (tl th:TO):TE:=λσ H Q=>te σ H λx H1=>tl σ H1 λl H2=>th σ H2 λu B=>r x l u B Q
theorem cM (hr:SlR X r) (he:PE X e te) (hl:PO X lo tl) (hu:PO X hi th):PE X (.Subscript e (.Slice lo hi none p2) pos) (tSl r te tl th):=by
 intro pins s σ H Q I h;refine Subscript_ (thn (he pins s σ H _ I h) λv s1 L=>?_)
 obtain⟨x,H1,Z,r1,q1⟩:=L;refine wpAny_Slice (thn (hl pins s1 σ H1 _ Z q1) λvl s2 ⟨l,H2,I2,pl,q2⟩=>thn (hu pins s2 σ H2 _ I2 q2) λvu B F=>?_)
 obtain⟨u,Y,I3,pu,q3⟩:=F;rw[evalPart_none];refine e_ ?_
 have I4:Inv X pins σ Y { B with heap:=B.heap.push { cls:=.type "slice",data:=.fields #[vl,vu,.none] } }:=I3.kept (t':=B.toks) λb ob q=>c_ _ q
 obtain⟨T,id,hT,ht,hg⟩:=hr pins { B with heap:=B.heap.push { cls:=.type "slice",data:=.fields #[vl,vu,.none] } } σ Y x v vl vu l u B.heap.objs.size Q I4 r1 (Heap.IsSliceOf.new ..) pl pu q3
 show wpAny (model X.prog X.w) X.A (subscriptTail e (.Slice lo hi none p2) v (.ref B.heap.objs.size)) (EP X pins σ Q) X.xe { B with heap:=B.heap.push { cls:=.type "slice",data:=.fields #[vl,vu,.none] } }
 exact tail_any (ops:=[.ref B.heap.objs.size,v]) ht hT hg (by with_unfolding_all rfl)
def gR (xs:List V) (lo hi:Option Int):List V:=(xs.drop (HT.sIx xs.length 0 lo)).take (HT.sIx xs.length xs.length hi - HT.sIx xs.length 0 lo)
theorem oY (xs:List V) (lo hi:Option Int):(gR xs lo hi).length<=xs.length:=by
 unfold gR;rw[Ju,length_drop];omega
def IY (K:fy):V->Option Int->Option Int->Hp->VK->Prop:=λx lo hi H Q=>∃a xs,x = .ref a/\SqT K H a xs /\
 ¬ (HT.sIx xs.length 0 lo=0/\HT.sIx xs.length xs.length hi=xs.length)/\∀p,H p=none->Q (.ref p) (upd H p (.tup (gR xs lo hi)))
theorem EC:SlR X (IY X.K):=by
 intro pins s σ H x v vl vu lo hi sl Q I Y hs pl Z h;obtain⟨a,xs,rfl,hx,hw,q⟩:=h;cases Y;obtain⟨its,r,L,F⟩:=I.tuple hx;have B:its.toArray.size=xs.length:=by rw[j_];exact r.length.symm
 refine⟨"tuple",_,o6.lookup,L.typeIs,?_⟩
 refine HT.getItem_tuple_cut L hs pl Z (by rw[B];exact hw) ?_ (by rw[B];exact F)
 rw[B];refine⟨.ref s.heap.objs.size,_,I.laid (t':=s.toks) (o:=.tup (gR xs lo hi)) (λb ob q=>c_ _ q) (i6 _) ?_,rfl,q _ (I.hok.fresh (i6 _))⟩
 exact⟨i8 (oY xs lo hi) F,_,(r.drop (HT.sIx xs.length 0 lo)).take (HT.sIx xs.length xs.length hi - HT.sIx xs.length 0 lo),IsTup.new _ _⟩
end
def ixN (n:Nat) (i:Int):Option Nat:=if 0<=i then(if i < n then some i.toNat else none) else if -(n:Int)<=i then some (i+n).toNat else none
def atI {α:Type} (xs:List α) (i:Int):Option α:=(ixN xs.length i).bind λj=>xs[j]?
theorem C6 {i:Int} (h:ixN n i=some j):seqIndex? i n=some j/\j < n/\-(n:Int)<=i/\i < n:=by
 unfold ixN at h
 by_cases B:0<=i
 .rw[if_pos B] at h
  by_cases h1:i < n
  .rw[if_pos h1] at h
   have e:i.toNat=j:=ge h
   exact⟨by rw[seqIndex_of B h1,e],(),(),h1⟩
  .rw[if_neg h1] at h;cases h
 .rw[if_neg B] at h
  by_cases h1 : -(n:Int)<=i
  .rw[if_pos h1] at h
   have e:(i+n).toNat=j:=ge h
   exact⟨by rw[seqIndex_neg () h1,e],(),h1,()⟩
  .rw[if_neg h1] at h;cases h
theorem uL {xs:List α} {i:Int} {v:α} (h:atI xs i=some v) : ∃j,seqIndex? i xs.length=some j/\xs[j]? = some v/\j < xs.length/\-(xs.length:Int)<=i/\i < xs.length:=by
 unfold atI at h;cases e:ixN xs.length i with
 | none=>rw[e] at h;cases h
 | some j =>
  rw[e] at h;obtain⟨h1,h2,B,F⟩:=C6 e;exact⟨j,h1,h,h2,B,F⟩
theorem cE {xs:List α} {v:α} (h:xs[j]? = some v):atI xs (j:Int)=some v:=by
 have B:j < xs.length:=(g_.mp h).1
 have e:ixN xs.length (j:Int)=some j:=by
  unfold ixN;rw[if_pos (),if_pos ()];simp
 unfold atI;rw[e];exact h
theorem qQ (xs:List α) (v:α):atI (xs++[v]) (-1)=some v:=by
 have hl:(xs++[v]).length=xs.length+1:=by simp
 have e:ixN (xs++[v]).length (-1)=some xs.length:=by
  unfold ixN;rw[hl,if_neg ∅,if_pos ()]
  congr 1
  omega
 unfold atI;rw[e]
 show(xs++[v])[xs.length]? = some v
 simp
def yO (b:Expr):Prop:=∀o i,subscripted b false o i=operate [o,i] (J9 o i)
def IxR (X:Cx) (r:R2):Prop :=
 ∀ (value B:Expr) (pins:List (Addr × Obj)) (s:Shared) (σ:St) (H:Hp) (x y:V) (v u:Value) (Q:VK),Inv X pins σ H s->bg x v->bg y u->r x y H Q ->
  subscripted B false v u=operate [v,u] (J9 v u)->wpAny (model X.prog X.w) X.A (subscriptTail value B v u) (EP X pins σ Q) X.xe s
def MtR (X:Cx) (id:String) (r:V->List V->Hp->VK->Prop):Prop :=
 ∀ (pins:List (Addr × Obj)) (s:Shared) (σ:St) (H:Hp) (x:V) (xs:List V) (v:Value) (us:List Value) (Q:VK),Inv X pins σ H s->bg x v->bi xs us->r x xs H Q ->
  wpAny (model X.prog X.w) X.A (call (.builtin id) (v :: us)) (EP X pins σ Q) X.xe s
section
variable {a b:Expr} {tb:TE}
theorem aE {r:R2} (hr:IxR X r) (ha:PE X a ta) (Y:PE X b tb) (hs:yO b:=by exact λ_ _=>rfl):PE X (.Subscript a b pos) (tOp r ta tb):=by
 intro pins s σ H Q I h;exact Subscript_ (Gr ha Y I h λv u L x y H2 B F Z q=>hr a b pins L σ H2 x y v u Q B F Z q (hs _ _))
def Ie (K:fy):R2:=λx y H Q=>∃p xs i v,x = .ref p/\y = .int i/\SqL K H p xs/\atI xs i=some v/\Q v H
def IB (K:fy):R2:=λx y H Q=>∃p xs i v,x = .ref p/\y = .int i/\SqT K H p xs/\atI xs i=some v/\Q v H
def IJ:R2:=λx y H Q=>∃z i c,x = .str z/\y = .int i/\z.length<=hB/\atI z.cps.toList i=some c/\Q (.str ⟨#[c]⟩) H
theorem Ej:IxR X (Ie X.K):=by
 intro value F pins s σ H x y v u Q I rx ry h hs;obtain⟨p,xs,i,z,rfl,rfl,hq,he,q⟩:=h;cases rx;obtain⟨t,rfl⟩:=ry;obtain⟨its,r,pl,hz⟩:=I.list hq;obtain⟨j,h1,h2,h3,h4,h5⟩:=uL he;obtain⟨w,Z,L⟩:=r.get h2;have hl:=r.length;have hn:=oB;have B:EP X pins σ Q w s:=⟨z,H,I,L,q⟩
 by_cases Y:0<=i
 .have hj:i.toNat=j:=by
   rw[seqIndex_of Y h5] at h1;exact ge h1
  exact item_listR pl.isList Y () (by rw[hj];simpa using Z) B hs
 .have hj:(i+(its.toArray.size:Int)).toNat=j:=by
   rw[seqIndex_neg () h4] at h1
   rw[j_,<- hl];exact ge h1
  exact subscriptTail_builtinR (x:=w) pl.isList.typeIs slot_list_getitem.lookup
   (wpAny_getItem_list_neg (Q:=λr s'=>r=w/\EP X pins σ Q r s') pl.isList () (by rw[j_] <;> omega) () (by rw[hj];simpa using Z) ⟨rfl,B⟩) hs
theorem EQ:IxR X (IB X.K):=by
 intro value B pins s σ H x y v u Q I Y ry h hs;obtain⟨p,xs,i,z,rfl,rfl,Z,he,q⟩:=h;cases Y;obtain⟨t,rfl⟩:=ry;obtain⟨its,r,pl,hz⟩:=I.tuple Z;obtain⟨j,h1,h2,h3,h4,h5⟩:=uL he;obtain⟨w,ew,F⟩:=r.get h2;have hl:=r.length;have hn:=oB;have L:EP X pins σ Q w s:=⟨z,H,I,F,q⟩
 exact subscriptTail_builtinR (x:=w) pl.typeIs slot_tuple_getitem.lookup
  (getItem_tuple (j:=j) (Q:=λr s'=>r=w/\EP X pins σ Q r s') pl () () (by rw[j_,<- hl];exact h1) (by simpa using ew) ⟨rfl,L⟩) hs
theorem FY:IxR X IJ:=by
 intro value B pins s σ H x y v u Q I L ry h hs;obtain⟨z,i,c,rfl,rfl,hz,Y,q⟩:=h;obtain⟨t,rfl⟩:=L;obtain⟨t',rfl⟩:=ry;obtain⟨j,h1,h2,h3,F,Z⟩:=uL Y;have hl:z.cps.toList.length=z.length:=by simp[Str.length]
 rw[hl] at h1 F Z;have hn:=oB;exact tail_any (typeIs_str s z t) slot_str_getitem.lookup (getItem_str (c:=c) (by
  have e1:decide (i < -(2 ^ 63:Int))=false:=decide_eq_false ()
  have e2:decide (i >= 2 ^ 63)=false:=decide_eq_false ()
  rw[e1,e2,Bool.or_false]) (by rw[h1];simpa using h2) ⟨.str ⟨#[c]⟩,H,I.tok _,⟨_,rfl⟩,q⟩) hs
theorem uM (lo hi:Option Int) (n:Nat):(Kv lo hi none n).1=((HT.sIx n 0 lo:Nat):Int)/\(Kv lo hi none n).2.1=((HT.sIx n n hi:Nat):Int)/\(Kv lo hi none n).2.2=1:=by
 refine⟨?_,?_,rfl⟩
 .cases lo with
  | none=>simp[Kv,HT.sIx]
  | some i =>
   simp only[Kv,HT.sIx,getD_none,show(1:Int) > 0 by decide,if_true]
   by_cases h:i < 0
   .simp only[h,if_true] <;> omega
   .simp only[h,if_false] <;> omega
 .cases hi with
  | none=>simp[Kv,HT.sIx]
  | some i =>
   simp only[Kv,HT.sIx,getD_none,show(1:Int) > 0 by decide,if_true]
   by_cases h:i < 0
   .simp only[h,if_true] <;> omega
   .simp only[h,if_false] <;> omega
theorem rP (its:List Value) (lo hi:Option Int):slicePick its.toArray lo hi none=((its.drop (HT.sIx its.length 0 lo)).take (HT.sIx its.length its.length hi - HT.sIx its.length 0 lo)).toArray:=by
 obtain⟨h1,h2,B⟩:=uM lo hi its.toArray.size;unfold slicePick;rw[h1,h2,B];simp only[sliceRange_one,pick_run,j_] <;> rfl
def Ig (K:fy):V->Option Int->Option Int->Hp->VK->Prop:=λx lo hi H Q=>∃a xs,x = .ref a/\SqL K H a xs/\∀p,H p=none->Q (.ref p) (upd H p (.lst (gR xs lo hi)))
theorem yJ:SlR X (Ig X.K):=by
 intro pins s σ H x v vl vu lo hi sl Q I L hs pl Y h;obtain⟨a,xs,rfl,hx,q⟩:=h;cases L;obtain⟨its,r,F,Z⟩:=I.list hx;have B:=r.length;refine⟨"list",_,slot_list_getitem.lookup,F.isList.typeIs,?_⟩
 refine wpAny_getItem_list_slice F.isList hs pl Y .none (by simp) ?_ (by rw[j_] <;> omega)
 rw[rP,<- B];refine⟨.ref s.heap.objs.size,_,I.laid (t':=s.toks) (o:=.lst (gR xs lo hi)) (λb ob q=>c_ _ q) (i6 _) ?_,rfl,q _ (I.hok.fresh (i6 _))⟩
 exact⟨i8 (oY xs lo hi) Z,_,0,(r.drop (HT.sIx xs.length 0 lo)).take (HT.sIx xs.length xs.length hi - HT.sIx xs.length 0 lo),gt _ rfl⟩
def gP:V->Bool
 | .non=>true
 | .bl _=>true
 | .int _=>true
 | .str _=>true
 | _=>false
def eqV:V->V->Bool
 | .non,.non=>true
 | .bl a,.bl b=>a == b
 | .bl a,.int b=>(if a then 1 else 0) == b
 | .int a,.bl b=>a ==(if b then 1 else 0)
 | .int a,.int b=>a == b
 | .str a,.str b=>a == b
 | _,_=>false
theorem Ge {x:V} {v:Value} (F:bg y u) (B:bg x v) (Y:gP y=true) (L:gP x=true):SeqAt.EqAt A s u v (eqV y x):=by
 cases y with
 | non =>
  cases F;cases x with
  | non=>cases B;exact SeqAt.EqAt.same _
  | bl b=>cases B;exact SeqAt.EqAt.none_bool b
  | int b=>obtain⟨t,rfl⟩:=B;exact SeqAt.EqAt.none_int b t
  | str b=>obtain⟨t,rfl⟩:=B;exact SeqAt.EqAt.none_str b t
  | _=>exact absurd (show false=true from L) j7
 | bl a =>
  cases F;cases x with
  | non=>cases B;exact SeqAt.EqAt.bool_none a
  | bl b=>cases B;exact SeqAt.EqAt.bool_bool a b
  | int b=>obtain⟨t,rfl⟩:=B;exact SeqAt.EqAt.bool_int a b t
  | str b=>obtain⟨t,rfl⟩:=B;exact SeqAt.EqAt.bool_str a b t
  | _=>exact absurd (show false=true from L) j7
 | int a =>
  obtain⟨t',rfl⟩:=F;cases x with
  | non=>cases B;exact SeqAt.EqAt.int_none a t'
  | bl b=>cases B;exact SeqAt.EqAt.int_bool a t' b
  | int b=>obtain⟨t,rfl⟩:=B;exact SeqAt.EqAt.int_int a t' b t
  | str b=>obtain⟨t,rfl⟩:=B;exact SeqAt.EqAt.int_str a t' b t
  | _=>exact absurd (show false=true from L) j7
 | str a =>
  obtain⟨t',rfl⟩:=F;cases x with
  | non=>cases B;exact SeqAt.EqAt.str_none a t'
  | bl b=>cases B;exact SeqAt.EqAt.str_bool a t' b
  | int b=>obtain⟨t,rfl⟩:=B;exact SeqAt.EqAt.str_int a t' b t
  | str b=>obtain⟨t,rfl⟩:=B;exact SeqAt.EqAt.str_str a t' b t
  | _=>exact absurd (show false=true from L) j7
 | _=>exact absurd (show false=true from Y) j7
def eqU (x:V) (u:Value):Bool:=match u with
 | .none=>eqV .non x
 | .bool b=>eqV (.bl b) x
 | .int i _=>eqV (.int i) x
 | .str z _=>eqV (.str z) x
 | _=>false
theorem A6 {x:V} (r:bg y u) (f:gP y=true):eqU x u=eqV y x:=by
 cases y with
 | non=>cases r;rfl
 | bl b=>cases r;rfl
 | int i=>obtain⟨t,rfl⟩:=r;rfl
 | str z=>obtain⟨t,rfl⟩:=r;rfl
 | _=>exact absurd (show false=true from f) j7
theorem mE {x:V} : ∀{xs:List V} {us:List Value},bi xs us->xs.all gP=true->us.any (eqU x)=xs.any λy=>eqV y x
 | _,_,.nil,_=>rfl
 | y :: xs,u :: us,.cons r t,f=>by
  rw[List.all_cons,l_] at f;rw[any_cons,any_cons,A6 r f.1,mE t f.2]
theorem jW {A:Around} {s:Shared} {x:V} {v:Value} (B:bg x v) (F:gP x=true) : ∀{xs:List V} {us:List Value},bi xs us->xs.all gP=true->∀u∈us,SeqAt.EqAt A s u v (eqU x u)
 | _,_,.nil,_=>λu hu=>by cases hu
 | y :: xs,u :: us,.cons r t,f=>λL hu=>by
  rw[List.all_cons,l_] at f;rcases i7.mp hu with rfl | hu
  .rw[A6 r f.1];exact Ge r B f.1 F
  .exact jW B F t f.2 L hu
def inV (x:V) (xs:List V):Bool:=xs.any λy=>eqV y x
def rIn (K:fy) (B:Bool):R2:=λx y H Q=>∃p xs,y = .ref p/\(SqL K H p xs\/SqT K H p xs)/\gP x=true/\xs.all gP=true/\Q (.bl (if B then !inV x xs else inV x xs)) H
theorem sW:OpR X (t3 .In) (rIn X.K false):=by
 intro pins s σ H x y v u Q I L Z h;obtain⟨p,xs,rfl,B,Y,fs,q⟩:=h;cases Z;rcases B with B | B
 .obtain⟨its,r,pl,hz⟩:=I.list B
  refine SeqAt.in_listAt (eqU x) pl.isList (λw F=>jW L Y r fs w (by simpa using F)) ⟨.bl _,H,I,rfl,?_⟩
  rw[show its.toArray.any (eqU x)=its.any (eqU x) by simp,mE r fs]
  exact q
 .obtain⟨its,r,pl,hz⟩:=I.tuple B
  refine SeqAt.in_tupleAt (eqU x) pl (λw F=>jW L Y r fs w (by simpa using F)) ⟨.bl _,H,I,rfl,?_⟩
  rw[show its.toArray.any (eqU x)=its.any (eqU x) by simp,mE r fs]
  exact q
theorem uS:OpR X (t3 .NotIn) (rIn X.K true):=by
 intro pins s σ H x y v u Q I L Z h;obtain⟨p,xs,rfl,B,Y,fs,q⟩:=h;cases Z;rcases B with B | B
 .obtain⟨its,r,pl,hz⟩:=I.list B
  refine SeqAt.notIn_listAt (eqU x) pl.isList (λw F=>jW L Y r fs w (by simpa using F)) ⟨.bl _,H,I,rfl,?_⟩
  rw[show its.toArray.any (eqU x)=its.any (eqU x) by simp,mE r fs]
  exact q
 .obtain⟨its,r,pl,hz⟩:=I.tuple B
  refine SeqAt.notIn_tupleAt (eqU x) pl (λw F=>jW L Y r fs w (by simpa using F)) ⟨.bl _,H,I,rfl,?_⟩
  rw[show its.toArray.any (eqU x)=its.any (eqU x) by simp,mE r fs]
  exact q
theorem lN:bK X (.builtin "len") (λxs H Q=>∃p ys,xs=[.ref p]/\(SqL X.K H p ys\/SqT X.K H p ys)/\Q (.int ys.length) H):=by
 intro pins s σ H xs us Q I r h;obtain⟨p,ys,rfl,F,q⟩:=h;obtain⟨u,rfl,L⟩:=dD r;cases L;have Y:=oB;rcases F with F | F
 .obtain⟨its,r',pl,hz⟩:=I.list F
  have B:=r'.length;exact Calls.call_len_list pl.isList (by simp only[j_] <;> omega) ⟨.int ys.length,H,I.tok _,⟨s.toks+1,by rw[j_,B]⟩,q⟩
 .obtain⟨its,r',pl,hz⟩:=I.tuple F
  have B:=r'.length;exact len_tuple pl (by simp only[j_] <;> omega) ⟨.int ys.length,H,I.tok _,⟨s.toks+1,by rw[j_,B]⟩,q⟩
theorem tT:bK X (.builtin "len") (λxs H Q=>∃z,xs=[.str z]/\z.length<=hB/\Q (.int z.length) H):=by
 intro pins s σ H xs us Q I r h;obtain⟨z,rfl,B,q⟩:=h;obtain⟨u,rfl,t,rfl⟩:=dD r;have F:=oB;exact len_str () ⟨.int z.length,H,I.tok _,⟨_,rfl⟩,q⟩
theorem lV:bK X (.type "list") (λxs H Q=>∃p ys,xs=[.ref p]/\(SqL X.K H p ys\/SqT X.K H p ys)/\∀l,H l=none->Q (.ref l) (upd H l (.lst ys))):=by
 intro pins s σ H xs us Q I r h;obtain⟨p,ys,rfl,L,q⟩:=h;obtain⟨u,rfl,rx⟩:=dD r;cases rx;have aa : ∀(its:List Value),bi ys its->ys.length<=hB->∀(h':Heap) (B:Nat),(∀b o',s.heap.get? b=some o'->h'.get? b=some o') ->
   h'.get? s.heap.objs.size=some { cls:=.type "list",dict:=none,data:=.seq its.toArray B,slots := #[] }->EP X pins σ Q (.ref s.heap.objs.size) { s with heap:=h' }:=λits r' Z h' B F e =>
  ⟨.ref s.heap.objs.size,_,I.laid (t':=s.toks) F (i6 _) (show bC X.prog X.w _ h' _ (.lst ys) from⟨Z,its,B,r',e⟩),rfl,q _ (I.hok.fresh (i6 _))⟩
 rcases L with L | L
 .obtain⟨its,r',pl,Z⟩:=I.list L
  have Y:=r'.length;obtain⟨o,ho,hc,n,hd⟩:=pl.isList;exact call_list_seq p (.inl rfl) ho hc hd (λh' B F e=>aa its r' Z h' B F e) (by simp only[j_] <;> omega)
 .obtain⟨its,r',pl,Z⟩:=I.tuple L
  have Y:=r'.length;obtain⟨o,ho,hc,n,hd⟩:=pl;exact call_list_seq p (.inr rfl) ho hc hd (λh' B F e=>aa its r' Z h' B F e) (by simp only[j_] <;> omega)
theorem rn:bK X (.type "tuple") (λxs H Q=>∃p ys,xs=[.ref p]/\((SqL X.K H p ys/\∀l,H l=none->Q (.ref l) (upd H l (.tup ys)))\/(SqT X.K H p ys/\Q (.ref p) H))):=by
 intro pins s σ H xs us Q I r h;obtain⟨p,ys,rfl,h⟩:=h;obtain⟨u,rfl,rx⟩:=dD r;cases rx;rcases h with⟨B,q⟩ | ⟨B,q⟩
 .obtain⟨its,r',pl,hz⟩:=I.list B
  have L:=r'.length;refine call_tuple_list pl.isList (λh' Z=>?_) (by simp only[j_] <;> omega)
  have F:Inv X pins σ H { s with heap:=h' }:=I.kept (t':=s.toks) Z
  have Y:Inv X pins σ (upd H h'.objs.size (.tup ys)) { s with heap:=h'.push { cls:=.type "tuple",data:=.seq its.toArray } } :=
   F.laid (t':=s.toks) (λb o e=>c_ _ e) (i6 _) (show bC X.prog X.w _ _ _ (.tup ys) from⟨hz,its,r',IsTup.new _ _⟩)
  exact⟨.ref h'.objs.size,_,Y,rfl,q _ (F.hok.fresh (i6 _))⟩
 .obtain⟨its,r',pl,hz⟩:=I.tuple B
  exact call_tuple_same pl ⟨.ref p,H,I,rfl,q⟩
def tyV (K:fy) (T:String) (x:V) (H:Hp):Prop:=match x with
 | .str _=>T = "str"
 | .int _=>T = "int"
 | .ref p=>(T = "list"/\∃xs,SqL K H p xs)\/(T = "tuple"/\∃o,K.lookup p=some o/\o.cls = .type "tuple" /\ o.dict=none) \/
   (T = "dict" /\((∃kvs,H p<*kvs)\/∃kvs,H p=some (.dT kvs)))\/(T = "set"/\∃S n,H p=some (.set S n))
 | _=>False
theorem xa {T:String} {x:V} {v:Value} (I:Inv X pins σ H s) (r:bg x v) (ty:tyV X.K T x H) :
  s.TypeIs v T/\∀a,v = .ref a->∃ob,s.heap.get? a=some ob/\ob.dict=none:=by
 cases x with
 | str z =>
  obtain⟨t,rfl⟩:=r;cases (show T = "str" from ty)
  exact⟨typeIs_str s z t,λ_ e=>nomatch e⟩
 | int i =>
  obtain⟨t,rfl⟩:=r;cases (show T = "int" from ty)
  exact⟨typeIs_int s i t,λ_ e=>nomatch e⟩
 | ref p =>
  cases r;rcases ty with⟨rfl,xs,L⟩ | ⟨rfl,o,B,hc,F⟩ | ⟨rfl,B⟩ | ⟨rfl,S,n,B⟩
  .obtain⟨its,_,pl,_⟩:=I.list L
   refine⟨pl.isList.typeIs,λa e=>?_⟩
   cases e;obtain⟨o,n,e,c,F,_⟩:=pl;exact⟨o,e,F⟩
  .refine⟨⟨o,I.kIn p o B,hc⟩,λa e=>?_⟩
   cases e;exact⟨o,I.kIn _ o B,F⟩
  .have z : ∃o,s.heap.get? p=some o/\o.ExactDict:=by
    rcases B with⟨kvs,B⟩ | ⟨kvs,B⟩
    .obtain⟨_,_,_,_,o,_,_,e,ex,_⟩:=I.hok p _ B
     exact⟨o,e,ex⟩
    .obtain⟨_,_,_,_,o,_,_,e,ex,_⟩:=I.hok p _ B
     exact⟨o,e,ex⟩
   obtain⟨o,e,ex⟩:=z;refine⟨⟨o,e,ex.1⟩,λa e2=>?_⟩
   cases e2;exact⟨o,e,ex.2.1⟩
  .obtain⟨o,_,_,_,e,ex,_⟩:=I.hok p _ B
   refine⟨⟨o,e,ex.1⟩,λa e2=>?_⟩
   cases e2;exact⟨o,e,ex.2.1⟩
 | _=>exact G1 ty
variable {o:Expr} {t:TA} {T id:String} {r:V->List V->Hp->VK->Prop}
end
def MtM (X:Cx) (id:String) (r:V->List V->Hp->VK->Prop):Prop :=
 ∀ (pins:List (Addr × Obj)) (s:Shared) (σ:St) (H:Hp) (x:V) (xs:List V) (v:Value) (us:List Value) (Q:VK),Inv X pins σ H s->bg x v->bi xs us->r x xs H Q ->
  wpAny (model X.prog X.w) X.A (call (.builtin id) (v :: us)) (EP X pins σ Q) X.xe s
theorem bi.one : ∀{x:V} {us:List Value},bi [x] us->∃u,us=[u]/\bg x u
 | _,_,.cons r .nil=>⟨_,rfl,r⟩
theorem bi.zero : ∀{us:List Value},bi [] us->us=[]
 | _,.nil=>rfl
theorem bi.dropLast {xs:List V} {us:List Value} (h:bi xs us):bi xs.dropLast us.dropLast:=by
 induction h with
 | nil=>exact .nil
 | cons r t B =>
  cases t with
  | nil=>exact .nil
  | cons q t'=>exact .cons r B
theorem bi.eraseIdx : ∀{xs:List V} {us:List Value} (i:Nat),bi xs us->bi (xs.eraseIdx i) (us.eraseIdx i)
 | _,_,_,.nil=>.nil
 | _,_,0,.cons _ t=>t
 | _,_,i+1,.cons r t=>.cons r (bi.eraseIdx i t)
theorem bi.reverse {xs:List V} {us:List Value} (h:bi xs us):bi xs.reverse us.reverse:=by
 induction h with
 | nil=>exact .nil
 | cons r t B=>rw[List.reverse_cons,List.reverse_cons];exact bi.append B (.cons r .nil)
theorem xS (l:List α):l.eraseIdx (l.length - 1)=l.dropLast:=by
 induction l with
 | nil=>rfl
 | cons a r B =>
  cases r with
  | nil=>rfl
  | cons b r =>
   have e:(a :: b :: r).length - 1=((b :: r).length - 1)+1:=by
    have h1:(a :: b :: r).length=r.length+2:=rfl
    have h2:(b :: r).length=r.length+1:=rfl
    omega
   rw[e,List.eraseIdx_cons_succ,B]
   all_goals rfl
theorem sj {α:Type} : ∀(l:List α) (i:Nat),(l.eraseIdx i).length<=l.length
 | [],_=>i6 _
 | _ :: _,0=>le_succ _
 | _ :: r,i+1=>Nat.succ_le_succ (sj r i)
section
variable {ys:List V}
theorem Inv.lset {its':List Value} {f:Array Value->Array Value} (I:Inv X pins σ H s) (F:H l*>xs)
  (e:s.heap.get? l=some { cls:=.type "list",data:=.seq its.toArray n }) (B:f its.toArray=its'.toArray) (Z:bi ys its') (L:ys.length<=hB) :
  Inv X pins σ (upd H l (.lst ys)) { s with heap:=s.heap.update l (x6 f),toks:=t' }:=by
 have q:=PySem.IsL.update e f;rw[B] at q;refine I.write (x:=l) (e:=l) (by rw[F];exact trivial) (.inl rfl) (λb' u Y hu=>(D_ s.heap (x6 f) (k_ Y)).trans hu) ⟨_,q⟩ ?_
 exact⟨L,its',_,Z,q⟩
theorem Inv.lnew (I:Inv X pins σ H s) (F:bi ys its) (B:ys.length<=hB) :
  Inv X pins σ (upd H s.heap.objs.size (.lst ys)) { s with heap:=s.heap.push { cls:=.type "list",data:=.seq its.toArray },toks:=t' } :=
 I.laid (λ_ _ q=>c_ _ q) (i6 _) ⟨B,its,0,F,gt _ rfl⟩
theorem Inv.fresh (I:Inv X pins σ H s):H s.heap.objs.size=none:=I.hok.fresh (i6 _)
theorem Inv.lstM (I:Inv X pins σ H s) (B:H l*>xs):xs.length<=hB/\∃(its:List Value) (n:Nat),bi xs its/\xs.length=its.length/\s.heap.get? l=some { cls:=.type "list",data:=.seq its.toArray n }:=by
 obtain⟨z,its,n,r,e⟩:=I.hok l _ B;exact⟨z,its,n,r,r.length,e⟩
end
def DQ:V->List V->Hp->VK->Prop:=λx vs H Q=>∃l xs y,x = .ref l/\vs=[y]/\H l*>xs/\xs.length < hB/\Q .non (upd H l (.lst (xs++[y])))
theorem sg:MtM X "list.append" DQ:=by
 intro pins s σ H x vs v us Q I Y L h;obtain⟨l,xs,y,rfl,rfl,B,hz,q⟩:=h;cases Y;obtain⟨u,rfl,Z⟩:=L.one;obtain⟨z,its,n,r,hl,e⟩:=I.lstM B;refine call_meets F.slot_list_append ⟨_,e,rfl⟩ F.entry_list_append (F.args_list_append_2 _ _) (PySem.list_append l its.toArray n u (by rw[j_];omega)) ⟨e,?_⟩
 refine⟨.non,_,I.lset (its':=its++[u]) B e (by simp) (r.append (.cons Z .nil)) ?_,rfl,q⟩
 rw[w4,List.length_singleton];omega
def Io:V->List V->Hp->VK->Prop:=λx vs H Q=>∃l xs y,x = .ref l/\vs=[]/\H l*>xs/\xs[xs.length - 1]? = some y/\Q y (upd H l (.lst xs.dropLast))
theorem ER:MtM X "list.pop" Io:=by
 intro pins s σ H x vs v us Q I rx Z h;obtain⟨l,xs,y,rfl,rfl,Y,hy,q⟩:=h;cases rx;have L:=Z.zero;subst L;obtain⟨z,its,n,r,hl,e⟩:=I.lstM Y;obtain⟨u,hu,ru⟩:=r.get hy;have B:its.toArray[its.toArray.size - 1]? = some u:=by
  show its.toArray[its.length - 1]? = some u
  rw[<- Array.getElem?_toList,<- hl];exact hu
 refine call_meets F.slot_list_pop ⟨_,e,rfl⟩ F.entry_list_pop (F.args_list_pop_1 _) (MeetsSeq.list_pop_last l its.toArray n u B (by rw[j_];omega)) ⟨e,?_⟩
 refine⟨y,_,I.lset (its':=its.dropLast) Y e ?_ r.dropLast ?_,ru,q⟩
 .show its.toArray.eraseIdxIfInBounds (its.toArray.size - 1)=its.dropLast.toArray
  rw[j_,List.eraseIdxIfInBounds_toArray,xS]
 .rw[List.length_dropLast]
  omega
def EK:V->List V->Hp->VK->Prop:=λx vs H Q=>∃l xs i k y,x = .ref l/\vs=[.int i]/\H l*>xs/\-(2 ^ 63)<=i/\i < 2 ^ 63/\seqIndex? i xs.length=some k/\xs[k]? = some y/\Q y (upd H l (.lst (xs.eraseIdx k)))
theorem Cz:MtM X "list.pop" EK:=by
 intro pins s σ H x vs v us Q I rx Y h;obtain⟨l,xs,i,k,y,rfl,rfl,L,h1,h2,Z,hy,q⟩:=h;cases rx;obtain⟨u,rfl,ru⟩:=Y.one;obtain⟨t,rfl⟩:=ru;obtain⟨z,its,n,r,hl,e⟩:=I.lstM L;obtain⟨w,hw,B⟩:=r.get hy;refine call_meets F.slot_list_pop ⟨_,e,rfl⟩ F.entry_list_pop (F.args_list_pop_2 _ _)
  (MeetsSeq.list_pop_at l its.toArray n i t k w (fitsIndex_both h1 h2) (by rw[j_,<- hl];exact Z) (by rw[<- Array.getElem?_toList];exact hw) (by rw[j_];omega)) ⟨e,?_⟩
 refine⟨y,_,I.lset (its':=its.eraseIdx k) L e ?_ (r.eraseIdx k) ?_,B,q⟩
 .show its.toArray.eraseIdxIfInBounds k=(its.eraseIdx k).toArray
  rw[List.eraseIdxIfInBounds_toArray]
 .have:=sj xs k
  omega
def Iu:R2:=λx y H Q=>∃l b xs zs,x = .ref l/\y = .ref b/\H l*>xs/\H b*>zs/\xs.length+zs.length<=hB/\∀p,H p=none->Q (.ref p) (upd H p (.lst (xs++zs)))
theorem EO:OpR X (Kn .Add) Iu:=by
 intro pins s σ H x y v u Q I L ry h;obtain⟨l,b,xs,zs,rfl,rfl,Y,Z,hz,q⟩:=h;cases L;cases ry;obtain⟨z,its,n,r,hl,e⟩:=I.lstM Y;obtain⟨z2,B,n2,r2,aa,e2⟩:=I.lstM Z;refine PySem.P.add_list e e2 ?_ (by rw[j_,j_];omega)
 have F:its.toArray++B.toArray=(its++B).toArray:=by simp
 rw[F];exact⟨.ref _,_,I.lnew (t':=s.toks) (r.append r2) (by rw[w4];omega),rfl,q _ I.fresh⟩
section
variable [DecidableEq κ]
def bJ (kvs:List (κ × V)) (k:κ):Option V:=(kvs.find? λkv=>decide (kv.1=k)).map (·.2)
def bv (kvs:List (κ × V)) (k:κ) (v:V):List (κ × V) :=
 if (kvs.any λkv=>decide (kv.1=k))=true then kvs.map (λkv=>if kv.1=k then(kv.1,v) else kv) else kvs++[(k,v)]
theorem fI {k:κ}:bJ ([]:List (κ × V)) k=none:=rfl
theorem bu {p:κ × V} {r:List (κ × V)} {k:κ} (e:p.1=k):bJ (p :: r) k=some p.2:=by simp[bJ,Jr,e]
theorem aW {p:κ × V} {r:List (κ × V)} {k:κ} (e : ¬ p.1=k):bJ (p :: r) k=bJ r k:=by simp[bJ,Jr,e]
theorem gQ (k:κ) : ∀kvs:List (κ × V),(kvs.any λkv=>decide (kv.1=k))=(bJ kvs k).isSome
 | []=>rfl
 | p :: r=>by
  rw[any_cons]
  by_cases e:p.1=k
  .simp only[bu e,decide_eq_true e,Bool.true_or,isSome_some]
  .rw[aW e,decide_eq_false e,Bool.false_or];exact gQ k r
theorem vI (k j:κ) (y:V) : ∀kvs:List (κ × V),bJ (kvs.map λkv=>if kv.1=k then(kv.1,y) else kv) j=(bJ kvs j).map λx=>if j=k then y else x
 | []=>rfl
 | p :: r=>by
  have B:=vI k j y r;rw[i_]
  by_cases h:p.1=k
  .rw[if_pos h]
   by_cases e:p.1=j
   .rw[bu (p:=(p.1,y)) e,bu e,Kk,if_pos (e.symm.trans h)]
   .rw[aW (p:=(p.1,y)) e,aW e,B]
  .rw[if_neg h]
   by_cases e:p.1=j
   .rw[bu (p:=p) e,bu e,Kk,if_neg (λz=>h (e.trans z))]
   .rw[aW (p:=p) e,aW e,B]
theorem sG (k j:κ) (y:V) : ∀kvs:List (κ × V),bJ kvs k=none->bJ (kvs++[(k,y)]) j=if j=k then some y else bJ kvs j
 | [],_=>by
  by_cases e:k=j
  .rw[if_pos e.symm];exact bu (p:=(k,y)) e
  .rw[if_neg (λz=>e z.symm)];exact aW (p:=(k,y)) e
 | p :: r,hn=>by
  rw[cons_append];have B : ¬ p.1=k:=λz=>by rw[bu z] at hn;cases hn
  rw[aW B] at hn;have F:=sG k j y r hn
  by_cases e:p.1=j
  .rw[bu e,bu e,if_neg (λz=>B (e.trans z))]
  .rw[aW e,aW e,F]
theorem jX (kvs:List (κ × V)) (k j:κ) (y:V):bJ (bv kvs k y) j=if j=k then some y else bJ kvs j:=by
 unfold bv
 by_cases a:(kvs.any λkv=>decide (kv.1=k))=true
 .rw[if_pos a,vI]
  rw[gQ] at a
  by_cases e:j=k
  .obtain⟨x,hx⟩:=Jp.mp a
   rw[if_pos e,e,hx,Kk,if_pos rfl]
  .rw[if_neg e]
   cases bJ kvs j with
   | none=>rfl
   | some x=>rw[Kk,if_neg e]
 .rw[if_neg a]
  refine sG k j y kvs ?_
  rw[gQ] at a;cases q:bJ kvs k with
  | none=>rfl
  | some x=>rw[q] at a;exact(a rfl).elim
theorem cF (kvs:List (κ × V)) (k:κ) (v:V):(bv kvs k v).length<=kvs.length+1:=by
 unfold bv
 split
 .rw[d_];omega
 .rw[w4,x4,length_nil];omega
theorem fh {kvs:List (κ × V)} {k:κ} (v:V) (h:bJ kvs k=none):bv kvs k v=kvs++[(k,v)]:=by
 unfold bv;rw[gQ,h];exact if_neg ∅
theorem jc.isSome_eq {o:Option V} {u:Option Value} (r:jc o u):o.isSome=u.isSome:=by
 cases o with
 | none=>cases u with
  | none=>rfl
  | some _=>exact(show False from r).elim
 | some _=>cases u with
  | none=>exact(show False from r).elim
  | some _=>rfl
theorem jc.getD {o:Option V} {u:Option Value} {d:V} {d':Value} (r:jc o u) (B:bg d d'):bg (o.getD d) (u.getD d'):=by
 cases o with
 | none=>cases u with
  | none=>exact B
  | some _=>exact(show False from r).elim
 | some _=>cases u with
  | none=>exact(show False from r).elim
  | some _=>exact r
theorem KV.val {kvs:List (κ × V)} {vs:List (κ × Value)} (r:KV kvs vs) (k:κ):jc (bJ kvs k) (valueAt vs k):=by
 unfold KV at r
 induction r with
 | nil=>exact p_
 | @cons p q ps qs h t ih =>
  obtain⟨h1,h2⟩:=h
  by_cases e:p.1=k
  .have e':q.1=k:=h1.symm.trans e
   have b:valueAt (q :: qs) k=some q.2:=by simp[valueAt,Jr,e']
   rw[bu e,b];exact h2
  .have e' : ¬ q.1=k:=λz=>e (h1.trans z)
   have b:valueAt (q :: qs) k=valueAt qs k:=by simp[valueAt,Jr,e']
   rw[aW e,b];exact ih
theorem KV.any {kvs:List (κ × V)} {vs:List (κ × Value)} (r:KV kvs vs) (k:κ):(kvs.any λkv=>decide (kv.1=k))=vs.any λkv=>decide (kv.1=k):=by
 unfold KV at r
 induction r with
 | nil=>rfl
 | cons h t B=>rw[any_cons,any_cons,B,h.1]
theorem KV.repl {kvs:List (κ × V)} {vs:List (κ × Value)} (r:KV kvs vs) (k:κ) {y:V} {u:Value} (B:bg y u) :
  KV (kvs.map λkv=>if kv.1=k then(kv.1,y) else kv) (vs.map λkv=>if kv.1=k then(kv.1,u) else kv):=by
 unfold KV at r ⊢
 induction r with
 | nil=>exact .nil
 | @cons p q ps qs h t ih =>
  rw[i_,i_];refine .cons ?_ ih
  obtain⟨h1,h2⟩:=h
  by_cases e:p.1=k
  .rw[if_pos e,if_pos (h1.symm.trans e)];exact⟨h1,B⟩
  .rw[if_neg e,if_neg (λz=>e (h1.trans z))];exact⟨h1,h2⟩
theorem KV.put {kvs:List (κ × V)} {vs:List (κ × Value)} (r:KV kvs vs) (k:κ) {y:V} {u:Value} (B:bg y u):KV (bv kvs k y) (stored vs k u):=by
 unfold bv stored;rw[r.any k]
 by_cases e:(vs.any λkv=>decide (kv.1=k))=true
 .rw[if_pos e,if_pos e];exact r.repl k B
 .rw[if_neg e,if_neg e];exact Paired.snoc r ⟨rfl,B⟩
theorem KV.keys {kvs:List (κ × V)} {vs:List (κ × Value)} (r:KV kvs vs):kvs.map (·.1)=vs.map (·.1):=by
 unfold KV at r
 induction r with
 | nil=>rfl
 | cons h t B=>rw[i_,i_,B,h.1]
theorem KV.length {kvs:List (κ × V)} {vs:List (κ × Value)} (r:KV kvs vs):kvs.length=vs.length:=Paired.length r
end
theorem pY {k:Key} (r:bg (kV k) u):(bo P w).is k u=true:=by
 cases k with
 | inl i=>obtain⟨t,e⟩:=(show ∃t,u=Value.int i t from r);subst e;exact vc P w i t
 | inr x=>obtain⟨t,e⟩:=(show ∃t,u=Value.str x t from r);subst e;exact uY P w x t
theorem sU {P:Program} {w:World} : ∀{ks:List Key} {us:List Value},bi (ks.map kV) us->ItemsAre (bo P w) ks us
 | [],_,r=>by rw[map_nil] at r;cases r;exact .nil
 | k :: ks,_,r=>by
  rw[i_] at r;cases r with
  | cons h t=>exact .cons (pY h) (sU t)
abbrev KT (H:Hp):List (List Key × V)->List (List Key × Addr × Value)->Prop:=Paired λp q=>p.1=q.1/\H q.2.1>>(p.1.map kV)/\bg p.2 q.2.2
theorem KT.val {kvs:List (List Key × V)} {xs:List (List Key × Addr × Value)} (r:KT H kvs xs) (k:List Key):jc (bJ kvs k) ((atKey xs k).map (·.2)):=by
 induction r with
 | nil=>exact p_
 | @cons p q ps qs h t ih =>
  obtain⟨h1,_,h2⟩:=h
  by_cases e:p.1=k
  .have e':q.1=k:=h1.symm.trans e
   have b:atKey (q :: qs) k=some q.2:=by simp[atKey,Jr,e']
   rw[bu e,b];exact h2
  .have e' : ¬ q.1=k:=λz=>e (h1.trans z)
   have b:atKey (q :: qs) k=atKey qs k:=by simp[atKey,Jr,e']
   rw[aW e,b];exact ih
theorem KT.repl {kvs:List (List Key × V)} {xs:List (List Key × Addr × Value)} (r:KT H kvs xs) (k:List Key) {y:V} {u:Value} (B:bg y u) :
  KT H (kvs.map λkv=>if kv.1=k then(kv.1,y) else kv) (xs.map (putAt k u)):=by
 induction r with
 | nil=>exact .nil
 | @cons p q ps qs h t ih =>
  rw[i_,i_];refine .cons ?_ ih
  obtain⟨h1,h2,F⟩:=h;unfold putAt
  by_cases e:p.1=k
  .rw[if_pos e,if_pos (h1.symm.trans e)];exact⟨h1,h2,B⟩
  .rw[if_neg e,if_neg (λz=>e (h1.trans z))];exact⟨h1,h2,F⟩
theorem KT.put {kvs:List (List Key × V)} {xs:List (List Key × Addr × Value)} (r:KT H kvs xs) (k:List Key) {b:Addr} {y:V} {u:Value} (F:H b>>(k.map kV)) (B:bg y u) :
  KT H (bv kvs k y) (storedH xs k b u):=by
 have e:(kvs.any λkv=>decide (kv.1=k))=(atKey xs k).isSome:=by
  rw[gQ,(r.val k).isSome_eq,isSome_map]
 unfold bv storedH;rw[e]
 by_cases q:(atKey xs k).isSome=true
 .rw[if_pos q,if_pos q];exact r.repl k B
 .rw[if_neg q,if_neg q];exact Paired.snoc r ⟨rfl,F,B⟩
theorem KT.keeps {kvs:List (List Key × V)} {xs:List (List Key × Addr × Value)} (r:KT H kvs xs) (B : ∀b ys,H b>>ys->H' b>>ys):KT H' kvs xs :=
 Paired.mapP r λ_ _ z=>⟨z.1,B _ _ z.2.1,z.2.2⟩
theorem Ep {u:HO} (ok:HOk P w H h) (e:Rd H a u):bC P w H h a u:=e.ok ok
theorem oU (ok:HOk P w H h) (e:Rd H a (.dK kvs)):kvs.length<=hB/\(a == H_)=false/\∃vs,KV kvs vs/\h.DictOf (bo P w) a vs :=
 show bC P w H h a (.dK kvs) from Ep ok e
theorem mJ (ok:HOk P w H h) (e:H a<*kvs):kvs.length<=hB/\(a == H_)=false/\∃vs,KV kvs vs/\h.DictOf (bo P w) a vs:=oU ok (.inl e)
theorem nc {ks:List Key} (ok:HOk P w H h) (e:H a>>(ks.map kV)):(Jw (bo P w)).is h ks a:=by
 obtain⟨_,its,r,o,h1,h2,n,B⟩:=(show bC P w H h a (.tup (ks.map kV)) from ok a _ e)
 exact⟨o,its.toArray,n,h1,h2,B,by simpa using sU r⟩
theorem oQ {kvs:List (List Key × V)} (ok:HOk P w H h) (e:Rd H a (.dT kvs)):kvs.length<=hB/\(a == H_)=false /\
  ∃xs,KT H kvs xs/\h.DictOfH (Jw (bo P w)) a xs:=by
 obtain⟨z,y,xs,r,o,es,Z,h1,h2,Y,F,L⟩:=(show bC P w H h a (.dT kvs) from Ep ok e)
 refine⟨z,y,xs,r,o,es,Z,h1,h2,Y,F,λx B=>?_,L⟩
 have all : ∀{l:List (List Key × V)} {m:List (List Key × Addr × Value)},KT H l m->∀x∈m,(Jw (bo P w)).is h x.1 x.2.1:=by
  intro l m q
  induction q with
  | nil=>intro x B;exact nomatch B
  | @cons p q ps qs hq t ih =>
   intro x B;rcases i7.mp B with e | B
   .subst e
    exact nc ok (by rw[<- hq.1];exact hq.2.1)
   .exact ih x B
 exact all r x B
theorem G8 {kvs:List (List Key × V)} (ok:HOk P w H h) (e:H a=some (.dT kvs)):kvs.length<=hB/\(a == H_)=false /\
  ∃xs,KT H kvs xs/\h.DictOfH (Jw (bo P w)) a xs:=oQ ok (.inl e)
def kN (H:Hp) (a:Addr) (y:V) (r:Option V):Prop :=
 (∃kvs k,Rd H a (.dK kvs)/\y=kV k/\r=bJ kvs k)\/∃kvs k b,Rd H a (.dT kvs)/\y = .ref b/\H b>>(k.map kV)/\r=bJ kvs k
def xZ (H:Hp) (a:Addr) (y v:V) (H':Hp):Prop :=
 (∃kvs k,H a<*kvs/\y=kV k/\kvs.length < hB/\H'=upd H a (.dK (bv kvs k v))) \/
 ∃kvs k b,H a=some (.dT kvs)/\y = .ref b/\H b>>(k.map kV)/\kvs.length < hB/\H'=upd H a (.dT (bv kvs k v))
theorem kN.t {kvs:List (List Key × V)} {k:List Key} (e:H a=some (.dT kvs)) (B:H b>>(k.map kV)):kN H a (.ref b) (bJ kvs k):=.inr ⟨kvs,k,b,.inl e,rfl,B,rfl⟩
theorem xZ.t {kvs:List (List Key × V)} {k:List Key} {v:V} (e:H a=some (.dT kvs)) (B:H b>>(k.map kV)) (hl:kvs.length < hB) :
  xZ H a (.ref b) v (upd H a (.dT (bv kvs k v))):=.inr ⟨kvs,k,b,e,rfl,B,hl,rfl⟩
section
variable {v:V} {r:Value} {o:Option V}
theorem Inv.big (I:Inv X pins σ H s):H_ < s.heap.objs.size:=by
 have h:md < s.heap.objs.size:=(I.mod.glob.keeps I.bk).lt
 exact lt_trans ∅ h
theorem rZ (hu:A.units+1 < cLine) (I:Inv X pins σ H s) (g:kN H a y (some v)) (ry:bg y u) (h : ∀L s',Inv X pins σ H s'->bg v L->Q L s') :
  wpAny (model X.prog X.w) A (J9 (.ref a) u) Q E s:=by
 rcases g with⟨kvs,k,e,ey,l⟩ | ⟨kvs,k,b,e,ey,eb,l⟩
 .subst ey
  obtain⟨z,hd,vs,F,Y⟩:=oU I.hok e;obtain⟨L,Z,B⟩:=jc.some_of (v:=v) (o:=valueAt vs k) (by rw[l];exact F.val k)
  exact wpAny_getItem_of (pY ry) Y.mapOf Z (h L _ (I.tok _) B)
 .subst ey
  cases (show u=j6 b from ry)
  obtain⟨z,hd,xs,F,Y⟩:=oQ I.hok e;obtain⟨L,Z,B⟩:=jc.some_of (v:=v) (o:=(atKey xs k).map (·.2)) (by rw[l];exact F.val k)
  obtain⟨p,hp,aa⟩:=Option.map_eq_some_iff.mp Z;refine wpAny_getItem_heap (Jg hu) (nc I.hok eb) Y hp ?_
  rw[aa];exact h L _ (I.tok _) B
theorem Iy (hu:A.units+1 < cLine) (I:Inv X pins σ H s) (g:kN H a y o) (Z:bg y u) (h : ∀s',Inv X pins σ H s'->Q (.bool o.isSome) s') :
  wpAny (model X.prog X.w) A (t3 .In u (.ref a)) Q E s:=by
 rcases g with⟨kvs,k,e,Y,l⟩ | ⟨kvs,k,b,e,Y,eb,l⟩
 .subst Y
  obtain⟨z,F,vs,B,L⟩:=oU I.hok e;refine wpAny_in_of (pY Z) F L.mapOf ?_
  rw[<- (B.val k).isSome_eq,<- l];exact h _ (I.tok _)
 .subst Y
  cases (show u=j6 b from Z)
  obtain⟨z,F,xs,B,L⟩:=oQ I.hok e;refine wpAny_in_heap (Jg hu) (nc I.hok eb) F L ?_
  have q:=(B.val k).isSome_eq;rw[isSome_map] at q;rw[<- q,<- l];exact h _ (I.tok _)
theorem yR (hu:A.units+1 < cLine) (I:Inv X pins σ H s) (g:kN H a y o) (Z:bg y u) (h : ∀s',Inv X pins σ H s'->Q (.bool (!o.isSome)) s') :
  wpAny (model X.prog X.w) A (t3 .NotIn u (.ref a)) Q E s:=by
 rcases g with⟨kvs,k,e,Y,l⟩ | ⟨kvs,k,b,e,Y,eb,l⟩
 .subst Y
  obtain⟨z,F,vs,B,L⟩:=oU I.hok e;refine wpAny_notIn_of (pY Z) F L.mapOf ?_
  rw[<- (B.val k).isSome_eq,<- l];exact h _ (I.tok _)
 .subst Y
  cases (show u=j6 b from Z)
  obtain⟨z,F,xs,B,L⟩:=oQ I.hok e;refine wpAny_notIn_heap (Jg hu) (nc I.hok eb) F L ?_
  have q:=(B.val k).isSome_eq;rw[isSome_map] at q;rw[<- q,<- l];exact h _ (I.tok _)
theorem pM {ob:HO} (I:Inv X pins σ H s) (B:Mut (H a)) (L:J7 a s.heap h') (Y : ∃q,h'.get? a=some q) (new:bC X.prog X.w (upd H a ob) h' a ob) :
  Inv X pins σ (upd H a ob) { s with heap:=h',toks:=t' } :=
 I.write (x:=a) (e:=a) B (.inl rfl) (λb q F z=>(L.2 b F).trans z) Y new
theorem AL {vs:List (Key × Value)} (z:kvs.length<=hB) (F:(a == H_)=false) (B:KV kvs vs) (L:h'.DictOf (bo P w) a vs) :
  bC P w H' h' a (.dK kvs):=⟨z,F,vs,B,L⟩
theorem rY {Q:Unit->Shared->Prop} (hu:A.units+1 < cLine) (I:Inv X pins σ H s) (g:xZ H a y v H') (ry:bg y u) (rv:bg v r) (h : ∀s',Inv X pins σ H' s'->Q Unit.unit s') :
  wpAny (model X.prog X.w) A (setItem (.ref a) u r) Q E s:=by
 rcases g with⟨kvs,k,e,ey,l,eH⟩ | ⟨kvs,k,b,e,ey,eb,l,eH⟩
 .subst ey eH
  obtain⟨z,Y,vs,B,Z⟩:=mJ I.hok e;have hz:vs.length<=hB:=by rw[<- B.length];exact z
  have hl:(bv kvs k v).length<=hB:=by have:=cF kvs k v;omega
  refine wpAny_setItem_pairs (hsz:=hz) (pY ry) Z λh' F hs=>h _ ?_
  have he : ∃q,h'.get? a=some q:=let ⟨q,_,_,L,_⟩:=F;⟨q,L⟩
  exact pM I (by rw[e];exact p_) hs he (AL hl Y (B.put k rv) F)
 .subst ey eH
  cases (show u=j6 b from ry)
  obtain⟨z,Y,xs,B,Z⟩:=G8 I.hok e;have hz:xs.length<=hB:=by rw[<- Paired.length B];exact z
  have hl:(bv kvs k v).length<=hB:=by have:=cF kvs k v;omega
  refine wpAny_setItem_heap (hsz:=hz) (Jg hu) (nc I.hok eb) Z λh' F hs=>h _ ?_
  obtain⟨q,es,ep,L,h2,h3,h4,_,h5⟩:=F;refine pM I (by rw[e];exact p_) hs ⟨q,L⟩ ⟨hl,Y,_,(B.put k eb rv).keeps λc ys ec=>?_,q,es,ep,L,h2,h3,h4,h5⟩
  rw[ag (aX ec e (λz=>nomatch z))]
  exact ec
end
section
variable {k:Key}
theorem HF (I:Inv X pins σ H s) (e:Rd H a (.dK kvs)) (h : ∀t s',Inv X pins σ H s'->Q (.int kvs.length t) s'):wpAny (model X.prog X.w) A (call (.builtin "len") [.ref a]) Q E s:=by
 obtain⟨z,F,vs,B,L⟩:=oU I.hok e;refine call_len_dict F L (by rw[<- B.length];rw[sizeLine_eq] at z;omega) ?_
 rw[<- B.length];exact h _ _ (I.tok _)
end
def Gy (i:Expr):Prop:=∀B F,subscripted i false B F=operate [B,F] (J9 B F)
theorem zj {B:Expr} {T id:String}
  (hl:Ko (.type T) "__getitem__" = pure (some (.builtin id))) (hs:Gy B)
  (h:wpAny (model prog w) A (eval value env) (λo s₁=>wpAny (model prog w) A (eval B env) (λi F=>F.TypeIs o T/\wpAny (model prog w) A (J9 o i) Q E F) E s₁) E s) :
  wpAny (model prog w) A (eval (.Subscript value B pos) env) Q E s:=by
 refine Subscript_ (Gt h (λo s₁ ab=>Gt ab (λi F L=>?_) λ_ _ x=>x) λ_ _ x=>x)
 obtain⟨hT,L⟩:=L;unfold subscriptTail;refine a_ ?_
 rw[getitemInPython_of_ne hT.not_modules];refine a_ (y4 hT hl ?_)
 have Z:wpAny (model prog w) A (subscripted B false o i) (λr Y=>wpAny (model prog w) A (letTemporaryGo value o r >>= λ_=>pure r) Q E Y) E F:=by
  rw[hs o i];exact wpAny_operating (Gt L (λr Y aa=>a_ (wpAny_letTemporaryGo (e_ aa))) λ_ _ x=>x)
 first
  | exact e_ (a_ Z)
  | exact a_ (e_ (a_ Z))
  | exact a_ Z
theorem oZ {o:Option V} (I:Inv X pins σ H s) (g:kN H a y o):s.TypeIs (.ref a) "dict" := by
 rcases g with⟨kvs,k,e,_,_⟩ | ⟨kvs,k,b,e,_,_,_⟩
 .obtain⟨_,_,vs,_,dd⟩:=oU I.hok e
  exact dd.typeIs
 .obtain⟨_,_,xs,_,dd⟩:=oQ I.hok e
  exact dd.typeIs
def Es (td ty:TE):TE:=λσ H Q=>td σ H λx H1=>ty σ H1 λy H2=>∃a v,x = .ref a/\kN H2 a y (some v)/\Q v H2
def yr (ty td:TE):TE:=λσ H Q=>ty σ H λy H1=>td σ H1 λx H2=>∃a o,x = .ref a/\kN H2 a y o/\Q (.bl (!o.isSome)) H2
def zi (td ty tv:TE):TS:=λD σ H=>tv σ H λv H1=>td σ H1 λx H2=>ty σ H2 λy F=>∃a B,x = .ref a/\xZ F a y v B/\D.nx σ B
section
variable {o i:Expr} {tpos:Pos}
theorem Dk (hu:X.A.units+1 < cLine) (Z:PE X o td) (hi:PE X i ty) (hs:Gy i:=by exact λ_ _=>rfl):PE X (.Subscript o i pos) (Es td ty):=by
 intro pins s σ H Q I h;refine zj PySem.F.slot_dict_getitem.lookup hs (thn (Z pins s σ H _ I h) λu s1 ⟨x,H1,I1,rx,q1⟩=>thn (hi pins s1 σ H1 _ I1 q1) λiv s2 B=>?_)
 obtain⟨y,H2,Y,ry,a,v,ex,g,q2⟩:=B;subst ex;obtain rfl:u=j6 a:=rx
 exact⟨oZ Y g,rZ hu Y g ry λw' s3 I3 L=>⟨v,H2,I3,L,q2⟩⟩
theorem zX (hu:X.A.units+1 < cLine) (hi:PE X i ty) (Z:PE X o td):PC X .NotIn i o (yr ty td):=by
 intro pins s σ H Q I h;refine thn (hi pins s σ H _ I h) λiv s1 ⟨y,H1,I1,ry,q1⟩=>thn (Z pins s1 σ H1 _ I1 q1) λu s2 B=>?_
 obtain⟨x,H2,F,L,a,Y,ex,g,q2⟩:=B;subst ex;obtain rfl:u=j6 a:=L
 exact yR hu F g ry λs3 I3=>⟨.bl (!Y.isSome),H2,I3,rfl,q2⟩
theorem yN (hu:X.A.units+1 < cLine) (F:PE X o td) (hi:PE X i ty) (hv:PE X value tv) (hs:KF value (some (.Subscript o i pos')) pos.line X.env=pure false) :
  PS X (.Assign [.Subscript o i pos'] value pos) (zi td ty tv):=by
 intro pins s σ H D I h;refine wpAny_Assign_Subscript (thn (hv pins s σ H _ I h) λr L ⟨v,H1,I1,rv,q1⟩=>thn (F pins L σ H1 _ I1 q1) λu Y ⟨x,H2,I2,rx,q2⟩=>thn (hi pins Y σ H2 _ I2 q2) λiv s3 B=>?_) hs
 obtain⟨y,H3,I3,ry,a,Z,ex,g,q3⟩:=B;subst ex;obtain rfl:u=j6 a:=rx
 exact rY hu I3 g ry rv λs4 I4=>⟨σ,Z,I4,q3⟩
end
theorem wA (h:Heap) (B:H_ < h.objs.size):bC P w H (h.push { cls:=.type "dict",data:=.dict #[] }) h.objs.size (.dK []) :=
 ⟨y6 _,beq_eq_false_iff_ne.mpr (k_ (mu B)),[],.nil,Heap.DictOf.new h⟩
theorem A9 (h:Heap) (B:H_ < h.objs.size):bC P w H (h.push { cls:=.type "dict",data:=.dict #[] }) h.objs.size (.dT []) :=
 ⟨y6 _,beq_eq_false_iff_ne.mpr (k_ (mu B)),[],.nil,_,#[],0,gt _ rfl,⟨rfl,rfl,rfl⟩,rfl,rfl,List.nodup_nil⟩
def tK:TE:=λ_ H Q=>∀p,H p=none->Q (.ref p) (upd H p (.dK []))
def xV:TE:=λ_ H Q=>∀p,H p=none->Q (.ref p) (upd H p (.dT []))
theorem ff:PE X (.Dict [] [] pos) tK:=λpins s σ H Q I h =>
 wpAny_Dict_empty ⟨.ref s.heap.objs.size,_,I.laid (a:=s.heap.objs.size) (o:=.dK []) (t':=s.toks) (λ_ _ q=>c_ _ q) (i6 _) (wA s.heap I.big),rfl,h _ (I.hok.fresh (i6 _))⟩
theorem wu:PE X (.Dict [] [] pos) xV:=λpins s σ H Q I h =>
 wpAny_Dict_empty ⟨.ref s.heap.objs.size,_,I.laid (a:=s.heap.objs.size) (o:=.dT []) (t':=s.toks) (λ_ _ q=>c_ _ q) (i6 _) (A9 s.heap I.big),rfl,h _ (I.hok.fresh (i6 _))⟩
def qt:List (TE × TE)->St->Hp->(List (V × V)->Hp->Prop)->Prop
 | [],_,H,Q=>Q [] H
 | (tk,tv) :: r,σ,H,Q=>tk σ H λx H1=>tv σ H1 λy H2=>qt r σ H2 λps B=>Q ((x,y) :: ps) B
abbrev VV:List (V × V)->List (Value × Value)->Prop:=Paired λp q=>bg p.1 q.1/\bg p.2 q.2
def PPs (X:Cx) (pos:Pos) (keys:List (Option Expr)) (values:List Expr) (trs:List (TE × TE)):Prop :=
 ∀ (pins:List (Addr × Obj)) (s:Shared) (σ:St) (H:Hp) (Q:List (V × V)->Hp->Prop),Inv X pins σ H s->qt trs σ H Q ->
  wpAny (model X.prog X.w) X.A (evalPairs (pairTrees keys values X.env pos)) (λvs s'=>∃ps H',Inv X pins σ H' s'/\VV ps vs/\Q ps H') X.xe s
theorem uG:PPs X pos [] [] []:=λpins s σ H Q I h=>pairTrees_nil_walk ⟨[],H,I,.nil,h⟩
theorem ir {k v:Expr} {ks:List (Option Expr)} {vs:List Expr} {tk:TE} (L:PE X k tk) (hv:PE X v tv) (hr:PPs X pos ks vs trs) :
  PPs X pos (some k :: ks) (v :: vs) ((tk,tv) :: trs):=λpins s σ H Q I h =>
 pairTrees_cons_walk (thn (L pins s σ H _ I h) λu Y ⟨x,H1,I1,rx,q1⟩=>thn (hv pins Y σ H1 _ I1 q1) λw2 s2 ⟨y,H2,I2,ry,q2⟩ =>
  thn (hr pins s2 σ H2 _ I2 q2) λws s3 B=>by obtain⟨ps,Z,I3,F,q3⟩:=B;exact(⟨(x,y) :: ps,Z,I3,.cons ⟨rx,ry⟩ F,q3⟩))
def jP (kvs B:List (Key × V)):List (Key × V):=B.foldl (λF kv=>bv F kv.1 kv.2) kvs
theorem KV.merge : ∀{B:List (Key × V)} {F:List (Key × Value)} {kvs:List (Key × V)} {vs:List (Key × Value)},KV B F->KV kvs vs->KV (jP kvs B) (merged vs F):=by
 intro B F kvs vs r;unfold KV at r
 induction r generalizing kvs vs with
 | nil=>intro q;exact q
 | @cons p q ps qs h t ih =>
  intro L;have e:KV (bv kvs p.1 p.2) (stored vs q.1 q.2):=by
   have:=L.put p.1 h.2
   rw[<- h.1];exact this
  exact ih e
theorem kG : ∀(B kvs:List (Key × V)),(jP kvs B).length<=kvs.length+B.length
 | [],kvs=>by show kvs.length<=kvs.length+0;omega
 | p :: r,kvs=>by
  have h1:=kG r (bv kvs p.1 p.2);have h2:=cF kvs p.1 p.2
  show(jP (bv kvs p.1 p.2) r).length<=_
  rw[x4];omega
theorem qu {P:Program} {w:World} : ∀{kvs:List (Key × V)} {ws:List (Value × Value)},VV (kvs.map λkv=>(kV kv.1,kv.2)) ws->∃B,Carries (bo P w) ws B/\KV kvs B
 | [],_,r=>by rw[map_nil] at r;cases r;exact⟨[],p_,.nil⟩
 | p :: kvs,_,r=>by
  rw[i_] at r;cases r with
  | @cons a b as bs h t =>
   obtain⟨B,c,q⟩:=qu (P:=P) (w:=w) t;obtain⟨L,F⟩:=b;exact⟨(p.1,F) :: B,⟨pY h.1,rfl,c⟩,.cons ⟨rfl,h.2⟩ q⟩
def A4 (trs:List (TE × TE)):TE:=λσ H Q=>∀p,H p=none->qt trs σ (upd H p (.dK [])) λps H2=>H2 p<*[]/\∃kvs:List (Key × V),ps=kvs.map (λkv=>(kV kv.1,kv.2))/\kvs.length<=15/\Q (.ref p) (upd H2 p (.dK (jP [] kvs)))
theorem uN {keys:List (Option Expr)} (h:PPs X pos keys values trs) (L:keys.all (·.isSome)=true) (hl:keys.length=values.length) (h0:keys≠[])
  (Z:keys.length<=15):PE X (.Dict keys values pos) (A4 trs):=by
 intro pins s σ H Q I q;have hn:=I.hok.fresh (i6 s.heap.objs.size);have I1:=I.laid (a:=s.heap.objs.size) (o:=.dK []) (h':=s.heap.push { cls:=.type "dict",data:=.dict #[] }) (t':=s.toks) (λ_ _ q=>c_ _ q) (i6 _) (wA s.heap I.big)
 refine wpAny_Dict_walk (knd:=bo X.prog X.w) L hl h0 Z (thn (h pins _ σ _ _ I1 (q _ hn)) λws s2 B=>?_)
 obtain⟨ps,H2,I2,Y,e,kvs,ep,lk,q2⟩:=B;subst ep;obtain⟨rs,c,rk⟩:=qu (P:=X.prog) (w:=X.w) Y;obtain⟨z,hd,aa,r0,dd⟩:=mJ I2.hok e;cases r0;refine⟨rs,c,dd,λh' F hs=>⟨.ref s.heap.objs.size,_,?_,rfl,q2⟩⟩
 have hz:(jP [] kvs).length<=hB:=by
  have h1:=kG kvs [];rw[length_nil] at h1;rw[sizeLine_eq];omega
 have he : ∃q,h'.get? s.heap.objs.size=some q:=let ⟨q,_,_,hq,_⟩:=F;⟨q,hq⟩
 exact pM I2 (by rw[e];exact p_) hs he (AL hz hd (rk.merge .nil) F)
structure M1 (X:Cx) (o:Expr) (m:Str) (apos:Pos) (e:Expr) (cpos:Pos):Prop where
 base:Kt o m X.env (eval o X.env)=eval o X.env
 few:((y8 cpos (j8 [e] X.env)).all (λx=>!x.1) && (backToKw cpos (Kw [] X.env)).all (λx=>x.1.isSome)
  && decide (([e]:List Expr).length+([]:List Keyword).length+(if ([]:List Keyword).isEmpty then 0 else 1) < 30))=true
 line:(apos.endLine == cpos.line)=true
 trees:y8 cpos (j8 [e] X.env)=[(false,eval e X.env)]
def IsD (H:Hp) (a:Addr):Prop:=(∃kvs,Rd H a (.dK kvs))\/∃kvs,Rd H a (.dT kvs)
theorem FS (I:Inv X pins σ H s) (d:IsD H a) :
  s.TypeIs (.ref a) "dict" /\(∀b,j6 a = .ref b->∃ob,s.heap.get? b=some ob/\ob.dict=none)/\(a == H_)=false:=by
 rcases d with⟨kvs,e⟩ | ⟨kvs,e⟩
 .obtain⟨_,hd,vs,_,dd⟩:=oU I.hok e
  refine⟨dd.typeIs,λb q=>?_,hd⟩
  cases q;obtain⟨ob,_,_,h1,h2,_⟩:=dd;exact⟨ob,h1,h2.2.1⟩
 .obtain⟨_,hd,xs,_,dd⟩:=oQ I.hok e
  refine⟨dd.typeIs,λb q=>?_,hd⟩
  cases q;obtain⟨ob,_,_,h1,h2,_⟩:=dd;exact⟨ob,h1,h2.2.1⟩
section
variable {d:V} {r:Value} {o:Option V}
theorem Gj (hu:A.units+1 < cLine) (I:Inv X pins σ H s) (g:kN H a y o) (ry:bg y u) (h : ∀w' s',Inv X pins σ H s'->bg (o.getD .non) w'->Q w' s') :
  wpAny (model X.prog X.w) A (call (.builtin "dict.get") [.ref a,u]) Q E s:=by
 rcases g with⟨kvs,k,e,Z,l⟩ | ⟨kvs,k,b,e,Z,eb,l⟩
 .subst Z
  obtain⟨z,Y,vs,B,L⟩:=oU I.hok e;refine call_meetsIn Ka L.typeIs PySem.F.entry_dict_get (PySem.F.args_dict_get_2 _ _) (meets_dict_get (bo X.prog X.w) a (pY ry) Y) ⟨_,L.mapOf,h _ _ (I.tok _) ?_⟩
  rw[l];exact(B.val k).getD rfl
 .subst Z
  cases (show u=j6 b from ry)
  obtain⟨z,Y,xs,B,L⟩:=oQ I.hok e;refine call_meetsIn Ka L.typeIs PySem.F.entry_dict_get (PySem.F.args_dict_get_2 _ _) (meetsH_dict_get (Jw (bo X.prog X.w)) a b Y) ⟨Jg hu,k,xs,nc I.hok eb,L,h _ _ (I.tok _) ?_⟩
  rw[l];exact(B.val k).getD rfl
end
end L2
namespace Att
open PySem PySem.W PySem.Calls PyProof.Rows
theorem pC {P:Params} : ∀(ns:List Int) (vs:List Value),WellAll P h vs (ns.map WData.int)->KI vs ns:=by
 intro ns
 induction ns with
 | nil =>
  intro vs w;rw[map_nil] at w;cases w;exact .nil
 | cons n ns B =>
  intro vs w;rw[i_] at w;cases w with
  | cons a b =>
   cases a;exact .cons _ _ (B _ b)
theorem zH {l:OpenLaw} (hn:l.most=some n) {P:Params} {h:Heap} {args:List WData} {B:List Value}
  (F:l.row.toRowW.claim.pre args=true) (ab:WellAll P h B args) :
  ∃a vs ns,B=[j6 a]/\args=[WData.list (ns.map WData.int)]/\h.get? a=some { cls:=.type "list",data:=.seq vs.toArray }/\KI vs ns/\ns.length<=n:=by
 have aa:WShape.hasAll [] args [.list .int]=true:=(pre_splitW F).1
 have hc:l.pre.holds [] { args:=args }=true:=(pre_splitW F).2
 obtain⟨d,r,rfl,h1,h2⟩:=hasAllW_cons aa;obtain rfl:=hasAllW_nil h2
 obtain⟨xs,rfl,h3⟩:=hasW_list h1;obtain⟨ns,rfl⟩:=items_int h3;have L:ns.length<=n:=by
  unfold OpenLaw.pre at hc;have Z:(WTm.not (.lt (.lit (.int (n:Int))) (.len (.arg 0)))).holds [] { args:=[.list (ns.map .int)] }=true:=by
   have Z:=(holds_andW hc).1;rw[hn] at Z;exact Z
  have h5:=condW_of Z (w_not (w_lt w_lit (w_len_list (w_arg rfl))));rw[d_] at h5;refine Nat.le_of_not_lt λq=>?_
  have q':(n:Int) < ((ns.length:Nat):Int):=()
  first
   | (rw[decide_eq_true q'] at h5;exact absurd h5 ∅)
   | (simp at h5;omega)
 cases ab with
 | cons w1 w2 =>
  cases w2;cases w1 with
  | list ho Y=>exact⟨_,_,ns,rfl,rfl,ho,pC ns _ Y,L⟩
theorem Ag (l:OpenLaw) (args:List WData):l.row.toRowW.claim.post args (.bool true) args=true :=
 postW_of (r:=l.row.toRowW) (X:=(true == true))
  (show WShape.has [] (.bool true) .bool=true by first | rfl | decide | simp[WShape.has,WShape.arms,WShape.armsAll])
  (show(WTm.eq .res (.lit (.bool true))).value [] { args:=args,res:=some (.bool true),after:=args }=some (.bool (true == true)) from w_eq_bool (w_res rfl) w_lit) rfl
theorem attach_call {l:OpenLaw} {q:Program} {d:DefRec}
  (hn:l.most=some n) (ad:d.params.defaults=[])
  (call : ∀(w:World) (B s₁:Shared) (mg mb:Str->Option Value) (fa:Addr) (o:Obj) (pm cd doc:Value) (a:Addr) (vs:List Value) (ns:List Int),
   Ground q loose [] XP w B mg mb s₁.heap->YP w s₁.heap ->
   s₁.heap.get? fa=some o->o.data = .func (docDef d.name d.params d.body d.scope pm cd doc)->s₁.heap.CodeRec cd d.name->mg d.name=some (.ref fa) ->
   s₁.heap.get? a=some { cls:=.type "list",data:=.seq vs.toArray }->KI vs ns->ns.length<=n->s₁.gens = #[] ->
   J8 (model l.prog w) callerA (.call (.ref fa) ⟨[.ref a],[]⟩) (λr s'=>r = .ok (.ret (.bool true))/\OldK s₁.heap s'.heap/\s'.os=s₁.os/\AllBare s'.gens) s₁) :
  WalkO q loose XP YP l.row.toRowW d [] (λf vs=>PySem.call f vs):=by
 intro w B s₁ mg mb G Y fa o pm cd doc dV kV ho hd ab hD af hg args ah as aa ag ai ac aj;obtain rfl:dV = .none:=Dflts.none hD ad
 obtain rfl:kV = .none:=Dflts.noKw hD
 obtain⟨a,vs,ns,rfl,rfl,Z,F,L⟩:=zH hn aa ac;refine enter_call (KG (call w B s₁ mg mb fa o pm cd doc a vs ns G Y ho (fd_plain hd) ab af Z F L hg) λr s' hq=>?_)
 obtain⟨rfl,h2,h3,h4⟩:=hq;exact⟨.inl ⟨.bool true,.bool true,[],rfl,λ_=>rfl,.bool true,Ag l _,λ_=>⟨List.Pairwise.nil,λ_ hm=>(nomatch hm)⟩⟩,h2,h3,h4⟩
end Att
namespace L2
open PySem PySem.Spec PyProof.Rows
theorem nN : ∀{vs:List Value} {ns:List Int},KI vs ns->bi (ns.map V.int) vs
 | _,_,.nil=>.nil
 | _,_,.cons n t h=>.cons ⟨t,rfl⟩ (nN h)
def Gw (H:Hp):Prop:=∀b,H b=none\/∃o xs,H b=some (.frz o (.lst xs))
theorem BJ {vs:List Value}
  (KX:K.In s₁.heap) (ad:s₁.heap.Ns md mg) (L:s₁.heap.Ns builtinsNs mb) (an : ∀x:Str,x ≠ "__name__" -> mb x=y7 x) (ab:s₁.heap.NoLimit) (hg:s₁.gens = #[])
  (ha:s₁.heap.get? a=some { cls:=.type "list",data:=.seq vs.toArray }) (hi:KI vs ns) (hl:ns.length<=hB) (hr:dg k callerA)
  (F : ∀base:Heap,K.In base->base.Ns md mg->ji P w K mg base CX k fa fd [x] sp) (aa : ∀(s:Shared) (u:Value),BindsTo s fd ⟨[u],[]⟩ [(x,u)])
  (aj : ∀H:Hp,Gw H->SqL K H a (ns.map V.int)->sp [.ref a] H (λv _=>v = .bl true) λ_ _ _=>False)
  (am : ∀H e s',CX [] H s₁ (λ_ _ _=>False) e s'->False) :
  J8 (model P w) callerA (.call (.ref fa) ⟨[.ref a],[]⟩) (λr s'=>r = .ok (.ret (.bool true))/\OldK s₁.heap s'.heap/\s'.os=s₁.os/\AllBare s'.gens) s₁:=by
 have rv:=nN hi;have ai:=hi.length;have Z : ∀H:Hp,Gw H->SqL K H a (ns.map V.int)->HOk P w H s₁.heap->(∀b,H b≠none->b=a)->(H a≠none->K.lookup a=none) ->
   J8 (model P w) callerA (.call (.ref fa) ⟨[.ref a],[]⟩) (λr s'=>r = .ok (.ret (.bool true))/\OldK s₁.heap s'.heap/\s'.os=s₁.os/\AllBare s'.gens) s₁:=by
  intro H hO hS ac hA hK;have B : ∀{b:Addr} {o:Obj},s₁.heap.get? b=some o->H b=none->(ub s₁.heap H).get? b=some o:=λe n=>Ca e n
  have ak : ∀{b:Addr} {o:Obj} {es:Array DictEntry} {ep:Nat},s₁.heap.get? b=some o->o.data = .dict es ep->H b=none:=λ{b o es ep} e d=>by
   cases q:H b with
   | none=>rfl
   | some u =>
    have e':b=a:=hA b (by rw[q];simp)
    subst e';rw[ha] at e;cases e;have d':Data.seq vs.toArray _=Data.dict es ep:=d
    cases d'
  have Y : ∀{b:Addr} {m:Str->Option Value},s₁.heap.Ns b m->(ub s₁.heap H).Ns b m:=λ{b m} zq8=>by obtain⟨o,es,ep,e,d,r⟩:=zq8;exact(⟨o,es,ep,B e (ak e d),d,r⟩)
  have ah:K.In (ub s₁.heap H):=λb o e=>B (KX b o e) (by
   cases q:H b with
   | none=>rfl
   | some u =>
    have e':b=a:=hA b (by rw[q];simp)
    subst e';rw[hK (by rw[q];simp)] at e;cases e)
  have hM:Mod K mg (ub s₁.heap H):=⟨ah,Y ad,⟨mb,Y L,an⟩,let ⟨mc,h1,h2⟩:=ab;⟨mc,Y h1,h2⟩⟩
  have e0:yh P w K mg (ub s₁.heap H) callerA [] s₁ H:=⟨rfl,hM,λb o e=>Eh e,Jz (As _ _),trivial,λb L=>absurd (show b∈([]:List Addr) from L) (by simp),ac,.of_eq hg⟩
  refine KG ((F _ ah (Y ad)).run callerA [] s₁ H ⟨[.ref a],[]⟩ [.ref a] [.ref a] _ _ hr e0 (aa s₁ (.ref a)) (.cons rfl .nil) (aj H hO hS)) λr s' h=>?_
  cases r with
  | error e=>exact(am H e s' h).elim
  | ok fl =>
   cases fl with
   | next=>exact G1 h
   | brk=>exact G1 h
   | cont=>exact G1 h
   | ret u =>
    obtain⟨v,H',os,ag,un,af,r',q⟩:=h;have q':v = .bl true:=q
    subst q';obtain rfl:u=JO true:=r'
    refine⟨rfl,OldK.of_keep λb o e=>?_,os,ag⟩
    cases q:H b with
    | none=>exact un.keep b o e q (by intro z;exact absurd (show b∈([]:List Addr) from z) (by simp)) (by simp)
    | some u =>
     rcases hO b with z | ⟨ob,xs,z⟩
     .rw[q] at z;cases z
     .have z2:=un.frzs b ob _ z
      obtain⟨e1,_⟩:=ac b _ z;obtain⟨e2,_⟩:=af b _ z2;rw[e] at e1;cases e1;exact e2
 cases hk:K.lookup a with
 | some o =>
  have e:=KX a o hk;rw[ha] at e;cases e;refine Z (λ_=>none) (λ_=>.inl rfl) (.inr ⟨_,vs.toArray,_,hk,rfl,rfl,rfl,by rw[j_,ai];exact hl,by simpa using rv⟩) (λb u z=>by have z':(none:Option HO)=some u:=z;cases z') (λb z=>absurd rfl z) λz=>absurd rfl z
 | none =>
  refine Z (λb=>if b=a then some (.frz { cls:=.type "list",data:=.seq vs.toArray } (.lst (ns.map V.int))) else none) (λb=>?_) (.inl (.inr ⟨{ cls:=.type "list",data:=.seq vs.toArray },if_pos rfl⟩)) (λb u z=>?_) (λb z=>?_) λ_=>hk
  .by_cases L:b=a
   .exact .inr ⟨_,_,if_pos L⟩
   .exact .inl (if_neg L)
  .by_cases L:b=a
   .have z':=(if_pos L).symm.trans z
    cases z';subst L;exact⟨ha,by rw[d_];exact hl,vs,_,rv,ha⟩
   .have z':=(if_neg L).symm.trans z
    cases z'
  .by_cases L:b=a
   .exact L
   .exact absurd (if_neg L) z
theorem C2 {l:PySem.W.OpenLaw} {q:Program} {d:DefRec} {K:Params->fy} {CX:World->CXT} {sp:World->Sp}
  (hn:l.most=some n) (ac:n<=hB) (ad:d.params.defaults=[]) (hr:dg k callerA)
  (hY : ∀(w:World) (h:Heap),YP w h->(K w.params).In h)
  (F : ∀(w:World) (mg:Str->Option Value) (fa:Addr) (h:Heap),(K w.params).In h->h.Ns md mg->mg d.name=some (.ref fa) ->
   ∃ fd:FuncData,(∀(s:Shared) (u:Value),BindsTo s fd ⟨[u],[]⟩ [(x,u)]) /\
    ∀base:Heap,(K w.params).In base->base.Ns md mg->ji l.prog w (K w.params) mg base (CX w) k fa fd [x] (sp w))
  (aa : ∀(w:World) (H:Hp) (a:Addr) (ns:List Int),ns.length<=n->Gw H->SqL (K w.params) H a (ns.map V.int)->sp w [.ref a] H (λv _=>v = .bl true) λ_ _ _=>False)
  (ab : ∀(w:World) (H:Hp) (s:Shared) (e:Value) (s':Shared),CX w [] H s (λ_ _ _=>False) e s'->False) :
  PySem.W.WalkO q loose XP YP l.row.toRowW d [] (λf vs=>PySem.call f vs):=by
 refine Att.attach_call hn ad λw ag s₁ mg mb fa o pm cd doc a vs ns G Y ho hd ah af Z L B hg=>?_
 have KX:=hY w _ Y;obtain⟨fd,hb,hF⟩:=F w mg fa _ KX G.T.g af;exact BJ KX G.T.g G.T.b G.T.builtins G.T.nolimit hg Z L (i8 B ac) hr hF hb (λH hO hS=>aa w H a ns B hO hS) λH e s'=>ab w H s₁ e s'
def aT (s:Stmt) (j:Nat):Stmt:=match s with
 | .ClassDef _ _ _ body _ _ _ _ _ _ _=>body.getD j (.Pass ⟨0,0,0,0⟩)
 | _=>.Pass ⟨0,0,0,0⟩
def cZ (s:Stmt):Arguments:=match s with
 | .FunctionDef _ a _ _ _ _ _ _ _ _=>a
 | _=>{ posonlyargs:=[],args:=[],vararg:=none,kwonlyargs:=[],kw_defaults:=[],kwarg:=none,defaults:=[] }
def cB (s:Stmt):List Stmt:=match s with
 | .FunctionDef _ _ b _ _ _ _ _ _ _=>b
 | _=>[]
def aj (s:Stmt):Scope:=match s with
 | .FunctionDef _ _ _ _ _ _ sc _ _ _=>sc
 | _=>{ kind:=.function,names:=[],isGenerator:=false,isCoroutine:=false }
abbrev CX0:CXT:=λ_ _ _ _ _ _=>False
abbrev E0:XK:=λ_ _ _=>False
theorem pb:uQ CX0 X E0:=λ_ _ _ _ _ _ _ h=>h.elim
structure Fun (K:fy) (x qual:Str) (st:Stmt) (f:Addr) (fd:FuncData):Prop where
 ex : ∃(oc:Value) (od:Option Addr) (kV doc pm:Value) (an:Option Addr) (cdv ct:Value) (osl:Array (Option Value)),
  fd=fnOf x qual (cZ st) (cB st) (aj st) .none kV doc pm an cdv ct/\K.lookup f=some ⟨oc,od,.func fd,osl⟩/\codeIn K cdv qual=true
 kp:JM K (.ref f)=true
section
variable {P:Program} {w:World} {K:fy} {mg:Str->Option Value} {base:Heap}
theorem Fun.ok (F:Fun K x qual st f fd) (S:ay N ps (aj st)) (Z : ∀vs H Q E,sp vs H Q E->vs.length=ps.length)
  (B : ∀(cdv:Value) (A:Around) (outer:List Env) (s:Shared) (H:Hp) (vs:List V) (Q:VK) (E:XK),dg k (A.deeper (envOfC qual (aj st) s.heap.objs.size f cdv))->sp vs H Q E ->
   ∃t,PSs (tM CX0 P w K mg base N qual (aj st) f cdv A outer s H E).nox (cB st) t/\t { nx:=λ_ H'=>Q .non H',rt:=Q } (jl N vs) H):ji P w K mg base CX0 (k+1) f fd ps sp:=by
 obtain⟨oc,od,kV,doc,pm,an,cdv,ct,osl,rfl,lk,Y⟩:=F.ex;refine Hm lk Y S Z λA outer s H vs Q E hr L=>?_
 obtain⟨t,h,q⟩:=B cdv A outer s H vs Q E hr L;exact⟨t,h.nox,q⟩
theorem Fun.binds (F:Fun K x qual st f fd)
  (h : ∀(kV doc pm:Value) (B:Option Addr) (cdv ct:Value) (us:List Value),us.length=ps.length->bindArgs (fnOf x qual (cZ st) (cB st) (aj st) .none kV doc pm B cdv ct) ⟨us,[]⟩=pure (ps.zip us)):jD K fd ps []:=by
 obtain⟨oc,od,kV,doc,pm,B,cdv,ct,osl,rfl,Y,L⟩:=F.ex;exact .all (h kV doc pm B cdv ct)
theorem qj {B:Option Addr} {kV:Value} (l:K.lookup f=some ⟨oc,od,.func (fnOf x qual (cZ st) (cB st) (aj st) .none kV doc pm B cdv ct),osl⟩)
  (c:codeIn K cdv qual=true) (k:JM K (.ref f)=true):Fun K x qual st f (fnOf x qual (cZ st) (cB st) (aj st) .none kV doc pm B cdv ct):=⟨⟨oc,od,kV,doc,pm,B,cdv,ct,osl,rfl,l,c⟩,k⟩
end
theorem Eu (B:dg k A):A.units+1 < cLine:=rb (Nat.add_le_add_left (by decide:1<=64) _) B.units
theorem aK (h:n<=1000):n < hB:=rb h ∅
theorem ft {c A B:Prop} [Decidable c] (h1:c->A) (h2 : ¬ c->B):if c then A else B:=by
 by_cases h:c
 .rw[if_pos h]
  exact h1 h
 .rw[if_neg h]
  exact h2 h
def au (H H':Hp):Prop:=∀b o,H b=some o->H' b=some o
theorem au.refl (H:Hp):au H H:=λ_ _ h=>h
theorem au.trans (a:au H H1) (b:au H1 H2):au H H2:=λc o h=>b c o (a c o h)
theorem au.free (e:au H H') {l:Addr} (h:H' l=Option.none):H l=Option.none:=by
 cases q:H l with
 | none=>rfl
 | some o =>
  rw[e l o q] at h;cases h
theorem au.seq (e:au H H') (h:SqL K H a xs):SqL K H' a xs:=by
 rcases h with(h | ⟨o,h⟩) | h
 .exact .inl (.inl (e _ _ h))
 .exact .inl (.inr ⟨o,e _ _ h⟩)
 .exact .inr h
theorem zI:bK X (.builtin "len") (λxs H Q=>∃a kvs,xs=[V.ref a]/\H a<*kvs/\Q (.int kvs.length) H):=by
 intro pins s σ H xs us Q I r h;obtain⟨a,kvs,rfl,ha,q⟩:=h;obtain⟨u,rfl,B⟩:=dD r;cases B;exact HF I (.inl ha) λt s' F=>⟨.int kvs.length,H,F,⟨t,rfl⟩,q⟩
theorem ud {B:Expr} {it ac:Value} (I:Nat->Shared->Prop)
  (ah : ∀ n s,I n s->wpAny (model prog w) A (JP it) (λr s₁=>match r with
   | none=>R (.ok .next) s₁
   | some v=>wpAny (model prog w) A (letOwnedTupleGo B it v) (λ_ s₁=>wpAny (model prog w) A (assign B env v) (λ_ ab =>
     wpAny (model prog w) A (forIn ifs true λc r=>if r=true then do let ok <- isTrue c env (eval c env);pure (JR ok) else pure (JR r)) (λok L =>
      if ok=true then wpAny (model prog w) A (eval elt env) (λx aa =>
       wpAny (model prog w) A (call (.builtin "list.append") [ac,x]) (λ_ Z=>∃m,m < n/\I m Z) (notedBy (model prog w) A env λe s'=>R (.error e) s') aa) (notedBy (model prog w) A env λe s'=>R (.error e) s') L
      else ∃m,m < n/\I m L) (notedBy (model prog w) A env λe s'=>R (.error e) s') ab) (notedBy (model prog w) A env λe s'=>R (.error e) s') s₁) (notedBy (model prog w) A env λe s'=>R (.error e) s') s₁) (notedBy (model prog w) A env λe s'=>R (.error e) s') s)
  (n:Nat) (h:I n s) :
  J8 (model prog w) A (.compLoop (.ListComp elt [⟨B,iter,ifs,0⟩] scope pos) 0 it ac env) R s:=by
 refine codeAny_loop rfl I (λn s hI=>?_) n h
 show wpAny _ A ((compTurn (.ListComp elt [⟨B,iter,ifs,0⟩] scope pos) 0 it ac env).onRaise (λx=>do noteFrame x env;theTreesLotGoes x)) _ _ s
 refine wpAny_noted ?_
 rw[compTurn_list];refine a_ (wpAny_standAt (a_ (Gt (ah n s hI) (λr s₁ F=>?_) λ_ _ h'=>h')))
 cases r with
 | none=>exact e_ F
 | some v =>
  refine a_ (Gt F (λ_ s₁ F=>?_) λ_ _ h'=>h')
  refine a_ (Gt F (λ_ ab af=>a_ (Gt af (λok L Y=>?_) λ_ _ h'=>h')) λ_ _ h'=>h')
  cases ok with
  | false=>exact e_ ⟨rfl,Y⟩
  | true =>
   exact a_ (a_ (Gt Y (λx aa ad=>a_ (Gt ad (λ_ Z ag=>e_ (e_ ⟨rfl,ag⟩)) λ_ _ h'=>h')) λ_ _ h'=>h'))
def PTs (X:Cx) (ifs:List Expr) (t:TT):Prop :=
 ∀ (pins:List (Addr × Obj)) (s:Shared) (σ:St) (H:Hp) (Q:Bool->Hp->Prop),Inv X pins σ H s->t σ H Q ->
  wpAny (model X.prog X.w) X.A (forIn ifs true λc r=>if r=true then do let ok <- isTrue c X.env (eval c X.env);pure (JR ok) else pure (JR r)) (TP X pins σ Q) X.xe s
def wD:TT:=λ_ H Q=>Q true H
theorem bx:PTs X [] wD:=λ_ _ _ H _ I h=>wpAny_tests_nil ⟨H,I,h⟩
theorem fH {c:Expr} {t:TT} (B:PT X c t):PTs X [c] t:=λpins s σ H Q I h=>wpAny_tests_one (B pins s σ H Q I h)
theorem lh {env:Env} : ∀(names:List (Str × y9)) (B:List (Str × Addr)),(∀x∈names,x.2 = .free->∃c,env.cells.lookup x.1=some c) ->
  ∃ cl,(forIn (m:=Sem) names B λx r=>match x with
   | (name,kind)=>if (kind == t9)=true then do let c <- cellOf env name;pure (JR ((name,c) :: r)) else pure (JR r))=pure cl /\
   (∀x c,cl.lookup x=some c->B.lookup x=some c\/env.cells.lookup x=some c)/\(∀x,(B.lookup x).isSome=true->(cl.lookup x).isSome=true)/\(∀x,(x,t9)∈names->(cl.lookup x).isSome=true)
 | [],B,_=>⟨B,rfl,λx c h=>.inl h,λx h=>h,λx h=>nomatch h⟩
 | (n, k) :: r,B,h=>by
  by_cases L:k = .free
  .subst L
   obtain⟨c,Z⟩:=h (n,.free) m8 rfl;obtain⟨cl,e,h1,h2,Y⟩:=lh r ((n,c) :: B) (λx F=>h x (k6 _ F))
   refine⟨cl,?_,λx d hd=>?_,λx F=>h2 x ?_,λx F=>?_⟩
   .simp only[JJ,beq_self_eq_true,if_true,cellOf,Z]
    exact e
   .rcases h1 x d hd with q | q
    .simp only[wh] at q
     split at q
     .rename_i hb
      have:x=n:=by simpa using hb
      subst this;cases q;exact .inr Z
     .exact .inl q
    .exact .inr q
   .simp only[wh]
    split
    .rfl
    .exact F
   .rcases i7.mp F with q | q
    .cases q
     exact h2 n (by simp)
    .exact Y x q
  .obtain⟨cl,e,h1,h2,Y⟩:=lh r B (λx F=>h x (k6 _ F))
   refine⟨cl,?_,h1,h2,λx F=>?_⟩
   .have:(k == t9)=false:=by simpa using L
    simp only[JJ,this,h9,if_false];exact e
   .rcases i7.mp F with q | q
    .cases q
     exact absurd rfl L
    .exact Y x q
def fO (nt:Nat) (js:List Nat) (σ:St):St:=List.replicate nt none++js.map λj=>(σ[j]?).join
def Wk (σ0 B:St):Prop:=σ0.length=B.length/\∀(i:Nat) v,σ0[i]? = some (some v)->B[i]? = some (some v)
def BO (g:TG) (nt:Nat):Prop:=∀(x:V) (σ0:St) (H:Hp) (Q:St->Hp->Prop),(∀i,i < nt->σ0[i]? = some none)->g x σ0 H Q->g x σ0 H λB H2=>Wk σ0 B/\Q B H2
theorem Wk.set {σ0:St} {i:Nat} {v:V} (h:σ0[i]? = some none):Wk σ0 (σ0.set i (some v)):=by
 refine⟨by simp,λj w e=>?_⟩
 by_cases B:j=i
 .subst B;rw[h] at e;cases e
 .rw[Kl (k_ B)];exact e
theorem Wk.trans {a b c:St} (h:Wk a b) (h':Wk b c):Wk a c:=⟨h.1.trans h'.1,λi v e=>h'.2 i v (h.2 i v e)⟩
theorem aP (hi:i < nt:=by decide):BO (gi i) nt:=λx σ0 H Q h q=>⟨Wk.set (h i hi),q⟩
theorem ql : ∀i,i < nt->(fO nt js σ)[i]? = some none:=λi hi=>by
 unfold fO;rw[tj (by simpa using hi)]
 simp[hi]
def ym (nt:Nat) (js:List Nat) (wi:TI) (g:TG) (tc:TT) (te:TE):TE:=λσ H Q=>wi σ H λJ H1=>∀D,H1 D=none->∃W:Nat->Nat->List V->Hp->Prop,(∃m,W 0 m [] (upd H1 D (.lst []))) /\
 ∀ i m ys H2,W i m ys H2->(J.stop i H2/\Q (.ref D) H2)\/(J.go i H2/\∃N:List V->Hp->Prop,(∀B H',N B H'->∃Z,Z < m/\W (i+1) Z B H') /\
  ∀x H',J.yld i H2 x H'->g x (fO nt js σ) H' λF H3=>tc F H3 λb L=>if b=true then te F L λy Y=>Y D*>ys/\ys.length < hB/\N (ys++[y]) (upd Y D (.lst (ys++[y]))) else N ys L)
theorem gh {env:Env} : ∀{names:List (Str × y9)} {x:Str},names.lookup x=some .free ->
  ((names.map λ(n,k)=>if (k == t9 && env.scope.kind == .function && env.kindOf n == some .cell) then(n,w_) else(n,k)).lookup x=some .cell\/(names.map λ(n,k)=>if (k == t9 && env.scope.kind == .function && env.kindOf n == some .cell) then(n,w_) else(n,k)).lookup x=some .free)
 | [],_,h=>by simp at h
 | (n,k) :: r,x,h=>by
  have F:=@gh env r x;simp only[i_];cases B:x == n with
  | true =>
   simp only[wh,B] at h;cases h
   by_cases q:(t9 == t9 && env.scope.kind == .function && env.kindOf n == some .cell)=true
   .rw[if_pos q];simp only[wh,B];simp
   .rw[if_neg q];simp only[wh,B];simp
  | false =>
   simp only[wh,B] at h
   by_cases q:(k == t9 && env.scope.kind == .function && env.kindOf n == some .cell)=true
   .rw[if_pos q];simp only[wh,B];exact F h
   .rw[if_neg q];simp only[wh,B];exact F h
theorem Inv.wk {Y:Cx} {B:St} (I:Inv Y pins B H s) (h:Wk σ0 B):Inv Y pins σ0 H s:=I.weak h.1 h.2
end L2
namespace PySem
theorem zQ:Ko (.type "list_reverseiterator") "__len__" = pure none:=by rw[C_,v_];kernel_rfl
theorem B0:Ko (.type "list_reverseiterator") "__length_hint__" = pure (some (.builtin "list_reverseiterator.__length_hint__")):=by rw[C_,v_];kernel_rfl
theorem xf (hh:A.handled=none) (S:Addr) (res:Value) (ac:Nat) (hS:s.heap.get? S=some { cls:=.type "list",data:=.seq #[] ac })
  {I l:Addr} {items:Array Value} (hi:s.heap.IsRevIter I l ((items.size:Int) - 1)) (hl:s.heap.IsList l items) (ai:l≠I) (ab:S≠I) (ak:S≠l)
  (hR : ∀h' tk B Z,(∀b o,b≠S->b≠I->s.heap.get? b=some o->h'.get? b=some o)->h'.get? S=some { cls:=.type "list",dict:=none,data:=.seq B Z,slots := #[] } ->
   ItemsOf (λi v=>items[items.size - 1 - i]? = some v) B items.size->R (.ok (.ret res)) { s with heap:=h',toks:=tk }) (hn:items.size<=hB) :
  wpAny (model prog w) A.in1 (p8 (.ref S) (.ref I) res)
   (λam s'=>match am with | .done f=>R (.ok f) s' | .again Z=>Z.quiet=true/\J8 (model prog w) A Z R s') (λe s'=>R (.error e) s') s:=by
 have W:=(Walks.listRev (prog:=prog) (w:=w) (A:=A.in1) hh I l ai items);have ah:S∉[I,l]:=λhm=>by
  rcases i7.mp hm with e | e
  .exact ab e
  .exact ak (gr.mp e)
 have ad:0<=items.size/\s.heap.IsRevIter I l ((items.size:Int) - 1 - ((0:Nat):Int))/\s.heap.IsList l items:=⟨y6 _,by simpa using hi,hl⟩
 unfold p8;refine a_ (J_ hi.typeIs ?_)
 have h1:JA (.ref S) (.ref I)=false:=by simp[JA,ab]
 have h2:(y2 "list_reverseiterator" == y2 "list")=false:=∅
 have h3:(y2 "list_reverseiterator" == y2 "tuple")=false:=∅
 simp only[h1,h2,h3,Bool.or_false,h9,if_false];refine a_ (W.self 0 _ _ _ ad ?_)
 refine a_ (u7 ?_)
 unfold Builtin.List.listLengthHint;refine a_ (y4 hi.typeIs zQ ?_)
 show wpAny _ A.in1 (specialOf (j6 I) (b_ "__length_hint__") >>= _) _ _ _
 refine a_ (y4 hi.typeIs B0 ?_)
 (generalize Y:("list_reverseiterator.__length_hint__" : String)=aa;(fail_if_success (clear Y aa));wp_delta;rw[show splitId aa=some ("list_reverseiterator","__length_hint__") from by subst Y;decide+kernel];subst Y)
 refine a_ (JB (b:=true) hi.typeIs (by rw[Kb];kernel_rfl) ?_)
 refine e_ ?_
 rw[if_neg ∅]
 refine e_ ⟨plainId_quiet JF _,codeAny_extend_loopS W.toS hn _ ah _ items.size 0 _ _ _ rfl (y6 _) ad hS (ItemsOf.nil _) λs' B Z hm aj af=>?_⟩
 rw[Moved.eq_with hm];refine hR s'.heap s'.toks B Z (λb ob hb ag e=>hm.heap b ob (λL=>?_) e) aj af
 rcases i7.mp L with e' | L
 .exact hb e'
 .exact ag (gr.mp L)
theorem rC (hh:A.handled=none) (S:Addr) (hS:s.heap.get? S=some { cls:=.type "list",data:=.seq #[] })
  {I l:Addr} {items:Array Value} (hi:s.heap.IsRevIter I l ((items.size:Int) - 1)) (hl:s.heap.IsList l items) (af:l≠I) (Z:S≠I) (ab:S≠l)
  (hR : ∀h' tk B Y,(∀b o,b≠S->b≠I->s.heap.get? b=some o->h'.get? b=some o)->h'.get? S=some { cls:=.type "list",dict:=none,data:=.seq B Y,slots := #[] } ->
   ItemsOf (λi v=>items[items.size - 1 - i]? = some v) B items.size->R (.ok (.ret .none)) { s with heap:=h',toks:=tk }) (hn:items.size<=hB) :
  wpAny (model prog w) A.in1 (Builtin.«list.__init__» ⟨[.ref S,.ref I],[]⟩)
   (λah s'=>match ah with | .done f=>R (.ok f) s' | .again Y=>Y.quiet=true/\J8 (model prog w) A Y R s') (λe s'=>R (.error e) s') s:=by
 show wpAny _ _ (do let ad <- JT (.ref S);Builtin.List.listUpdate (.ref S) (λ_ => #[]);letGo ad.toList.reverse;p8 (.ref S) (.ref I) .none) _ _ s
 refine a_ ?_
 unfold JT;refine a_ (x0 hS rfl (e_ ?_))
 show wpAny _ _ (updateSeq S (λ_ => #[]) >>= λ_=>letGo (#[]:Array Value).toList.reverse >>= λ_=>p8 (.ref S) (.ref I) .none) _ _ s
 refine a_ (KA hS rfl ?_)
 have L:=G3 (x6 (λ_=>(#[]:Array Value))) hS rfl
 have F : ∀b o,b≠S->s.heap.get? b=some o->(s.heap.update S (x6 (λ_=>(#[]:Array Value)))).get? b=some o :=
  λb o hb e=>(D_ _ _ (k_ hb)).trans e
 refine a_ (wpAny_letGo ?_)
 refine xf (s:={ s with heap:=s.heap.update S (x6 (λ_=>(#[]:Array Value))) }) hh S .none _ L (hi.at λo e=>F _ o (k_ Z) e) (hl.at λo e=>F _ o (k_ ab) e) af Z ab (λh' tk B Y hk ag aa=>?_) hn
 exact hR h' tk B Y (λb o hb ac e=>hk b o hb ac (F b o hb e)) ag aa
theorem rh (hh:A.handled=none) {I l:Addr} {items:Array Value} (hi:s.heap.IsRevIter I l ((items.size:Int) - 1)) (hl:s.heap.IsList l items) (ab:l≠I)
  (hQ : ∀h' tk B c',(∀b o,b≠I->s.heap.get? b=some o->h'.get? b=some o) ->
   h'.get? s.heap.objs.size=some { cls:=.type "list",dict:=none,data:=.seq B c',slots := #[] }->ItemsOf (λi v=>items[items.size - 1 - i]? = some v) B items.size->Q (.ref s.heap.objs.size) { s with heap:=h',toks:=tk }) (hn:items.size<=hB) :
  wpAny (model prog w) A (call (.type "list") [.ref I]) Q E s:=by
 refine callType_codes (Q₁:=λobj s₁=>obj = .ref s.heap.objs.size/\s₁={ s with heap:=s.heap.push { cls:=.type "list",data:=.seq #[] } }) F.called_list (F.typeCall_list_1 _) F.entry_list_init
  (code_list_new _ ⟨rfl,rfl⟩) λobj s₁ Y=>?_
 obtain⟨rfl,rfl⟩:=Y;have hS:(s.heap.push { cls:=.type "list",data:=.seq #[] }).get? s.heap.objs.size=some { cls:=.type "list",data:=.seq #[] }:=gt _ rfl
 have up : ∀b o,s.heap.get? b=some o->(s.heap.push { cls:=.type "list",data:=.seq #[] }).get? b=some o:=λb o e=>c_ _ e
 obtain⟨oi,aa,_⟩:=id hi;obtain⟨ol,Z,_⟩:=id hl;refine⟨⟨_,hS,rfl⟩,F.args_list_init_2 _ _,rC (s:={ s with heap:=s.heap.push { cls:=.type "list",data:=.seq #[] } }) (A:=A.in1) hh _ hS (hi.at λo e=>up _ o e) (hl.at λo e=>up _ o e) ab (sn (f_ aa)) (sn (f_ Z)) (λh' tk B c' hk ac L=>?_) hn⟩
 exact⟨rfl,hQ h' tk B c' (λb o hb e=>hk b o (mu (f_ e)) hb (up b o e)) ac L⟩
end PySem
namespace L2
open PySem PySem.Spec PyProof.Rows
mutual
inductive Rep (K:fy) (H:Hp):V->KJ->Prop
 | non:Rep K H .non .none
 | bl (b:Bool):Rep K H (.bl b) (.bool b)
 | int (i:Int):Rep K H (.int i) (.int i)
 | str (x:Str):Rep K H (.str x) (.str x)
 | tup {a:Addr} {vs:List V} {ds:List KJ}:SqT K H a vs->gT K H vs ds->Rep K H (.ref a) (.tuple ds)
 | lst {a:Addr} {vs:List V} {ds:List KJ}:SqL K H a vs->gT K H vs ds->Rep K H (.ref a) (.list ds)
inductive gT (K:fy) (H:Hp):List V->List KJ->Prop
 | nil:gT K H [] []
 | cons {v:V} {vs:List V} {d:KJ} {ds:List KJ}:Rep K H v d->gT K H vs ds->gT K H (v :: vs) (d :: ds)
end
theorem au.seqT (e:au H H') (h:SqT K H a xs):SqT K H' a xs:=by
 rcases h with(h | ⟨o,h⟩) | h
 .exact .inl (.inl (e _ _ h))
 .exact .inl (.inr ⟨o,e _ _ h⟩)
 .exact .inr h
theorem gT.ints {K:fy} {H:Hp} : ∀(ns:List Int),gT K H (ns.map V.int) (ns.map G2)
 | []=>.nil
 | _ :: ns=>.cons (.int _) (gT.ints ns)
theorem gT.strs {K:fy} {H:Hp} : ∀(ns:List Str),gT K H (ns.map V.str) (ns.map PyData.str)
 | []=>.nil
 | _ :: ns=>.cons (.str _) (gT.strs ns)
mutual
theorem Inv.reads (I:Inv X pins σ H s) : ∀{v:V} {d:KJ} {u:Value},Rep X.K H v d->bg v u->∃as,Reads s.heap u d as
 | _,_,_,.non,r=>by cases r;exact⟨_,.none⟩
 | _,_,_,.bl b,r=>by cases r;exact⟨_,.bool b⟩
 | _,_,_,.int b,r=>by obtain⟨t,rfl⟩:=r;exact⟨_,.int b t⟩
 | _,_,_,.str b,r=>by obtain⟨t,rfl⟩:=r;exact⟨_,.str b t⟩
 | _,_,_,.tup h q,r=>by
  cases r;obtain⟨its,B,⟨o,L,Y,n,F⟩,_⟩:=I.tuple h;obtain⟨as,ra⟩:=Inv.readsAll I q B;exact⟨_,.tuple L Y F (by simpa using ra)⟩
 | _,_,_,.lst h q,r=>by
  cases r;obtain⟨its,B,⟨o,n,L,Y,_,F⟩,_⟩:=I.list h;obtain⟨as,ra⟩:=Inv.readsAll I q B;exact⟨_,.list L Y F (by simpa using ra)⟩
theorem Inv.readsAll (I:Inv X pins σ H s) : ∀{v:List V} {d:List KJ} {u:List Value},gT X.K H v d->bi v u->∃as,ReadsAll s.heap u d as
 | _,_,_,.nil,r=>by cases r;exact⟨_,.nil⟩
 | _,_,_,.cons h q,r=>by
  cases r with
  | cons F L =>
   obtain⟨as,ra⟩:=Inv.reads I h F;obtain⟨bs,B⟩:=Inv.readsAll I q L;exact⟨_,.cons ra B⟩
end
section
variable {a b c:Expr} {tb tc:TE}
def Gm (K:fy):R2:=λx y H Q=>∃dx B,Rep K H x dx/\Rep K H y B/\dx.canLay0=true/\B.canLay0=true/\dx.depth<=100/\Q (.bl (z_ dx B)) H
theorem pR (hu:X.A.units+100 < cLine):OpR X (t3 .Eq) (Gm X.K):=by
 intro pins s σ H x y v u Q I F Z h;obtain⟨dx,dy,h1,h2,L,B,h5,q⟩:=h;obtain⟨as,r1⟩:=I.reads h1 F;obtain⟨bs,Y⟩:=I.reads h2 Z;exact PySem.SeqAt.compareEq_reads r1 Y L B () ⟨.bl _,H,I,rfl,q⟩
def Im (K:fy):List V->Hp->VK->Prop:=λxs H Q=>∃x t T k,xs=[x,.ty T]/\mP K H x t/\JN K t (.type T)=some k/\Q (.bl k) H
theorem A0:bK X (.builtin "isinstance") (Im X.K):=by
 intro pins s σ H xs us Q I r h;obtain⟨x,t,T,k,rfl,ty,e,q⟩:=h;obtain⟨u,L,rfl,F,B⟩:=sY r;cases B;exact oA I F ty e λtk=>⟨.bl k,H,I.tok tk,rfl,q⟩
theorem GM {T:String} (Z:Gl X x) (L:X.mg x=none) (Y:y7 x=some (.type T)) (F:x ≠ "__name__" := by decide) (B:(x ==("__debug__" : Str))=false:=by decide):PE X (.Name x pos) (tC (.ty T)) :=
 DT Z L Y rfl F B
theorem jA {its:Array Value} {bs:List Bool} (h:bi (bs.map V.bl) its.toList):TruthOf prog w A (λi v=>its[i]? = some v) (λi=>bs.getD i true):=by
 intro i v s Q E Z F;have h1:its.toList[i]? = some v:=by simpa using Z
 have B:i < its.toList.length:=(g_.mp h1).1
 have hl:=h.length;have L:i < bs.length:=by rw[<- hl] at B;simpa using B
 obtain⟨u,hu,Y⟩:=h.get (i:=i) (x:=V.bl bs[i]) (by simp[L])
 rw[h1] at hu;cases hu;cases Y;refine B_ ?_
 have e:bs.getD i true=bs[i]:=by simp[List.getD,L]
 show Q bs[i] s
 have F:Q (bs.getD i true) s:=F
 rw[e] at F;exact F
theorem zw (bs:List Bool):(range bs.length).all (λi=>bs.getD i true)=bs.all id:=by
 rw[n9];simp only[y_,Kf]
 constructor
 .intro h b hb
  obtain⟨i,hi,e⟩:=v9 hb;have:=h i hi
  simp[List.getD,hi,e] at this
  simpa using this
 .intro h i hi
  have:=h bs[i] (JC hi)
  simpa [List.getD,hi] using this
theorem Ao (bs:List Bool):(range bs.length).any (λi=>bs.getD i true)=bs.any id:=by
 rw[n9];simp only[x_,Kf]
 constructor
 .rintro⟨i,hi,e⟩
  refine⟨bs[i],JC hi,?_⟩
  simpa [List.getD,hi] using e
 .rintro⟨b,hb,e⟩
  obtain⟨i,hi,B⟩:=v9 hb;refine⟨i,hi,?_⟩
  simp only[List.getD,o9 hi,Option.getD_some,B];exact e
def EH (K:fy):List V->Hp->VK->Prop:=λxs H Q=>∃(p:Addr) (bs:List Bool),xs=[.ref p]/\SqL K H p (bs.map V.bl)/\Q (.bl (bs.all id)) H
def F6 (K:fy):List V->Hp->VK->Prop:=λxs H Q=>∃(p:Addr) (bs:List Bool),xs=[.ref p]/\SqL K H p (bs.map V.bl)/\Q (.bl (bs.any id)) H
theorem xg (hc:X.calm=true):bK X (.builtin "all") (EH X.K):=by
 intro pins s σ H xs us Q I r h;obtain⟨p,bs,rfl,Z,q⟩:=h;obtain⟨u,rfl,Y⟩:=dD r;cases Y;obtain⟨its,F,pl,hz⟩:=I.list Z;refine call_all_walk (J0 pl.isList ?_)
 have B:p≠s.heap.objs.size:=by
  obtain⟨o,n,ho,_⟩:=pl;exact mu (f_ ho)
 refine⟨_,_,_,_,_,_,λi=>bs.getD i true,rfl,Walks.list (A:=X.A.in1) (I.ok.hd hc) _ p B its.toArray,⟨⟨_,gt _ rfl,rfl,rfl⟩,pl.isList.at λo e=>c_ _ e⟩,jA (by simpa using F),λh' tk L=>?_⟩
 have hl:its.toArray.size=bs.length:=by have:=F.length;simp at this ⊢;omega
 rw[hl,zw];exact⟨.bl (bs.all id),H,I.kept λb o e=>L b o (by simp;exact mu (f_ e)) (c_ _ e),rfl,q⟩
theorem xy (hc:X.calm=true):bK X (.builtin "any") (F6 X.K):=by
 intro pins s σ H xs us Q I r h;obtain⟨p,bs,rfl,Z,q⟩:=h;obtain⟨u,rfl,Y⟩:=dD r;cases Y;obtain⟨its,F,pl,hz⟩:=I.list Z;refine call_any_walk (J0 pl.isList ?_)
 have B:p≠s.heap.objs.size:=by
  obtain⟨o,n,ho,_⟩:=pl;exact mu (f_ ho)
 refine⟨_,_,_,_,_,_,λi=>bs.getD i true,rfl,Walks.list (A:=X.A.in1) (I.ok.hd hc) _ p B its.toArray,⟨⟨_,gt _ rfl,rfl,rfl⟩,pl.isList.at λo e=>c_ _ e⟩,jA (by simpa using F),λh' tk L=>?_⟩
 have hl:its.toArray.size=bs.length:=by have:=F.length;simp at this ⊢;omega
 rw[hl,Ao];exact⟨.bl (bs.any id),H,I.kept λb o e=>L b o (by simp;exact mu (f_ e)) (c_ _ e),rfl,q⟩
theorem oG (ns:List Int) : ∀n,n<=ns.length->preSum (λi=>ns.getD i 0) n=(ns.take n).sum
 | 0,_=>by simp[preSum]
 | n+1,h=>by
  have B:=oG ns n ()
  have e:ns[n]? = some (ns[n]'()):=by simp
  show preSum (λi=>ns.getD i 0) n+ns.getD n 0=_
  rw[B,ki,e,List.sum_append,List.getD,e];simp
theorem wz (ns:List Int):preSum (λi=>ns.getD i 0) ns.length=ns.sum:=by
 rw[oG ns _ (i6 _),m_]
def Ed (K:fy):List V->Hp->VK->Prop:=λxs H Q=>∃(p:Addr) (ns:List Int),xs=[.ref p]/\SqL K H p (ns.map V.int)/\Q (.int ns.sum) H
theorem kX (hc:X.calm=true):bK X (.builtin "sum") (Ed X.K):=by
 intro pins s σ H xs us Q I r h;obtain⟨p,ns,rfl,hq,q⟩:=h;obtain⟨u,rfl,rx⟩:=dD r;cases rx;obtain⟨its,L,pl,hz⟩:=I.list hq;refine call_sum_walkG (J0 pl.isList ?_)
 have Y:p≠s.heap.objs.size:=by
  obtain⟨o,n,Z,_⟩:=pl;exact mu (f_ Z)
 refine⟨_,_,_,_,_,_,λi=>ns.getD i 0,rfl,Walks.list (A:=X.A.in1) (I.ok.hd hc) _ p Y its.toArray,⟨⟨_,gt _ rfl,rfl,rfl⟩,pl.isList.at λo e=>c_ _ e⟩,λb F=>?_,λi v hv=>?_,λh' tk t' hk=>?_⟩
 .obtain⟨o,n,Z,_⟩:=pl
  rcases i7.mp F with e | e
  .rw[e];exact hH (G_ _) (by simp)
  .rw[gr.mp e];exact hH (f_ Z) (by simp)
 .have h1:its[i]? = some v:=by simpa using hv
  have B:i < its.length:=(g_.mp h1).1
  have hl:=L.length;have F:i < ns.length:=by rw[<- hl] at B;simpa using B
  obtain⟨u,hu,t,ru⟩:=L.get (i:=i) (x:=V.int ns[i]) (by simp[F])
  rw[h1] at hu;cases hu;exact⟨t,by rw[ru];simp[List.getD,F]⟩
 .have hl:its.toArray.size=ns.length:=by have:=L.length;simp at this ⊢;omega
  rw[hl,wz];exact⟨.int ns.sum,H,I.kept λb o e=>hk b o (by simp;exact mu (f_ e)) (c_ _ e),⟨t',rfl⟩,q⟩
def pS (t:TE):TE:=λσ H Q=>t σ H λx H1=>∃p,x = .ref p/\∃ys,H1 p*>ys/\∀l,H1 l=none->Q (.ref l) (upd H1 l (.lst ys.reverse))
end
section
variable {a b c:Expr} {tb tc:TE} {p pos2:Pos}
theorem qv (hc:X.calm=true) (hg:Gl X "list") (hm:X.mg "list" = none) (ac:Gl X "reversed") (ad:X.mg "reversed" = none) (he:PE X e te) (Y:j8 [e] X.env=[(false,eval e X.env)]:=by rfl) :
  PE X (.Call (.Name "list" p) [.Call (.Name "reversed" p2) [e] [] pos2] [] pos) (pS te):=by
 intro pins s σ H Q I h;refine x5 (gD I hg hm (by decide+kernel:y7 "list" = some (.type "list")) ?_)
 refine p7 (JQ ?_) rfl rfl
 refine x5 (gD I ac ad boot_reversed ?_)
 refine p7 (Q:=_) ?_ Y rfl
 rw[Y];refine JQ (thn (he pins s σ H _ I h) λu L ⟨x,H1,I1,r1,pp,e1,ys,hq',q⟩=>JY ?_)
 subst e1;cases r1;have hq:SqL X.K H1 pp ys:=.of hq'
 obtain⟨its,rv,pl,hz⟩:=I1.list hq;have af:=rv.length;refine call_reversed_list pl.isList ?_
 have ab:pp < L.heap.objs.size:=by
  obtain⟨o,n,ho,_⟩:=pl;exact f_ ho
 refine JY (rh (I.ok.hd hc) (I:=L.heap.objs.size) (l:=pp) (items:=its.toArray) ⟨_,gt _ rfl,rfl,rfl⟩ (pl.isList.at λo e=>c_ _ e) (mu ab) (λh' tk B c' hk hS F=>?_) (by simp only[j_];omega))
 have kp : ∀b o,L.heap.get? b=some o->h'.get? b=some o:=λb o e=>hk b o (mu (f_ e)) (c_ _ e)
 have aa:B=its.reverse.toArray:=by
  apply Array.ext_getElem?
  intro i;have Z:=F.1;simp only[j_] at Z
  by_cases hi:i < its.length
  .have h1:B[i]? = some (B[i]'()):=by simp[Z,hi]
   have h2:=F.2 i _ h1;rw[h1,<- h2];simp only[j_,Kc];rw[Ji hi]
  .simp only[Kc]
   rw[JU (),List.getElem?_eq_none (by simp;omega)]
 subst aa;have hsz:L.heap.objs.size<=(L.heap.push (revObj pp ((its.toArray.size:Int) - 1))).objs.size:=by rw[o8];exact le_succ _
 exact⟨.ref (L.heap.push (revObj pp ((its.toArray.size:Int) - 1))).objs.size,upd H1 _ (.lst ys.reverse),I1.laid (t':=tk) kp hsz ⟨by simp;omega,its.reverse,c',rv.reverse,hS⟩,rfl,q _ (I1.hok.fresh hsz)⟩
def DB:V->Option Int->Option Int->Hp->VK->Prop:=λx lo hi H Q=>∃z,x = .str z/\z.length<=hB/\Q (.str (Is z lo hi)) H
theorem xF:SlR X DB:=by
 intro pins s σ H x v vl vu lo hi sl Q I rx hs pl pu h;obtain⟨z,rfl,L,q⟩:=h;obtain⟨t,rfl⟩:=rx;refine⟨"str",_,F.slot_str_getitem.lookup,typeIs_str _ _ _,?_⟩
 have B : ∀(t':Tok) (k:Nat),EP X pins σ Q (.str (Is z lo hi) t') { s with toks:=k }:=λt' k=>⟨.str _,H,I.tok k,⟨t',rfl⟩,q⟩
 obtain⟨o,h1,h2,Y⟩:=hs;cases pl with
 | none=>cases pu with
  | none=>exact JG (l:=none) (u:=none) (st:=none) ⟨o,h1,h2,Y⟩ rfl (post_val_or_str ⟨i8 (Kd z _ _) L,λt' k=>B t' k⟩)
  | int j Z=>exact JG (l:=none) (u:=some (j,Z)) (st:=none) ⟨o,h1,h2,Y⟩ rfl (post_val_or_str ⟨i8 (Kd z _ _) L,λt' k=>B t' k⟩)
 | int i ui=>cases pu with
  | none=>exact JG (l:=some (i,ui)) (u:=none) (st:=none) ⟨o,h1,h2,Y⟩ rfl (post_val_or_str ⟨i8 (Kd z _ _) L,λt' k=>B t' k⟩)
  | int j Z=>exact JG (l:=some (i,ui)) (u:=some (j,Z)) (st:=none) ⟨o,h1,h2,Y⟩ rfl (post_val_or_str ⟨i8 (Kd z _ _) L,λt' k=>B t' k⟩)
end
def FnL (K:fy) (mg:Str->Option Value) (x:Str) (st:Stmt) (ps:List Str):Prop :=
 ∃f fd,Fun K x x st f fd/\mg x=some (.ref f)/\jD K fd ps []
def Fn (P:Program) (w:World) (K:fy) (mg:Str->Option Value) (base:Heap) (x:Str) (k:Nat) (ps:List Str) (sp:Sp):Prop :=
 ∃f fd,ji P w K mg base CX0 k f fd ps sp/\mg x=some (.ref f)/\JM K (.ref f)=true/\jD K fd ps []
section
variable {P:Program} {w:World} {K:fy} {mg:Str->Option Value} {base:Heap}
theorem FnL.ok {x:Str} {st:Stmt} {N ps:List Str} {k:Nat} {sp:Sp} (F:FnL K mg x st ps) (S:ay N ps (aj st)) (L : ∀vs H Q E,sp vs H Q E->vs.length=ps.length)
  (B : ∀(f:Addr) (cdv:Value) (A:Around) (outer:List Env) (s:Shared) (H:Hp) (vs:List V) (Q:VK) (E:XK),dg k (A.deeper (envOfC x (aj st) s.heap.objs.size f cdv))->sp vs H Q E ->
   ∃t,PSs (tM CX0 P w K mg base N x (aj st) f cdv A outer s H E).nox (cB st) t/\t { nx:=λ_ H'=>Q .non H',rt:=Q } (jl N vs) H):Fn P w K mg base x (k+1) ps sp:=by
 obtain⟨f,fd,F,m,b⟩:=F;exact⟨f,fd,F.ok S L (B f),m,F.kp,b⟩
theorem Fn.mono {x:Str} {j k:Nat} {ps:List Str} {sp:Sp} (F:Fn P w K mg base x j ps sp) (h:j<=k):Fn P w K mg base x k ps sp:=by
 obtain⟨f,fd,F,m,B,b⟩:=F;exact⟨f,fd,F.mono h,m,B,b⟩
theorem Gz {B:Option Addr} {kV:Value} (X:K.In h) (G:h.Ns md mg)
  (a:nsIn K md x=some (-f))
  (l:K.lookup f=some ⟨oc,od,.func (fnOf x x (cZ st) (cB st) (aj st) .none kV doc pm B cdv ct),osl⟩)
  (c:codeIn K cdv x=true) (k:JM K (.ref f)=true)
  (F : ∀(kV doc pm:Value) (B:Option Addr) (cdv ct:Value) (us:List Value),us.length=ps.length->bindArgs (fnOf x x (cZ st) (cB st) (aj st) .none kV doc pm B cdv ct) ⟨us,[]⟩=pure (ps.zip us)):FnL K mg x st ps :=
 ⟨f,_,qj l c k,mg_of X G a,(qj l c k).binds F⟩
end
section
variable {p:Pos} {t:TA}
theorem aw (F:Fn X.prog X.w X.K X.mg X.base x k ps sp) (ha:PA X (e :: es) t) (Y:dg k X.A:=by exact dg.mono (by assumption) (by first | decide | omega)) (hg:Gl X x:=by exact rfl) (B:(x ==("__debug__" : Str))=false:=by decide)
  (Z:j8 (e :: es) X.env=(false,eval e X.env) :: j8 es X.env:=by rfl) (L:(y8 pos (j8 es X.env)).any (·.1)=false:=by rfl) :
  PE X (.Call (.Name x p) (e :: es) [] pos) (rX sp [] E0 t):=by
 obtain⟨f,fd,F,m,kp,b⟩:=F;exact C0 F Y hg m kp b .nil pb ha B Z L
end
structure Wlk (J:It) (xs:List V) (C:Hp->Prop):Prop where
 go : ∀i H,C H->i < xs.length->J.go i H
 yld : ∀i H x H',C H->i < xs.length->J.yld i H x H'->xs[i]? = some x/\H'=H
 stop : ∀i H,C H->xs.length<=i->J.stop i H
theorem cm:Wlk (Itl K a) xs (λH=>SqL K H a xs) :=
 ⟨λi H h hi=>⟨xs,xs[i],h,by simp[hi]⟩,λi H x H' h _ y=>⟨y.2 xs h,y.1⟩,λi H h hi=>⟨xs,h,hi⟩⟩
theorem aV:Wlk (Itt K a) xs (λH=>SqT K H a xs) :=
 ⟨λi H h hi=>⟨xs,xs[i],h,by simp[hi]⟩,λi H x H' h _ y=>⟨y.2 xs h,y.1⟩,λi H h hi=>⟨xs,h,hi⟩⟩
def xJ (lo:Int) (n:Nat):List V:=(range n).map λ(i:Nat)=>V.int (lo+(i:Int))
theorem aS (lo:Int) (n:Nat):(xJ lo n).length=n:=by simp[xJ]
theorem lH (h:i < n):(xJ lo n)[i]? = some (.int (lo+i)):=by simp[xJ,h]
theorem dn:Wlk (Itr lo n) (xJ lo n) (λ_=>True) :=
 ⟨λi H _ hi=>by rw[aS] at hi;exact hi,λi H x H' _ hi y=>by
  obtain⟨e,y⟩:=y;rw[aS] at hi;rw[lH hi,y];exact⟨rfl,e⟩,λi H _ hi=>by rw[aS] at hi;exact hi⟩
theorem CV {C:Hp->Prop} (w:Wlk J xs C) {g:TG} {tb:TS} {D:pA} {σ:St} {H:Hp} (F:Nat->St->Hp->Prop) (Z:F 0 σ H) (hl : ∀i σ H,F i σ H->C H)
  (hs : ∀i x σ H,i < xs.length->xs[i]? = some x->F i σ H->g x σ H λL H2=>tb { D with nx:=F (i+1),ct:=F (i+1),bk:=D.nx } L H2) (hd : ∀ σ H,F xs.length σ H->D.nx σ H) :
  ∃ W:Nat->Nat->St->Hp->Prop,(∃m,W 0 m σ H)/\∀i m σ H,W i m σ H ->
   (J.stop i H/\D.nx σ H)\/(J.go i H/\∃N:St->Hp->Prop,(∀ σ' H',N σ' H'->∃Y,Y < m/\W (i+1) Y σ' H')/\∀x H',J.yld i H x H'->g x σ H' λL H2=>tb { D with nx:=N,ct:=N,bk:=D.nx } L H2):=by
 refine⟨λi m σ H=>m=xs.length - i/\i<=xs.length/\F i σ H,⟨xs.length,by simp,y6 _,Z⟩,?_⟩
 rintro i m σ H ⟨rfl,hi,p⟩
 have q:=hl i σ H p
 by_cases B:i < xs.length
 .refine .inr ⟨w.go i H q B,F (i+1),λσ' H' p'=>⟨xs.length - (i+1),(),rfl,B,p'⟩,λx H' y=>?_⟩
  obtain⟨e1,e2⟩:=w.yld i H x H' q B y;subst e2;exact hs i x σ _ B e1 p
 .have e:i=xs.length:=()
  subst e;exact .inl ⟨w.stop _ H q (i6 _),hd σ H p⟩
theorem Cg {C:Hp->Prop} (w:Wlk J xs C) {g:TG} {tc:TT} {te:TE} {σ0:St} {Q:VK} {H1:Hp} {D:Addr} (L:Nat->List V->Hp->Prop) (h0:L 0 [] (upd H1 D (.lst []))) (hl : ∀i ys H,L i ys H->C H)
  (hs : ∀i x ys H,i < xs.length->xs[i]? = some x->L i ys H->g x σ0 H λB H3=>tc B H3 λb Z=>if b=true then te B Z λy H5=>H5 D*>ys/\ys.length < hB/\L (i+1) (ys++[y]) (upd H5 D (.lst (ys++[y]))) else L (i+1) ys Z)
  (hd : ∀ys H,L xs.length ys H->Q (.ref D) H) :
  ∃ W : Nat->Nat->List V->Hp->Prop,(∃m,W 0 m [] (upd H1 D (.lst []))) /\
   ∀ i m ys H2,W i m ys H2->(J.stop i H2/\Q (.ref D) H2)\/(J.go i H2/\∃N:List V->Hp->Prop,(∀Y H',N Y H'->∃m',m' < m/\W (i+1) m' Y H') /\
    ∀x H',J.yld i H2 x H'->g x σ0 H' λB H3=>tc B H3 λb Z=>if b=true then te B Z λy H5=>H5 D*>ys/\ys.length < hB/\N (ys++[y]) (upd H5 D (.lst (ys++[y]))) else N ys Z):=by
 refine⟨λi m ys H=>m=xs.length - i/\i<=xs.length/\L i ys H,⟨xs.length,by simp,y6 _,h0⟩,?_⟩
 rintro i m ys H ⟨rfl,hi,p⟩
 have q:=hl i ys H p
 by_cases F:i < xs.length
 .refine .inr ⟨w.go i H q F,L (i+1),λσ' H' p'=>⟨xs.length - (i+1),(),rfl,F,p'⟩,λx H' y=>?_⟩
  obtain⟨e1,e2⟩:=w.yld i H x H' q F y;subst e2;exact hs i x ys _ F e1 p
 .have e:i=xs.length:=()
  subst e;exact .inl ⟨w.stop _ H q (i6 _),hd ys H p⟩
end L2
namespace HT
open PySem PyProof.Rows
open PySem.SeqAt
open PySem.AutoSeq1 (wpAny_loadPart')
open PySem.MeetsSeq PySem.MeetsSeq2 PySem.MeetsSeq3
theorem getItem_tuple_whole {t sl:Addr} {lo:Option Int} (B:IsTup s.heap t items) (Z:s.heap.IsSliceOf sl vl vu .none) (pl:IsPart vl lo) (pu:IsPart vu hi)
  (h1:sIx items.size 0 lo=0) (h2:sIx items.size items.size hi=items.size)
  (h:Q (.ref t) s):wpAny (model prog w) A (J9 (.ref t) (.ref sl)) Q E s:=by
 obtain⟨os,Y,F,aa⟩:=id Z;have L:s.TypeIs (.ref sl) "slice" :=⟨os,Y,F⟩
 unfold J9
 try with_reducible refine u7 ?_
 first | refine a_ (e_ ?_) | skip
 refine a_ (wpAny_sequenceKey B.typeIs ∅ ?_)
 refine a_ (m9 (name:=b_ "__getitem__") B.typeIs o6
  (o7 o6 B.typeIs entry_tuple_getitem ?_ (args_tuple_getitem _ _)))
 show wpAny _ _ (Builtin.Tuple.tupleItemsOf (.ref t) >>= _) _ _ s
 refine a_ (tupleItemsOf_ B ?_)
 refine a_ (J_ L ?_)
 rw[if_pos ∅]
 refine a_ (iC Z pl pu ?_)
 rw[h1,h2]
 show wpAny _ _ (if (((0:Nat):Int) == 0 && (1:Int) == 1 && (items.size - 0) == items.size)=true then _ else _) _ _ s
 rw[if_pos (by simp)]
 unfold Builtin.Tuple.tupleIsExact;refine a_ (a_ (J_ B.typeIs (e_ ?_)))
 rw[if_pos ∅]
 exact a_ (wpAny_rule (e_ ⟨_,rfl,e_ h⟩))
end HT
namespace L2
open PySem PySem.Spec PyProof.Rows
def jb (xs:List (Str × y9)) (x:Str):Bool:=xs.lookup x == some .cell || xs.lookup x == some .free
theorem jL {xs:List (Str × y9)} (h:jb xs x=true):xs.lookup x=some .cell\/xs.lookup x=some .free:=by
 unfold jb at h;rw[Bool.or_eq_true] at h;simpa using h
def He (K:fy):V->Option Int->Option Int->Hp->VK->Prop:=λx lo hi H Q=>∃a xs,x = .ref a/\SqT K H a xs/\(gR xs lo hi=xs->Q (.ref a) H)/\(∀p,H p=none->Q (.ref p) (upd H p (.tup (gR xs lo hi))))
theorem Dj:SlR X (He X.K):=by
 intro pins s σ H x v vl vu lo hi sl Q I L Z pl Y h;obtain⟨a,xs,e,hx,q1,q2⟩:=h
 by_cases F:HT.sIx xs.length 0 lo=0/\HT.sIx xs.length xs.length hi=xs.length
 .subst e
  cases L;obtain⟨its,r,ht,hz⟩:=I.tuple hx;have B:its.toArray.size=xs.length:=by rw[j_];exact r.length.symm
  refine⟨"tuple",_,o6.lookup,ht.typeIs,?_⟩
  refine HT.getItem_tuple_whole ht Z pl Y (by rw[B];exact F.1) (by rw[B];exact F.2) ⟨.ref a,H,I,rfl,q1 ?_⟩
  unfold gR;rw[F.1,F.2];simp
 .exact EC pins s σ H x v vl vu lo hi sl Q I L Z pl Y ⟨a,xs,e,hx,F,q2⟩
theorem HZ {s:Str} {P:Key->Prop}:(∃k,V.str s=kV k/\P k)↔P (i9 s):=by
 constructor
 .rintro⟨k,e,p⟩
  cases k with
  | inl i=>cases e
  | inr x=>cases e;exact p
 .exact λp=>⟨_,rfl,p⟩
theorem Hg {i:Int} {P:Key->Prop}:(∃k,V.int i=kV k/\P k)↔P (h_ i):=by
 constructor
 .rintro⟨k,e,p⟩
  cases k with
  | inl i=>cases e;exact p
  | inr x=>cases e
 .exact λp=>⟨_,rfl,p⟩
section
variable {o i:Expr}
def tDG (td ty:TE):TE:=λσ H Q=>td σ H λx H1=>ty σ H1 λy H2=>∃a,x = .ref a/\∃k,y=kV k/\∃kvs v,H2 a<*kvs/\bJ kvs k=some v/\Q v H2
theorem bQ (hu:X.A.units+1 < cLine) (ho:PE X o td) (hi:PE X i ty) (hs:Gy i:=by exact λ_ _=>rfl):PE X (.Subscript o i pos) (tDG td ty):=by
 intro pins s σ H Q I h;refine zj PySem.F.slot_dict_getitem.lookup hs (thn (ho pins s σ H _ I h) λu s1 ⟨x,H1,I1,rx,q1⟩=>thn (hi pins s1 σ H1 _ I1 q1) λiv s2 B=>?_)
 obtain⟨y,H2,Y,ry,a,ex,k,ey,kvs,v,Z,hv,q2⟩:=B;subst ex;obtain rfl:u=j6 a:=rx
 have g:kN H2 a y (some v):=.inl ⟨kvs,k,.inl Z,ey,hv.symm⟩
 exact⟨oZ Y g,rZ hu Y g ry λw' s3 I3 L=>⟨v,H2,I3,L,q2⟩⟩
def sDP (td ty tv:TE):TS:=λD σ H=>tv σ H λv H1=>td σ H1 λx H2=>ty σ H2 λy B=>∃a,x = .ref a/\∃k,y=kV k/\∃kvs,B a<*kvs/\kvs.length < hB/\D.nx σ (upd B a (.dK (bv kvs k v)))
theorem ia (hu:X.A.units+1 < cLine) (Y:PE X o td) (hi:PE X i ty) (hv:PE X value tv) (hs:KF value (some (.Subscript o i pos')) pos.line X.env=pure false) :
  PS X (.Assign [.Subscript o i pos'] value pos) (sDP td ty tv):=by
 intro pins s σ H D I h;refine wpAny_Assign_Subscript (thn (hv pins s σ H _ I h) λr Z ⟨v,H1,I1,rv,q1⟩=>thn (Y pins Z σ H1 _ I1 q1) λu s2 ⟨x,H2,I2,rx,q2⟩=>thn (hi pins s2 σ H2 _ I2 q2) λiv s3 B=>?_) hs
 obtain⟨y,F,I3,ry,a,ex,k,ey,kvs,L,hl,q3⟩:=B;subst ex;obtain rfl:u=j6 a:=rx
 have g:xZ F a y v (upd F a (.dK (bv kvs k v))):=.inl ⟨kvs,k,L,ey,hl,rfl⟩
 exact rY hu I3 g ry rv λs4 I4=>⟨σ,_,I4,q3⟩
def tDI (ty td:TE):TE:=λσ H Q=>ty σ H λy H1=>td σ H1 λx H2=>∃a,x = .ref a/\∃k,y=kV k/\∃kvs,H2 a<*kvs/\Q (.bl (bJ kvs k).isSome) H2
end
theorem vJ {c:TT} (W:Nat->St->Hp->Prop) (B:St->Hp->Prop) (Y : ∃m,W m σ H)
  (Z : ∀R:St->Hp->Prop,(∀ σ H,B σ H->R σ H)->∀m σ H,W m σ H->c σ H λb H1=>if b=true then ∃N:St->Hp->Prop,(∀ σ' H',N σ' H'->∃L,L < m/\W L σ' H')/\tb { D with nx:=N,ct:=N,bk:=R } σ H1 else R σ H1)
  (F : ∀ σ H,B σ H->D.nx σ H):wP c tb D σ H:=⟨W,Y,λm σ H w=>Z D.nx F m σ H w⟩
theorem cxK {q:Str} {o:List Env} {E:XK} :
  (tM CX P w K mg base N q sc f cd A o s H E).K=K:=rfl
theorem C3 (i j:Int):wv (.int i) (.int j)=true:=rfl
theorem Db (i j:Str):wv (.str i) (.str j)=true:=rfl
theorem DI (i j:Bool):wv (.bl i) (.bl j)=true:=rfl
theorem C9:wv .non .non=true:=rfl
theorem C7 (i:Int):wv (.int i) .non=true:=rfl
theorem DO (s:Str) (i:Int):wv (.str s) (.int i)=true:=rfl
section
variable {a b o l:Expr} {tb:TE} {t:TA}
theorem OpR.imp {f:Value->Value->Sem Value} {r r':R2} (h:OpR X f r) (i : ∀x y H Q,r' x y H Q->r x y H Q):OpR X f r':=λpins s σ H x y v u Q I F B q=>h pins s σ H x y v u Q I F B (i _ _ _ _ q)
theorem bK.imp {f:Value} {r r':List V->Hp->VK->Prop} (h:bK X f r) (i : ∀x H Q,r' x H Q->r x H Q):bK X f r':=λpins s σ H xs us Q I B q=>h pins s σ H xs us Q I B (i _ _ _ q)
theorem IxR.imp {r r':R2} (h:IxR X r) (i : ∀x y H Q,r' x y H Q->r x y H Q):IxR X r':=λvalue B pins s σ H x y v u Q I F L q Y=>h value B pins s σ H x y v u Q I F L (i _ _ _ _ q) Y
theorem SlR.imp (h:SlR X r) (i : ∀x lo hi H Q,r' x lo hi H Q->r x lo hi H Q):SlR X r':=λpins s σ H x v vl vu lo hi sl Q I B L pl F q=>h pins s σ H x v vl vu lo hi sl Q I B L pl F (i _ _ _ _ _ q)
def AB:List V->Hp->VK->Prop:=λxs H Q=>∃p,xs=[.ref p]/\∃ys,H p*>ys/\Q (.int ys.length) H
def Cu:List V->Hp->VK->Prop:=λxs H Q=>∃p,xs=[.ref p]/\∃ys,H p>>ys/\Q (.int ys.length) H
theorem bU:bK X (.builtin "len") AB:=lN.imp λ_ _ _ B=>by obtain⟨p,e,ys,h,q⟩:=B;exact(⟨p,ys,e,.inl (.of h),q⟩)
theorem kf:bK X (.builtin "len") Cu:=lN.imp λ_ _ _ B=>by obtain⟨p,e,ys,h,q⟩:=B;exact(⟨p,ys,e,.inr (.of h),q⟩)
def rIL:R2:=λx y H Q=>∃p,x = .ref p/\∃i,y = .int i/\∃xs,H p*>xs/\∃v,atI xs i=some v/\Q v H
def rIT:R2:=λx y H Q=>∃p,x = .ref p/\∃i,y = .int i/\∃xs,H p>>xs/\∃v,atI xs i=some v/\Q v H
theorem jr:IxR X rIL:=Ej.imp λ_ _ _ _ B=>by obtain⟨p,e,i,e2,xs,h,v,ha,q⟩:=B;exact(⟨p,xs,i,v,e,e2,.of h,ha,q⟩)
theorem ba:IxR X rIT:=EQ.imp λ_ _ _ _ B=>by obtain⟨p,e,i,e2,xs,h,v,ha,q⟩:=B;exact(⟨p,xs,i,v,e,e2,.of h,ha,q⟩)
def rIS:R2:=λx y H Q=>∃z,x = .str z/\∃i,y = .int i/\z.length<=hB/\∃c,atI z.cps.toList i=some c/\Q (.str ⟨#[c]⟩) H
theorem CT:IxR X rIS:=FY.imp λ_ _ _ _ B=>by obtain⟨z,e,i,e2,h,c,ha,q⟩:=B;exact(⟨z,i,c,e,e2,h,ha,q⟩)
def rSL:V->Option Int->Option Int->Hp->VK->Prop:=λx lo hi H Q=>∃a,x = .ref a/\∃xs,H a*>xs/\∀p,H p=none->Q (.ref p) (upd H p (.lst (gR xs lo hi)))
theorem Ik:SlR X rSL:=yJ.imp λ_ _ _ _ _ B=>by obtain⟨a,e,xs,h,q⟩:=B;exact(⟨a,xs,e,.of h,q⟩)
def rSQ (K:fy):V->Option Int->Option Int->Hp->VK->Prop:=λx lo hi H Q=>∃a,x = .ref a/\∃xs,SqL K H a xs/\∀p,H p=none->Q (.ref p) (upd H p (.lst (gR xs lo hi)))
theorem Hn:SlR X (rSQ X.K):=yJ.imp λ_ _ _ _ _ B=>by obtain⟨a,e,xs,h,q⟩:=B;exact(⟨a,xs,e,h,q⟩)
def rST:V->Option Int->Option Int->Hp->VK->Prop:=λx lo hi H Q=>∃a,x = .ref a/\∃xs,H a>>xs/\(gR xs lo hi=xs->Q (.ref a) H)/\(∀p,H p=none->Q (.ref p) (upd H p (.tup (gR xs lo hi))))
theorem IK:SlR X rST:=Dj.imp λ_ _ _ _ _ B=>by obtain⟨a,e,xs,h,q⟩:=B;exact(⟨a,xs,e,.of h,q⟩)
def iL (K:fy) (tl:TE):TI:=λσ H R=>tl σ H λx H1=>∃a,x = .ref a/\∃xs,H1 a*>xs/\R (Itl K a) H1
def iT (K:fy) (tl:TE):TI:=λσ H R=>tl σ H λx H1=>∃a,x = .ref a/\∃xs,H1 a>>xs/\R (Itt K a) H1
theorem IG {tl:TE} (hl:PE X l tl):PI X tg l (iL X.K tl):=by
 intro pins s σ H R I h;refine thn (hl pins s σ H _ I h) λv L B=>?_
 obtain⟨x,H1,F,r1,a,e,xs,Y,q⟩:=B;subst e;cases r1;obtain⟨its,rv,p,hz⟩:=F.list (SqL.of Y);refine J0 p.isList ?_
 refine⟨L.heap.objs.size,[L.heap.objs.size],_,_,H1,rfl,F.kept (t':=L.toks) λb o e=>c_ _ e,Ae a _,⟨_,gt _ rfl,rfl,rfl⟩,λb Z=>?_,q⟩
 have e:b=L.heap.objs.size:=by simpa using Z
 subst e;exact F.fpOk (i6 _) (F.hok.fresh (i6 _))
theorem ID {tl:TE} (hl:PE X l tl):PI X tg l (iT X.K tl):=by
 intro pins s σ H R I h;refine thn (hl pins s σ H _ I h) λv F B=>?_
 obtain⟨x,H1,L,r1,a,e,xs,Y,q⟩:=B;subst e;cases r1;obtain⟨its,rv,p,hz⟩:=L.tuple (SqT.of Y);refine u5 (show F.heap.IsTuple a its.toArray from p) ?_
 refine⟨F.heap.objs.size,[F.heap.objs.size],_,_,H1,rfl,L.kept (t':=F.toks) λb o e=>c_ _ e,pQ a _,⟨_,gt _ rfl,rfl,rfl⟩,λb Z=>?_,q⟩
 have e:b=F.heap.objs.size:=by simpa using Z
 subst e;exact L.fpOk (i6 _) (L.hok.fresh (i6 _))
abbrev RM:=Addr->List V->Hp->VK->Prop
def MtL (X:Cx) (id:String) (r:RM):Prop:=MtR X id λx vs H Q=>∃p,x = .ref p/\r p vs H Q
def tML (r:RM) (to:TE) (t:TA):TE:=λσ H Q=>to σ H λx H1=>∃p,x = .ref p/\(∃xs,H1 p*>xs)/\t σ H1 λvs H2=>r p vs H2 Q
variable {id:String} {r:RM}
theorem kF (ab:Slot "list" name id) (ac:typeOf (.builtin id)=pure (.type "method_descriptor")) (hm:MtL X id r) (ho:PE X o to) (ha:PA X (e :: es) t)
  (Y:Kt o name X.env (eval o X.env)=eval o X.env:=by rfl)
  (aa:((y8 cpos (j8 (e :: es) X.env)).all (λx=>!x.1) && (backToKw cpos (Kw [] X.env)).all (λx=>x.1.isSome)
   && decide ((e :: es).length+([]:List Keyword).length+(if ([]:List Keyword).isEmpty then 0 else 1) < 30))=true:=by rfl)
  (Z:(apos.endLine == cpos.line)=true:=by rfl) (hs:j8 (e :: es) X.env=(false,eval e X.env) :: j8 es X.env:=by rfl) (L:(y8 cpos (j8 es X.env)).any (·.1)=false:=by rfl) :
  PE X (.Call (.Attribute o name apos) (e :: es) [] cpos) (tML r to t):=by
 intro pins s σ H Q I h;refine wpAny_Call_method_late Y aa Z rfl (thn (ho pins s σ H _ I h) λv s1 ⟨x,H1,I1,r1,p,ex,⟨xs,hp⟩,q1⟩=>?_)
 subst ex;have ty:tyV X.K "list" (.ref p) H1:=.inl ⟨rfl,xs,.of hp⟩
 obtain⟨h1,h2⟩:=xa I1 r1 ty;refine⟨"list",id,PySem.F.plainAttrs_list,ab,ac,h1,h2,?_⟩
 have hA:=ha cpos pins s1 σ H1 _ I1 q1;rw[hs] at hA ⊢;refine JV (by show(false || (y8 cpos (j8 es X.env)).any (·.1))=false;rw[L] <;> rfl) (Calls.evalArgs_plain ?_)
 refine thn hA λus s2 B=>?_
 obtain⟨vs,H2,I2,rr,q2⟩:=B;exact hm pins s2 σ H2 (.ref p) vs v us Q I2 r1 rr ⟨p,rfl,q2⟩
theorem FT (Y:Slot "list" name id) (Z:typeOf (.builtin id)=pure (.type "method_descriptor")) (hm:MtL X id r) (ho:PE X o to)
  (B:Kt o name X.env (eval o X.env)=eval o X.env:=by rfl) (L:(apos.endLine == cpos.line)=true:=by rfl):PE X (.Call (.Attribute o name apos) [] [] cpos) (tML r to xO):=by
 intro pins s σ H Q I h;refine wpAny_Call_method0_late B L (thn (ho pins s σ H _ I h) λv s1 ⟨x,H1,I1,r1,p,ex,⟨xs,hp⟩,q1⟩=>?_)
 subst ex;have ty:tyV X.K "list" (.ref p) H1:=.inl ⟨rfl,xs,.of hp⟩
 obtain⟨h1,h2⟩:=xa I1 r1 ty;exact⟨"list",id,PySem.F.plainAttrs_list,Y,Z,h1,h2,JV rfl (PySem.evalArgs_none (hm pins s1 σ H1 _ [] v [] Q I1 r1 .nil ⟨p,rfl,q1⟩))⟩
def pV:RM:=λp vs H Q=>∃y,vs=[y]/\∃xs,H p*>xs/\xs.length < hB/\Q .non (upd H p (.lst (xs++[y])))
theorem dW:MtL X "list.append" pV:=λpins s σ H x vs v us Q I L F B=>by obtain⟨p,e,y,e2,xs,h,hl,q⟩:=B;exact(sg pins s σ H x vs v us Q I L F ⟨p,xs,y,e,e2,h,hl,q⟩)
def AG:RM:=λp vs H Q=>vs=[]/\∃xs,H p*>xs/\∃y,xs[xs.length - 1]? = some y/\Q y (upd H p (.lst xs.dropLast))
theorem EE:MtL X "list.pop" AG:=λpins s σ H x vs v us Q I L F B=>by obtain⟨p,e,e2,xs,h,y,hl,q⟩:=B;exact(ER pins s σ H x vs v us Q I L F ⟨p,xs,y,e,e2,h,hl,q⟩)
def rCL:R2:=λx y H Q=>∃l,x = .ref l/\∃b,y = .ref b/\∃xs,H l*>xs/\∃zs,H b*>zs/\xs.length+zs.length<=hB/\∀p,H p=none->Q (.ref p) (upd H p (.lst (xs++zs)))
theorem zm:OpR X (Kn .Add) rCL:=EO.imp λ_ _ _ _ B=>by obtain⟨l,e,b,e2,xs,h,zs,h2,hl,q⟩:=B;exact(⟨l,b,xs,zs,e,e2,h,h2,hl,q⟩)
def BI (B:Bool):R2:=λx y H Q=>∃p,y = .ref p/\∃xs,H p*>xs/\gP x=true/\xs.all gP=true/\Q (.bl (if B then !inV x xs else inV x xs)) H
def De (B:Bool):R2:=λx y H Q=>∃p,y = .ref p/\∃xs,H p>>xs/\gP x=true/\xs.all gP=true/\Q (.bl (if B then !inV x xs else inV x xs)) H
theorem tN:OpR X (t3 .In) (BI false):=sW.imp λ_ _ _ _ B=>by obtain⟨p,e,xs,h,f1,F,q⟩:=B;exact(⟨p,xs,e,.inl (.of h),f1,F,q⟩)
theorem gA:OpR X (t3 .In) (De false):=sW.imp λ_ _ _ _ B=>by obtain⟨p,e,xs,h,f1,F,q⟩:=B;exact(⟨p,xs,e,.inr (.of h),f1,F,q⟩)
theorem sI:OpR X (t3 .NotIn) (De true):=uS.imp λ_ _ _ _ B=>by obtain⟨p,e,xs,h,f1,F,q⟩:=B;exact(⟨p,xs,e,.inr (.of h),f1,F,q⟩)
def yb:List V->Hp->VK->Prop:=λxs H Q=>∃p,xs=[.ref p]/\∃ys,H p>>ys/\∀l,H l=none->Q (.ref l) (upd H l (.lst ys))
def AE:List V->Hp->VK->Prop:=λxs H Q=>∃p,xs=[.ref p]/\∃ys,H p*>ys/\∀l,H l=none->Q (.ref l) (upd H l (.tup ys))
theorem qo:bK X (.type "list") yb:=lV.imp λ_ _ _ B=>by obtain⟨p,e,ys,h,q⟩:=B;exact(⟨p,ys,e,.inr (.of h),q⟩)
theorem cS:bK X (.type "tuple") AE:=rn.imp λ_ _ _ B=>by obtain⟨p,e,ys,h,q⟩:=B;exact(⟨p,ys,e,.inl ⟨.of h,q⟩⟩)
def rCS:R2:=λx y H Q=>∃i,x = .str i/\∃j,y = .str j/\i.length+j.length<=hB/\Q (.str (i++j)) H
theorem uO:OpR X (Kn .Add) rCS:=xW.imp λ_ _ _ _ B=>by obtain⟨i,e,j,e2,h,q⟩:=B;exact(⟨i,j,e,e2,h,q⟩)
def CI:List V->Hp->VK->Prop:=λxs H Q=>∃z,xs=[.str z]/\z.length<=hB/\Q (.int z.length) H
theorem Ab:bK X (.builtin "len") CI:=tT
end
def mt (J:It) (σ0:St) (g:TG) (tc:TT) (te:TE) (Q:VK) (H1:Hp) (D:Addr):Prop:=∃W:Nat->Nat->List V->Hp->Prop,(∃m,W 0 m [] (upd H1 D (.lst []))) /\
 ∀ i m ys H2,W i m ys H2->(J.stop i H2/\Q (.ref D) H2)\/(J.go i H2/\∃N:List V->Hp->Prop,(∀B H',N B H'->∃Z,Z < m/\W (i+1) Z B H') /\
  ∀x H',J.yld i H2 x H'->g x σ0 H' λF H3=>tc F H3 λb L=>if b=true then te F L λy Y=>Y D*>ys/\ys.length < hB/\N (ys++[y]) (upd Y D (.lst (ys++[y]))) else N ys L)
theorem AK (nt:Nat) (js:List Nat) (wi:TI) (g:TG) (tc:TT) (te:TE):ym nt js wi g tc te=λσ H Q=>wi σ H λJ H1=>∀D,H1 D=none->mt J (fO nt js σ) g tc te Q H1 D:=rfl
def Dv (J:It) (g:TG) (tb:TS) (D:pA) (σ:St) (H1:Hp):Prop:=∃W:Nat->Nat->St->Hp->Prop,(∃m,W 0 m σ H1)/\∀i m σ H,W i m σ H ->
 (J.stop i H/\D.nx σ H)\/(J.go i H/\∃N:St->Hp->Prop,(∀ σ' H',N σ' H'->∃F,F < m/\W (i+1) F σ' H')/\∀x H',J.yld i H x H'->g x σ H' λB H2=>tb { D with nx:=N,ct:=N,bk:=D.nx } B H2)
theorem DK (wi:TI) (g:TG) (tb:TS):GR wi g tb=λD σ H=>wi σ H λJ H1=>Dv J g tb D σ H1:=rfl
theorem bX {C:Hp->Prop} (w:Wlk J xs C) {g:TG} {tb:TS} {D:pA} {σ:St} {H:Hp} (B:Nat->St->Hp->Prop) (L:B 0 σ H) (hl : ∀i σ H,B i σ H->C H)
  (Z : ∀i x σ H,i < xs.length->xs[i]? = some x->B i σ H->g x σ H λF H2=>tb { D with nx:=B (i+1),ct:=B (i+1),bk:=D.nx } F H2) (Y : ∀ σ H,B xs.length σ H->D.nx σ H):Dv J g tb D σ H :=
 CV w B L hl Z Y
theorem dG {C:Hp->Prop} (w:Wlk J xs C) {g:TG} {tc:TT} {te:TE} {σ0:St} {Q:VK} {H1:Hp} {D:Addr} (B:Nat->List V->Hp->Prop) (Z:B 0 [] (upd H1 D (.lst []))) (hl : ∀i ys H,B i ys H->C H)
  (hs : ∀i x ys H,i < xs.length->xs[i]? = some x->B i ys H->g x σ0 H λF H3=>tc F H3 λb L=>if b=true then te F L λy Y=>Y D*>ys/\ys.length < hB/\B (i+1) (ys++[y]) (upd Y D (.lst (ys++[y]))) else B (i+1) ys L)
  (hd : ∀ys H,B xs.length ys H->Q (.ref D) H):mt J σ0 g tc te Q H1 D:=Cg w B Z hl hs hd
theorem GD (js:List Nat) (σ:St):fO 0 js σ=js.map λj=>(σ[j]?).join:=rfl
theorem EZ (js:List Nat) (σ:St):fO 1 js σ=none :: js.map λj=>(σ[j]?).join:=rfl
theorem EI (js:List Nat) (σ:St):fO 2 js σ=none :: none :: js.map λj=>(σ[j]?).join:=rfl
theorem Gp (js:List Nat) (σ:St):fO 3 js σ=none :: none :: none :: js.map λj=>(σ[j]?).join:=rfl
theorem au.upd_new (s:au H H1) (hp:H1 p=none):au H (upd H1 p o):=λb u e=>by
 have e1:=s b u e;rw[ag (ap e1 hp)];exact e1
theorem au.upd0 (hp:H p=none):au H (upd H p o):=(au.refl H).upd_new hp
def IsB (H:Hp) (x:V) (T:String) (k:Bool):Prop:=match x with
 | .non=>k=false
 | .bl _=>k=(T == "bool" || T == "int")
 | .int _=>k=(T == "int")
 | .str _=>k=(T == "str")
 | .ref a=>(∃vs,H a>>vs/\k=(T == "tuple"))\/(∃vs,H a*>vs/\k=(T == "list"))
 | _=>False
def EF:List V->Hp->VK->Prop:=λxs H Q=>∃x T,xs=[x,.ty T]/\(T = "int" \/ T = "str" \/ T = "bool" \/ T = "tuple" \/ T = "list")/\∃k,IsB H x T k/\Q (.bl k) H
theorem C5 (K:fy) {T:String} (h:T = "int" \/ T = "str" \/ T = "bool" \/ T = "tuple" \/ T = "list") :
  JN K (.type "NoneType") (.type T)=some false/\JN K (.type "bool") (.type T)=some (T == "bool" || T == "int")/\JN K (.type "int") (.type T)=some (T == "int") /\
  JN K (.type "str") (.type T)=some (T == "str")/\JN K (.type "tuple") (.type T)=some (T == "tuple")/\JN K (.type "list") (.type T)=some (T == "list"):=by
 rcases h with rfl | rfl | rfl | rfl | rfl
 all_goals exact⟨rfl,rfl,rfl,rfl,rfl,rfl⟩
theorem BM:bK X (.builtin "isinstance") EF:=A0.imp λxs H Q ⟨x,T,e,hT,k,hk,q⟩=>by
 obtain⟨Y,k2,B,Z,L,F⟩:=C5 X.K hT;cases x with
 | non=>cases hk;exact⟨_,_,T,_,e,.non,Y,q⟩
 | bl b=>cases hk;exact⟨_,_,T,_,e,.bl b,k2,q⟩
 | int b=>cases hk;exact⟨_,_,T,_,e,.int b,B,q⟩
 | str b=>cases hk;exact⟨_,_,T,_,e,.str b,Z,q⟩
 | ref a =>
  rcases hk with⟨vs,h,rfl⟩ | ⟨vs,h,rfl⟩
  .exact⟨_,_,T,_,e,.tup h,L,q⟩
  .exact⟨_,_,T,_,e,.lst h,F,q⟩
 | _=>exact hk.elim
def er (c:Nat):Bool:=decide (97<=c) && decide (c<=122)
theorem pU (a b:Str):(a++b).length=a.length+b.length:=by
 show(a++b).cps.size=a.cps.size+b.cps.size
 exact Array.size_append
theorem wr (B:dg k A):A.units+100 < cLine:=by have:=B.un;omega
section
variable {a b o l:Expr} {tb:TE} {t:TA}
def Hb (i j:Int):Prop:=0 < j/\j < 18446744073709551616
theorem Ct:OpR X (Kn .FloorDiv) (rI Hb λi j=>.int (i / j)):=opI λi j _ _ _ _ _ B q=>by
 have h1:(0:Int) < j:=B.1
 have h2:j < 18446744073709551616:=B.2
 refine floordiv_int () (by rw[Int.fdiv_eq_ediv_of_nonneg i ()];exact q) (.inl (PyProof.noPylong_of_log2 ?_))
 have F:j.natAbs < 2 ^ 64:=()
 exact lt_trans ((Nat.log2_lt ()).mpr F) ∅
abbrev RMS:=Str->List V->Hp->VK->Prop
def MtS (X:Cx) (id:String) (r:RMS):Prop:=MtR X id λx vs H Q=>∃p,x = .str p/\r p vs H Q
def tMS (r:RMS) (to:TE) (t:TA):TE:=λσ H Q=>to σ H λx H1=>∃p,x = .str p/\t σ H1 λvs H2=>r p vs H2 Q
variable {id:String} {r:RMS}
theorem Ex (ac:Slot "str" name id) (ad:typeOf (.builtin id)=pure (.type "method_descriptor")) (hm:MtS X id r) (ho:PE X o to) (ha:PA X (e :: es) t)
  (Z:Kt o name X.env (eval o X.env)=eval o X.env:=by rfl)
  (ab:((y8 cpos (j8 (e :: es) X.env)).all (λx=>!x.1) && (backToKw cpos (Kw [] X.env)).all (λx=>x.1.isSome)
   && decide ((e :: es).length+([]:List Keyword).length+(if ([]:List Keyword).isEmpty then 0 else 1) < 30))=true:=by rfl)
  (aa:(apos.endLine == cpos.line)=true:=by rfl) (hs:j8 (e :: es) X.env=(false,eval e X.env) :: j8 es X.env:=by rfl) (L:(y8 cpos (j8 es X.env)).any (·.1)=false:=by rfl) :
  PE X (.Call (.Attribute o name apos) (e :: es) [] cpos) (tMS r to t):=by
 intro pins s σ H Q I h;refine wpAny_Call_method_late Z ab aa rfl (thn (ho pins s σ H _ I h) λv s1 Y=>?_)
 obtain⟨x,H1,I1,r1,p,ex,q1⟩:=Y;subst ex;obtain⟨h1,h2⟩:=xa I1 r1 (show tyV X.K "str" (.str p) H1 from rfl)
 refine⟨"str",id,PySem.F.plainAttrs_str,ac,ad,h1,h2,?_⟩
 have hA:=ha cpos pins s1 σ H1 _ I1 q1;rw[hs] at hA ⊢;refine JV (by show(false || (y8 cpos (j8 es X.env)).any (·.1))=false;rw[L] <;> rfl) (Calls.evalArgs_plain ?_)
 refine thn hA λus s2 B=>?_
 obtain⟨vs,H2,I2,rr,q2⟩:=B;exact hm pins s2 σ H2 (.str p) vs v us Q I2 r1 rr ⟨p,rfl,q2⟩
theorem xM {ns:List Str} : ∀{us:List Value},bi (ns.map V.str) us->StrsAre us ns:=by
 induction ns with
 | nil=>intro us h;cases h;exact .nil
 | cons n ns B =>
  intro us h;cases h with
  | cons F L =>
   obtain⟨t,rfl⟩:=F;exact .cons _ _ (B L)
def xQ:RMS:=λz vs H Q=>∃p,vs=[.ref p]/\∃ys:List Str,H p*>(ys.map V.str)/\(ys.map (·.length)).sum+ys.length * z.length<=16777216/\Q (.str (Txt.join z ys)) H
theorem DN:MtS X "str.join" xQ:=by
 intro pins s σ H x vs v us Q I L F h;obtain⟨z,rfl,p,rfl,ys,hp,B,q⟩:=h;obtain⟨t,rfl⟩:=L;obtain⟨u,rfl,Y⟩:=dD F;cases Y;obtain⟨its,r,pl,Z⟩:=I.list (SqL.of hp);exact join_list pl.isList (ys:=ys) (by simpa using xM r) B λt' k=>⟨.str _,H,I.tok k,⟨t',rfl⟩,q⟩
def pI:RMS:=λz vs H Q=>∃y,vs=[.str y]/\∃i rest,JH z y 0 z.length 1=i :: rest/\Q (.int (i:Nat)) H
theorem Bu:MtS X "str.index" pI:=by
 intro pins s σ H x vs v us Q I F B h;obtain⟨z,rfl,y,rfl,i,rest,L,q⟩:=h;obtain⟨t,rfl⟩:=F;obtain⟨u,rfl,Y⟩:=dD B;obtain⟨t',rfl⟩:=Y;exact SC.index L ⟨.int i,H,I.tok _,⟨_,rfl⟩,q⟩
end
theorem Ek {a b:Str} (h:a.cps.toList=b.cps.toList):a=b:=by
 cases a;cases b;congr 1;exact Array.ext' h
theorem lb (a b:Str):(a++b).cps.toList=a.cps.toList++b.cps.toList:=by
 show(a.cps++b.cps).toList=_
 simp
theorem ix (l:List Nat) (s:Nat) : ∀n,s+n<=l.length->((range n).map λk=>s+k).filterMap (λi=>l[i]?)=(l.drop s).take n
 | 0,_=>by simp
 | n+1,h=>by
  rw[List.range_succ,t6,List.filterMap_append,ix l s n (),ki]
  have e:l[s+n]? = some (l[s+n]'()):=by simp
  simp[e,List.getElem?_drop]
theorem FX (lo hi:Option Int) (n:Nat):Builtin.Str.strSliceIndices lo hi 1 n=(range (HT.sIx n n hi - HT.sIx n 0 lo)).map λk=>HT.sIx n 0 lo+k:=by
 have B : ∀(v:Int) (d:Nat),(if (1:Int) > 0 then max 0 (min (if v < 0 then v+(n:Int) else v) (n:Int)) else max (-1) (min (if v < 0 then v+(n:Int) else v) ((n:Int) - 1)))=((HT.sIx n d (some v):Nat):Int):=λv d=>by
  rw[if_pos ∅]
  show max 0 (min (if v < 0 then v+(n:Int) else v) (n:Int))=(((if v < 0 then(v+(n:Int)).toNat else min v.toNat n):Nat):Int)
  split <;> rw[Int.max_def,Int.min_def] <;> split <;> split <;> omega
 have base : ∀(a b:Nat),sliceRange (a:Int) (b:Int) 1=(range (b - a)).map λk=>a+k:=λa b=>by
  unfold sliceRange;simp only[show(1:Int) > 0 by decide,if_true,Int.one_mul]
  have e:(if (a:Int) < (b:Int) then((b:Int) - (a:Int)+1 - 1) / 1 else 0).toNat=b - a:=by
   split
   .rw[Int.ediv_one];omega
   .show(0:Int).toNat=b - a
    rw[Int.toNat_zero];omega
  rw[e];refine q_ λk _=>?_
  omega
 unfold Builtin.Str.strSliceIndices;cases lo with
 | none=>cases hi with
  | none=>exact base 0 n
  | some v=>simp only[];rw[B v n];exact base 0 _
 | some u=>cases hi with
  | none=>simp only[];rw[B u 0];exact base _ n
  | some v=>simp only[];rw[B u 0,B v n];exact base _ _
theorem oa (x:Str) (lo hi:Option Int):(Is x lo hi).cps.toList=(x.cps.toList.drop (HT.sIx x.length 0 lo)).take (HT.sIx x.length x.length hi - HT.sIx x.length 0 lo):=by
 have h1:=HT.sIx_le x.length x.length (i6 _) hi;have F:=HT.sIx_le x.length 0 (y6 _) lo;have hl:x.cps.toList.length=x.length:=by show x.cps.toList.length=x.cps.size;simp
 unfold Is;rw[FX]
 split
 .rename_i h
  simp only[beq_self_eq_true,Bool.true_and,d_,List.length_range,beq_iff_eq] at h;have B:HT.sIx x.length 0 lo=0:=()
  rw[h,B,drop_zero,<- hl,m_]
 .show((List.map _ _).filterMap (λi=>x.cps[i]?)).toArray.toList=_
  rw[List.toList_toArray];rw[<- ix _ _ _ ()]
  refine congrArg (λf=>List.filterMap f _) (funext λi=>?_)
  simp
theorem Bq (ys:List Str):(Txt.join (b_ "") ys).cps.toList=ys.flatMap λy=>y.cps.toList:=by
 have F : ∀(l:List Str) (B:Array Nat),(l.foldl (λB p=>B++(b_ "").cps++p.cps) B).toList=B.toList++l.flatMap λy=>y.cps.toList:=by
  intro l
  induction l with
  | nil=>intro B;simp
  | cons a l L =>
   intro B;rw[List.foldl_cons,L];have e:(b_ "").cps = #[]:=by decide+kernel
   simp[e]
 show((ys.drop 1).foldl _ (ys.headD Str.empty).cps).toList=_
 rw[F];cases ys with
 | nil=>simp;decide+kernel
 | cons a l=>simp
structure fK (w:Str):Prop where
 pos:1<=w.length
 le:w.length<=8
 small : ∀c∈w.cps.toList,er c=true
theorem mB (x:Str):x.cps.toList.length=x.length:=by show x.cps.toList.length=x.cps.size;simp
theorem fK.cons {w:Str} (h:fK w) : ∃c cs,w.cps.toList=c :: cs/\er c=true/\(∀x∈cs,er x=true)/\cs.length<=7:=by
 have hl:=mB w;cases e:w.cps.toList with
 | nil=>rw[e] at hl;have:=h.pos;simp at hl;omega
 | cons c cs =>
  rw[e] at hl;have:=h.le
  exact⟨c,cs,rfl,h.small c (by rw[e];simp),λx B=>h.small x (by rw[e];simp[B]),by simp at hl;omega⟩
theorem fK.of {w:Str} {c:Nat} {cs:List Nat} (e:w.cps.toList=c :: cs) (L:er c=true) (B : ∀x∈cs,er x=true) (hl:cs.length<=7):fK w:=by
 have h:=mB w;rw[e] at h;simp at h
 refine⟨(),(),λx F=>?_⟩
 rw[e] at F;rcases i7.mp F with rfl | q
 .exact L
 .exact B x q
theorem qL {r:Int} (B:0<=r) (h1:r < 26):atI (b_ "abcdefghijklmnopqrstuvwxyz").cps.toList r=some (97+r.toNat):=by
 obtain⟨n,rfl⟩:=A_ B;rw[show(b_ "abcdefghijklmnopqrstuvwxyz").cps.toList=List.range' 97 26 by decide+kernel]
 refine cE ?_
 rw[List.getElem?_range' ()]
 simp
theorem oN:(b_ "abcdefghijklmnopqrstuvwxyz").length<=hB:=by decide+kernel
theorem rH {c:Nat} (h:er c=true):JH (b_ "abcdefghijklmnopqrstuvwxyz") ⟨#[c]⟩ 0 (b_ "abcdefghijklmnopqrstuvwxyz").length 1=(c - 97) :: []:=by
 have B : ∀i:Fin 26,JH (b_ "abcdefghijklmnopqrstuvwxyz") ⟨#[97+i.1]⟩ 0 (b_ "abcdefghijklmnopqrstuvwxyz").length 1=[i.1]:=by decide+kernel
 simp only[er,l_,decide_eq_true_eq] at h;have:=B ⟨c - 97,()⟩
 simp only[show 97+(c - 97)=c by omega] at this
 exact this
def vn (c:Nat):Nat:=97+(c - 97+1) % 26
def DY:List Nat->List Nat
 | []=>[]
 | c :: cs=>vn c :: cs
def qw (w:Str):Str:=⟨(DY w.cps.toList).toArray⟩
def qb:Nat->Str->Str
 | 0,w=>w
 | n+1,w=>qb n (qw w)
theorem qK (c:Nat):er (vn c)=true:=by
 have:=Nat.mod_lt (c - 97+1) (show 0 < 26 by decide)
 unfold er vn;rw[l_,decide_eq_true_eq,decide_eq_true_eq];exact⟨(),()⟩
theorem CQ {w:Str} (h:fK w):fK (qw w):=by
 obtain⟨c,cs,e,F,B,hl⟩:=h.cons;exact .of (c:=vn c) (cs:=cs) (by simp[qw,e,DY]) (qK c) B hl
theorem Bo {c:Nat} {cs:List Nat} : ∀(n:Nat) {w:Str},w.cps.toList=c :: cs->er c=true->(qb n w).cps.toList=(97+(c - 97+n) % 26) :: cs:=by
 intro n
 induction n generalizing c with
 | zero =>
  intro w e B;simp only[er,l_,decide_eq_true_eq] at B;rw[qb,e]
  congr 1
  omega
 | succ n F =>
  intro w e B;rw[qb,F (c:=vn c) (by simp[qw,e,DY]) (qK c)]
  congr 1
  simp only[vn];omega
theorem fj {α:Type} [BEq α] [LawfulBEq α] : ∀{xs ys:List α},xs.Nodup->(∀x∈xs,x∈ys)->xs.length<=ys.length
 | [],_,_,_=>by simp
 | x :: xs,ys,hn,h=>by
  have B:=m7.mp hn;have Y:=h x (by simp)
  have:=fj (xs:=xs) (ys:=ys.erase x) B.2 λz L=>by
   have F:z≠x:=λe=>B.1 (e ▸ L)
   exact(List.mem_erase_of_ne F).mpr (h z (by simp[L]))
  rw[List.length_erase_of_mem Y] at this;have:=Jo Y
  simp
  omega
theorem zY {w:Str} (h:fK w) {F:List Str} (hF:F.length < 26) : ∃n,qb n w∉F:=by
 obtain⟨c,cs,e,hc,aa,hl⟩:=h.cons;have B : ∀i j,i < 26->j < 26->qb i w=qb j w->i=j:=λi j hi hj q=>by
  have q2:=congrArg (λz:Str=>z.cps.toList) q
  simp only[Bo _ e hc] at q2;have q3:=(List.cons.inj q2).1;omega
 refine p6 λY=>?_
 have L : ∀n,qb n w∈F:=λn=>p6 λq=>Y ⟨n,q⟩
 have Z:((range 26).map λn=>qb n w).Nodup:=by
  refine G5.mpr (If (λ{i j} hi hj q e=>q (B i j (Kf.mp hi) (Kf.mp hj) e)) (List.nodup_range (n:=26)))
 have:=fj (ys:=F) Z λx hx=>by
  obtain⟨n,_,rfl⟩:=i4.mp hx;exact L n
 simp at this
 omega
theorem D9 (a b:Str):eqV (.str a) (.str b)=decide (a=b):=by
 show(a == b)=decide (a=b)
 rw[n9];simp
theorem ve (x:Str) (ys:List Str):inV (.str x) (ys.map V.str)=decide (x∈ys):=by
 rw[n9];simp only[inV,any_map,x_,Function.comp,D9,decide_eq_true_eq]
 constructor
 .rintro⟨y,hy,rfl⟩;exact hy
 .exact λh=>⟨x,h,rfl⟩
theorem Aa (ys:List Str):(ys.map V.str).all gP=true:=by
 rw[y_];intro x B;obtain⟨y,_,rfl⟩:=i4.mp B;rfl
def fT:List Str:=["in","from","to","end"]
structure gW (ws:List Str):Prop where
 nm : ∀w∈ws,fK w
 nd:ws.Nodup
 nomark : ∀w∈ws,w∉fT
theorem gW.nil:gW []:=⟨by simp,by simp,by simp⟩
theorem gW.snoc {w:Str} (h:gW ws) (F:fK w) (Z:w∉ws) (L:w∉fT):gW (ws++[w]):=by
 refine⟨λx B=>?_,?_,λx B=>?_⟩
 .rcases j9.mp B with q | q
  .exact h.nm x q
  .rw[gr.mp q];exact F
 .rw[t_]
  refine⟨h.nd,by simp,λa ha b Y=>?_⟩
  rw[gr.mp Y];rintro rfl
  exact Z ha
 .rcases j9.mp B with q | q
  .exact h.nomark x q
  .rw[gr.mp q];exact L
theorem vM (x:α) (xs:List α):atI (x :: xs) 0=some x:=cE (j:=0) rfl
theorem DW {z:Str} {r:Int} {c:Nat} (B:fK z) (Y:er c=true) (Z:0<=r) (r1:r < z.length):fK (Is z none (some r)++(Str.mk #[c])++Is z (some (r+1)) none):=by
 obtain⟨n,rfl⟩:=A_ Z;have hn:n < z.length:=()
 have hl:=mB z;have e:(Is z none (some (n:Int))++(Str.mk #[c])++Is z (some ((n:Int)+1)) none).cps.toList=z.cps.toList.take n++[c]++z.cps.toList.drop (n+1):=by
  rw[lb,lb,oa,oa,HT.sIx_none,HT.sIx_nat,HT.sIx_none,show((n:Int)+1)=((n+1:Nat):Int) by omega,HT.sIx_nat,min_eq_left (),min_eq_left ()]
  rw[drop_zero,sub_zero,nH (i:=z.length - (n+1)) (by rw[length_drop,hl];omega)]
 have h8:=B.le;have F:(Is z none (some (n:Int))++(Str.mk #[c])++Is z (some ((n:Int)+1)) none).length=z.length:=by
  rw[<- mB,e];simp only[w4,Ju,length_drop,x4,length_nil,hl];omega
 refine⟨(),(),λx L=>?_⟩
 rw[e] at L;rcases j9.mp L with q | q
 .rcases j9.mp q with q | q
  .exact B.small x (JK q)
  .rw[gr.mp q];exact Y
 .exact B.small x (List.mem_of_mem_drop q)
theorem wL (cs:List Nat):(Txt.join (b_ "") (cs.map λc=>Str.mk #[c])).cps.toList=cs:=by
 rw[Bq]
 induction cs with
 | nil=>rfl
 | cons c cs B=>simp[B]
theorem CH (cs:List Nat):((cs.map λc=>Str.mk #[c]).map λx=>x.length).sum=cs.length:=by
 induction cs with
 | nil=>rfl
 | cons c cs B =>
  rw[i_,i_,List.sum_cons,B]
  show 1+cs.length=cs.length+1
  omega
def Du:V->Option Int->Option Int->Hp->VK->Prop:=λx lo hi H Q=>∃a,x = .ref a/\∃xs,H a>>xs/\∀p H',H' p>>(gR xs lo hi)->au H H'->Q (.ref p) H'
theorem qd:SlR X Du:=IK.imp λ_ _ _ _ _ B=>by obtain⟨a,e,xs,h,q⟩:=B;exact(⟨a,e,xs,h,λF=>q a _ (by rw[F];exact h) (au.refl _),λp hp=>q p _ ae (au.upd0 hp)⟩)
theorem yp (f:α->V) (xs:List α) (n:Nat):gR (xs.map f) none (some (n:Int))=(xs.take n).map f:=by
 unfold gR;rw[HT.sIx_none,HT.sIx_nat,drop_zero,sub_zero,d_,map_take]
 by_cases h:n<=xs.length
 .rw[min_eq_left h]
 .rw[Nat.min_eq_right (),nH (by simp),nH (by simp;omega)]
theorem iO (f:α->V) (xs:List α) (n:Nat):gR (xs.map f) (some (n:Int)) none=(xs.drop n).map f:=by
 unfold gR;rw[HT.sIx_none,HT.sIx_nat,d_,map_drop]
 by_cases h:n<=xs.length
 .rw[min_eq_left h,nH (by simp)]
 .rw[Nat.min_eq_right (),List.drop_of_length_le (l:=List.map f xs) (i:=n) (by simp;omega)]
  simp
theorem ED (x:α) (xs:List α):atI (x :: xs) 0=some x:=cE (j:=0) rfl
theorem Ia (x y:α) (xs:List α):atI (x :: y :: xs) 1=some y:=cE (j:=1) rfl
theorem IF (x y z:α) (xs:List α):atI (x :: y :: z :: xs) 2=some z:=cE (j:=2) rfl
theorem IL (x y z a:α) (xs:List α):atI (x :: y :: z :: a :: xs) 3=some a:=cE (j:=3) rfl
theorem IR (x y z a b:α) (xs:List α):atI (x :: y :: z :: a :: b :: xs) 4=some b:=cE (j:=4) rfl
theorem dB {a b:String}:(b_ a=b_ b)=(a=b):=by
 refine propext ⟨λh=>?_,λh=>by rw[h]⟩
 rw[Str.ofString_eq_toList,Str.ofString_eq_toList] at h;have h1:=congrArg (λs:Str=>s.cps.toList) h
 simp only[List.toList_toArray] at h1;have L : ∀(F B:List Char),F.map Char.toNat=B.map Char.toNat->F=B:=by
  intro F
  induction F with
  | nil=>intro B h;cases B with
   | nil=>rfl
   | cons a b=>cases h
  | cons a b Y=>intro B h;cases B with
   | nil=>cases h
   | cons c d =>
    rw[i_,i_,List.cons.injEq] at h;rw[Y d h.2,Char.toNat_inj.mp h.1]
 exact String.toList_injective (L _ _ h1)
theorem PG.imp {g g':TG} (h:PG X tg g) (i : ∀v σ H Q,g' v σ H Q->g v σ H Q):PG X tg g':=λpins s σ H v u Q I r q=>h pins s σ H v u Q I r (i _ _ _ _ q)
def wf (n:Nat) (t:TGs):TG:=λv σ H Q=>∃a,v = .ref a/\∃xs,H a>>xs/\xs.length=n/\t xs σ H Q
theorem gu {t:TGs} (L:X.calm=true) (h:PGs X es t)
  (Y:(Km es X.env).length=n:=by rfl) (F:(Km es X.env).findIdx? (·.1)=none:=by rfl):PG X (.Tuple es k pos) (wf n t) :=
 (EW L h Y F).imp λ_ _ _ _ B=>by obtain⟨a,e,xs,h,hl,q⟩:=B;exact(⟨a,xs,e,.of h,hl,q⟩)
theorem fK.lay {w:Str} (h:fK w):PyData.canLay0 (.str w)=true:=by
 show(w.cps.all (· < 0x110000))=true
 rw[Array.all_eq_true_iff_forall_mem];intro c B;have:=h.small c (by simpa using B)
 simp only[er,l_,decide_eq_true_eq] at this;exact decide_eq_true ()
theorem vi : ∀{ws:List Str},(∀w∈ws,fK w)->w9 (ws.map PyData.str)=true
 | [],_=>rfl
 | w :: ws,h=>by
  rw[i_,w9,(h w (by simp)).lay,vi λx B=>h x (by simp[B])]
  rfl
theorem qC : ∀(ws:List Str),Jj (ws.map PyData.str)=0
 | []=>rfl
 | w :: ws=>by
  rw[i_,Jj,KH,qC ws];rfl
def xx:List V->Hp->VK->Prop:=λxs H Q=>∃p,xs=[.ref p]/\∃kvs,H p<*kvs/\∀q,H q=none->Q (.ref q) (upd H q (.dK kvs))
theorem kL:bK X (.type "dict") xx:=by
 intro pins s σ H xs us Q I r h;obtain⟨p,rfl,kvs,hp,q⟩:=h;obtain⟨u,rfl,Z⟩:=dD r;cases Z;obtain⟨z,L,vs,B,Y⟩:=mJ I.hok hp;refine PySem.kt_call_dict L Y (by rw[<- B.length];exact z) λh' F sb=>?_
 have hold : ∀b o,s.heap.get? b=some o->h'.get? b=some o:=λb o e=>sb.extBut b o (mu (f_ e)) (c_ _ e)
 exact⟨.ref s.heap.objs.size,_,I.laid (a:=s.heap.objs.size) (o:=.dK kvs) (t':=s.toks) hold (i6 _) ⟨z,beq_eq_false_iff_ne.mpr (k_ (mu I.big)),vs,B,F⟩,rfl,q _ (I.hok.fresh (i6 _))⟩
def eP:V->Bool
 | .non=>true
 | .bl _=>true
 | .int _=>true
 | .str _=>true
 | .ref _=>true
 | _=>false
theorem Aw {v:V} {a b:Value} (F:eP v=true) (ra:bg v a) (B:bg v b):SeqAt.EqAt A s a b true:=by
 cases v with
 | non=>cases ra;cases B;exact SeqAt.EqAt.same _
 | bl b=>cases ra;cases B;exact SeqAt.EqAt.same _
 | int i =>
  obtain⟨t,rfl⟩:=ra;obtain⟨t',rfl⟩:=B;have h:=SeqAt.EqAt.int_int (A:=A) (s:=s) i t i t';simpa using h
 | str i =>
  obtain⟨t,rfl⟩:=ra;obtain⟨t',rfl⟩:=B;have h:=SeqAt.EqAt.str_str (A:=A) (s:=s) i t i t';simpa using h
 | ref a=>cases ra;cases B;exact SeqAt.EqAt.same _
 | _=>exact absurd (show false=true from F) j7
theorem qO {κ:Type} [DecidableEq κ] : ∀{kvs:List (κ × V)} {k:κ} {v:V},(kvs.map (·.1)).Nodup->(k,v)∈kvs->bJ kvs k=some v
 | (a,b) :: r,k,v,hn,hm=>by
  rw[i_,m7] at hn;rcases i7.mp hm with e | e
  .cases e
   exact bu rfl
  .have hne : ¬ a=k:=λz=>hn.1 (by subst z;exact i4.mpr ⟨(a,v),e,rfl⟩)
   rw[aW hne];exact qO hn.2 e
theorem sX (Y:KV kvs vb) : ∀{l:List (Key × V)} {F:List (Key × Value)},KV l F->(∀p∈l,bJ kvs p.1=some p.2/\eP p.2=true)->PySem.W.KeqHits A s vb F true:=by
 intro l F r;unfold KV at r
 induction r with
 | nil=>intro _;exact .nil
 | @cons p q ps qs h _ ih =>
  intro B;obtain⟨k,v⟩:=p;obtain⟨k',u⟩:=q;obtain⟨e,L⟩:=h;dsimp only at e L;subst e;obtain⟨h1,h2⟩:=B (k,v) (by simp)
  dsimp only at h1 h2;obtain⟨y,Z,ry⟩:=jc.some_of (v:=v) (o:=valueAt vb k) (by rw[<- h1];exact Y.val k)
  exact PySem.W.KeqHits.hit (e:=true) (b:=true) Z (Aw h2 L ry) (ih λp hp=>B p (by simp[hp]))
def AV:R2:=λx y H Q=>∃a,x = .ref a/\∃b,y = .ref b/\∃kvs,H a<*kvs/\H b<*kvs/\(∀p∈kvs,eP p.2=true)/\Q (.bl true) H
def AF:R2:=λx y H Q=>∃a,x = .ref a/\∃b,y = .ref b/\∃kvs,H a<*kvs/\H b<*kvs/\(∀p∈kvs,eP p.2=true)/\Q (.bl false) H
theorem Ef (hu:X.A.units < cLine):OpR X (t3 .Eq) AV:=by
 intro pins s σ H x y v u Q I rx ry h;obtain⟨a,rfl,b,rfl,kvs,ha,hb,hp,q⟩:=h;cases rx;cases ry;obtain⟨z,hd,vs,F,dd⟩:=mJ I.hok ha;obtain⟨z2,aa,ab,B,Z⟩:=mJ I.hok hb;have Y:(vs.map (·.1)).Nodup:=let ⟨_,_,_,_,_,_,_,_,Y⟩:=dd;Y
 rw[<- F.keys] at Y;refine PySem.W.keq_eq (r:=true) hd aa dd Z hu (λ_=>sX B F λp L=>⟨qO Y L,hp p L⟩) ?_
 rw[<- F.length,<- B.length,beq_self_eq_true];exact⟨.bl true,H,I,rfl,q⟩
theorem Dx (hu:X.A.units < cLine):OpR X (t3 .NotEq) AF:=by
 intro pins s σ H x y v u Q I rx ry h;obtain⟨a,rfl,b,rfl,kvs,ha,hb,hp,q⟩:=h;cases rx;cases ry;obtain⟨z,hd,vs,F,dd⟩:=mJ I.hok ha;obtain⟨z2,aa,ab,B,Z⟩:=mJ I.hok hb;have Y:(vs.map (·.1)).Nodup:=let ⟨_,_,_,_,_,_,_,_,Y⟩:=dd;Y
 rw[<- F.keys] at Y;refine PySem.W.keq_ne (r:=true) hd aa dd Z hu (λ_=>sX B F λp L=>⟨qO Y L,hp p L⟩) ?_
 rw[<- F.length,<- B.length,beq_self_eq_true];exact⟨.bl false,H,I,rfl,q⟩
def tW:RM:=λp vs H Q=>∃i,vs=[.int i]/\∃xs,H p*>xs/\0<=i/\i < xs.length/\xs.length<=1000/\∀y,xs[i.toNat]? = some y->Q y (upd H p (.lst (xs.eraseIdx i.toNat)))
theorem Br:MtL X "list.pop" tW:=λpins s σ H x vs v us Q I L F ⟨p,e,i,e2,xs,h,i0,i1,hl,q⟩=>by
 have B:i.toNat < xs.length:=()
 exact Cz pins s σ H x vs v us Q I L F ⟨p,xs,i,i.toNat,xs[i.toNat],e,e2,h,(),(),seqIndex_of i0 i1,by simp[B],q _ (by simp[B])⟩
def ah (mg:Str->Option Value) (x:Str):Addr:=match mg x with | some (.ref a)=>a | _=>0
theorem fo (h:mg x=-C):ah mg x=C:=by unfold ah;rw[h]
structure gJ (K:fy) (C:Addr) (m:Str) (f:Addr):Prop where
 sp:specialIn K (.ref C) "__getattribute__" = some (some (.builtin "type.__getattribute__"))
 rd:PySem.W.readsIn K C (.type "type")=true
 fd:PySem.W.findCls K (.ref C) (.type "type") m=some (.val (.ref f))
 kp:JM K (.ref f)=true
def bW (K:fy) (R:Addr->Prop) (x q:Str) (st:Stmt) (ps:List Str):Prop:=∃f fd,Fun K x q st f fd/\R f/\jD K fd ps []
def FnR (P:Program) (w:World) (K:fy) (mg:Str->Option Value) (base:Heap) (R:Addr->Prop) (k:Nat) (ps:List Str) (sp:Sp):Prop:=∃f fd,ji P w K mg base CX0 k f fd ps sp/\R f/\jD K fd ps []
section
variable {R:Addr->Prop}
theorem bW.ok {x q:Str} {st:Stmt} {N ps:List Str} {k:Nat} {sp:Sp} (F:bW K R x q st ps) (S:ay N ps (aj st)) (L : ∀vs H Q E,sp vs H Q E->vs.length=ps.length)
  (B : ∀(f:Addr) (cdv:Value) (A:Around) (outer:List Env) (s:Shared) (H:Hp) (vs:List V) (Q:VK) (E:XK),dg k (A.deeper (envOfC q (aj st) s.heap.objs.size f cdv))->sp vs H Q E ->
   ∃t,PSs (tM CX0 P w K mg base N q (aj st) f cdv A outer s H E).nox (cB st) t/\t { nx:=λ_ H'=>Q .non H',rt:=Q } (jl N vs) H):FnR P w K mg base R (k+1) ps sp:=by
 obtain⟨f,fd,F,r,b⟩:=F;exact⟨f,fd,F.ok S L (B f),r,b⟩
theorem Eb {q:Str} {B:Option Addr} {kV:Value} (r:R f)
  (l:K.lookup f=some ⟨oc,od,.func (fnOf x q (cZ st) (cB st) (aj st) .none kV doc pm B cdv ct),osl⟩)
  (c:codeIn K cdv q=true) (k:JM K (.ref f)=true)
  (F : ∀(kV doc pm:Value) (B:Option Addr) (cdv ct:Value) (us:List Value),us.length=ps.length->bindArgs (fnOf x q (cZ st) (cB st) (aj st) .none kV doc pm B cdv ct) ⟨us,[]⟩=pure (ps.zip us)):bW K R x q st ps :=
 ⟨f,_,qj l c k,r,(qj l c k).binds F⟩
end
def Ci (C:Addr) (ta:TE) (f:Str):TE:=λσ H Q=>ta σ H λx H1=>∃a,x = .ref a/\∃dx fs,H1 a=some (.ins C dx fs)/\∃v,fs.lookup f=some v/\Q v H1
def A8 (C:Addr) (ta tv:TE) (f:Str):TS:=λD σ H=>tv σ H λy H1=>ta σ H1 λx H2=>∃a,x = .ref a/\∃dx fs,H2 a=some (.ins C dx fs)/\fs.length < 1000/\D.nx σ (upd H2 a (.ins C dx (ck f y fs)))
def xB (C:Addr) (m:Str) (sp:Sp) (ta:TE) (t:TA):TE:=λσ H Q=>ta σ H λx H1=>∃a,x = .ref a/\∃dx fs,H1 a=some (.ins C dx fs)/\fs.lookup m=none/\t σ H1 λvs H2=>sp (.ref a :: vs) H2 Q E0
def xo (C:Addr) (sp:Sp) (t:TA):TE:=λσ H Q=>t σ H λvs H1=>∀x dx,H1 x=none->H1 dx=none->dx≠x->sp (.ref x :: vs) (upd (upd H1 dx (.own x)) x (.ins C dx [])) (λv H2=>v = .non/\Q (.ref x) H2) E0
section
variable {o:Expr} {f m:Str} {p:Pos} {t:TA}
theorem aM (c:Cls X.K C) (n:aN X.K C f) (he:PE X e ta) (hb:Kt e f X.env (eval e X.env)=eval e X.env:=by rfl):PE X (.Attribute e f pos) (Ci C ta f):=by
 intro pins s σ H Q I h;refine DD hb (thn (he pins s σ H _ I h) λu s1 B=>?_)
 obtain⟨x,H1,Z,Y,a,ex,dx,fs,F,v,l,q⟩:=B;subst ex;obtain rfl:u=j6 a:=Y
 exact wU Z F c n l λu' s2 L ru=>⟨v,H1,L,ru,q⟩
theorem bA (c:Cls X.K C) (n:aN X.K C f) (ha:PE X o ta) (hv:PE X value tv) (hs:KF value (some (.Attribute o f pos')) pos.line X.env=pure false):PS X (.Assign [.Attribute o f pos'] value pos) (A8 C ta tv f):=by
 intro pins s σ H D I h;refine plainObj_wpAny_Assign_Attribute (thn (hv pins s σ H _ I h) λu s1 ⟨y,H1,I1,ry,q⟩=>thn (ha pins s1 σ H1 _ I1 q) λZ s2 B=>?_) hs
 obtain⟨x,H2,L,Y,a,ex,dx,fs,F,l,q2⟩:=B;subst ex;obtain rfl:Z=j6 a:=Y
 exact xT L F c n l ry λs3 I3=>⟨σ,_,I3,q2⟩
theorem bS (c:Cls X.K C) (F:FnR X.prog X.w X.K X.mg X.base (aC X.K C m) k ps sp) (hr:dg k X.A) (he:PE X o ta) (ha:PA X (e :: es) t)
  (Y:j8 (e :: es) X.env=(false,eval e X.env) :: j8 es X.env:=by rfl) (L:(y8 pos (j8 es X.env)).any (·.1)=false:=by rfl)
  (ht:eval (.Call (.Attribute o m apos) (e :: es) [] pos) X.env=(do
   let ov <- eval o X.env
   standAt apos.atName
   let (f,first) <- holding [ov] (getMethod ov m pl)
   callWith pos f first (y8 pos (j8 (e :: es) X.env)) (backToKw pos (Kw [] X.env))):=by rfl) :
  PE X (.Call (.Attribute o m apos) (e :: es) [] pos) (xB C m sp ta t):=by
 obtain⟨f,fd,F,hm,b⟩:=F;intro pins s σ H Q I h;refine methodCall_KW (pl:=pl) (thn (he pins s σ H _ I h) λu s1 B=>?_) ht
 obtain⟨x,H1,Z,rx,a,ex,dx,fs,ea,l,q⟩:=B;subst ex;obtain rfl:u=j6 a:=rx
 refine qW Z ea c hm l ?_
 refine Kj (first:=[.ref a]) (h₀:=X.base) I.ok.mod.kin hm.kp (thn (ha pos pins s1 σ H1 _ Z q) λus s2 ⟨vs,H2,I2,r,q2⟩=>⟨I2.kIn,?_⟩) Y L
 exact kT (us:=.ref a :: us) (vs:=.ref a :: vs) F hr b .nil pb I2 (.cons rfl r) (by rw[append_nil];exact q2)
theorem gN (F:FnR X.prog X.w X.K X.mg X.base (Mk X.K C) k ps sp) (Z:dg (k+1) X.A) (hg:Gl X x) (hm:X.mg x=-C)
  (ha:PA X (e :: es) t) (B:(x ==("__debug__" : Str))=false:=by decide) (Y:j8 (e :: es) X.env=(false,eval e X.env) :: j8 es X.env:=by rfl) (L:(y8 pos (j8 es X.env)).any (·.1)=false:=by rfl) :
  PE X (.Call (.Name x p) (e :: es) [] pos) (xo C sp t):=by
 obtain⟨f,fd,F,M,b⟩:=F;intro pins s σ H Q I h;refine x5 (lT I hg hm ?_ B)
 refine Kj (h₀:=X.base) I.ok.mod.kin M.kp (thn (ha pos pins s σ H _ I h) λus s1 ⟨vs,H1,I1,r,q⟩=>⟨I1.kIn,?_⟩) Y L
 refine AQ M F Z b .nil pb I1 r ?_
 rw[append_nil];exact q
theorem iR (F:FnR X.prog X.w X.K X.mg X.base (gJ X.K C m) k ps sp) (hr:dg k X.A) (hg:Gl X x) (hm:X.mg x=-C) (ha:PA X (e :: es) t) (L:(x ==("__debug__" : Str))=false:=by decide)
  (aa:j8 (e :: es) X.env=(false,eval e X.env) :: j8 es X.env:=by rfl) (Z:(y8 pos (j8 es X.env)).any (·.1)=false:=by rfl)
  (ht:eval (.Call (.Attribute (.Name x p) m apos) (e :: es) [] pos) X.env=(do
   let ov <- eval (.Name x p) X.env
   standAt apos.atName
   let (f,first) <- holding [ov] (getMethod ov m pl)
   callWith pos f first (y8 pos (j8 (e :: es) X.env)) (backToKw pos (Kw [] X.env))):=by rfl) :
  PE X (.Call (.Attribute (.Name x p) m apos) (e :: es) [] pos) (rX sp [] E0 t):=by
 obtain⟨f,fd,F,M,b⟩:=F;intro pins s σ H Q I h;have hC:PE X (.Name x p) (tC (.ref C)):=gl hg hm rfl L
 refine methodCall_KW (pl:=pl) (thn (hC pins s σ H (λv H1=>v = .ref C/\H1=H) I ⟨rfl,rfl⟩) λu s1 B=>?_) ht
 obtain⟨x,H1,Y,rx,ex,eH⟩:=B;subst ex;subst eH;obtain rfl:u=j6 C:=rx
 refine PySem.W.method_cls Y.kIn M.sp (PySem.W.cls_value Y.kIn M.rd M.fd rfl ?_)
 have I2:=Y.tok (s1.toks+1);refine Kj (first:=[]) (h₀:=X.base) I.ok.mod.kin M.kp (thn (ha pos pins _ σ H1 _ I2 h) λus s2 ⟨vs,H2,I3,r,q2⟩=>⟨I3.kIn,?_⟩) aa Z
 exact kT F hr b .nil pb I3 r q2
end
def Hx (B:ScopeKind) (A xs:List (Str × y9)):List (Str × y9):=xs.map λ(n,k)=>if (k == .free && B == .function && A.lookup n == some .cell) then(n,.cell) else(n,k)
section
variable {l:Expr} {tl:TE}
theorem gG (K:fy) (hl:PE X l tl) (hK:X.K=K:=by exact rfl):PI X tg l (iL K tl):=by subst hK;exact IG hl
theorem bT (K:fy) (hl:PE X l tl) (hK:X.K=K:=by exact rfl):PI X tg l (iT K tl):=by subst hK;exact ID hl
def BA:List V->Hp->VK->Prop:=λxs H Q=>∃p,xs=[.ref p]/\∃bs:List Bool,H p*>(bs.map V.bl)/\Q (.bl (bs.all id)) H
def AA:List V->Hp->VK->Prop:=λxs H Q=>∃p,xs=[.ref p]/\∃bs:List Bool,H p*>(bs.map V.bl)/\Q (.bl (bs.any id)) H
theorem jZ (F:X.calm=true):bK X (.builtin "all") BA:=(xg F).imp λ_ _ _ B=>by obtain⟨p,e,bs,h,q⟩:=B;exact(⟨p,bs,e,.of h,q⟩)
theorem gy (F:X.calm=true):bK X (.builtin "any") AA:=(xy F).imp λ_ _ _ B=>by obtain⟨p,e,bs,h,q⟩:=B;exact(⟨p,bs,e,.of h,q⟩)
end
theorem eE (f:Str) (v:V) : ∀fs:List (Str × V),(ck f v fs).length<=fs.length+1
 | []=>i6 _
 | (g,u) :: fs=>by
  unfold ck
  split
  .simp
  .simpa using eE f v fs
theorem db {C:Hp->Prop} (w:Wlk J xs C) {tc:TT} {te:TE} {σ0:St} {Q:VK} {H1:Hp} {D:Addr} (p:V->Bool) (f:V->V) (hD:H1 D=none) (hC : ∀H',au H1 H'->C H') (hn:xs.length<=1000)
  (hc : ∀(x:V) (H2:Hp) (F:Bool->Hp->Prop),x∈xs->au H1 H2->(∀B,au H2 B->F (p x) B)->tc (σ0.set 0 (some x)) H2 F)
  (he : ∀(x:V) (H2:Hp) (F:VK),x∈xs->p x=true->au H1 H2->(∀B,au H2 B->F (f x) B)->te (σ0.set 0 (some x)) H2 F)
  (Y : ∀H2,au H1 H2->H2 D*>((xs.filter p).map f)->Q (.ref D) H2):mt J σ0 (gi 0) tc te Q H1 D:=by
 refine dG w (λi ys H=>ys=((xs.take i).filter p).map f/\i<=xs.length/\au H1 H/\H D*>ys) ⟨by simp,y6 _,au.upd0 hD,ae⟩ (λi ys H h=>hC _ h.2.2.1) ?_ ?_
 .rintro i x ys H hi hx ⟨rfl,hle,sm,Y⟩
  refine hc x H _ (g7 hx) sm λB L=>?_
  have Z:((xs.take i).filter p).length<=xs.length:=i8 (List.length_filter_le _ _) (by simp;omega)
  cases hp:p x with
  | true =>
   simp only[if_true];refine he x B _ (g7 hx) hp (sm.trans L) λH4 s4=>⟨s4 _ _ (L _ _ Y),by simp;exact aK (),?_,hi,?_,ae⟩
   .rw[ki,hx];simp[hp]
   .exact λb o e=>by rw[ag (ap e hD)];exact s4 _ _ (L _ _ (sm b o e))
  | false =>
   simp only[h9,if_false];exact⟨by rw[ki,hx];simp[hp],hi,sm.trans L,L _ _ Y⟩
 .rintro ys H ⟨rfl,_,sm,hd'⟩
  rw[m_] at hd';exact Y H sm hd'
theorem ci {C:Hp->Prop} (w:Wlk J xs C) {te:TE} {σ0:St} {Q:VK} {H1:Hp} {D:Addr} (f:V->V) (Z:H1 D=none) (hC : ∀H',au H1 H'->C H') (hn:xs.length<=10000)
  (he : ∀(x:V) (H2:Hp) (F:VK),x∈xs->au H1 H2->(∀L,au H2 L->F (f x) L)->te (σ0.set 0 (some x)) H2 F)
  (B : ∀H2,au H1 H2->H2 D*>(xs.map f)->Q (.ref D) H2):mt J σ0 (gi 0) wD te Q H1 D:=by
 refine dG w (λi ys H=>ys=(xs.take i).map f/\i<=xs.length/\au H1 H/\H D*>ys) ⟨by simp,y6 _,au.upd0 Z,ae⟩ (λi ys H h=>hC _ h.2.2.1) ?_ ?_
 .rintro i x ys H hi hx ⟨rfl,hle,sm,B⟩
  simp only[gi,wD,if_true];refine he x H _ (g7 hx) sm λH4 Y=>⟨Y _ _ B,by simp;exact rb (i8 (Nat.min_le_right _ _) hn) ∅,?_,hi,?_,ae⟩
  .rw[ki,hx];simp
  .exact λb o e=>by rw[ag (ap e Z)];exact Y _ _ (sm b o e)
 .rintro ys H ⟨rfl,_,sm,hd'⟩
  rw[m_] at hd';exact B H sm hd'
theorem DS (a b:Int):eqV (.int a) (.int b)=decide (a=b):=by
 show(a == b)=decide (a=b)
 rw[n9];simp
theorem df (x:Int) (ys:List Int):inV (.int x) (ys.map V.int)=decide (x∈ys):=by
 rw[n9];simp only[inV,any_map,x_,Function.comp,DS,decide_eq_true_eq]
 constructor
 .rintro⟨y,hy,rfl⟩;exact hy
 .exact λh=>⟨x,h,rfl⟩
theorem cj (ys:List Int):(ys.map V.int).all gP=true:=by
 rw[y_];intro x B;obtain⟨y,_,rfl⟩:=i4.mp B;rfl
theorem yD (x:Bool) (ys:List Bool):inV (.bl x) (ys.map V.bl)=decide (x∈ys):=by
 rw[n9];simp only[inV,any_map,x_,Function.comp,decide_eq_true_eq]
 constructor
 .rintro⟨y,hy,h⟩
  have h:(y == x)=true:=h
  rw[<- eq_of_beq h];exact hy
 .exact λh=>⟨x,h,by show(x == x)=true;simp⟩
theorem vF (ys:List Bool):(ys.map V.bl).all gP=true:=by
 rw[y_];intro x B;obtain⟨y,_,rfl⟩:=i4.mp B;rfl
theorem qz {α:Type} : ∀{l:List α} {n:Nat} (h:n < l.length),(l[n] :: l.eraseIdx n).Perm l
 | a :: l,0,h=>by simp
 | a :: l,n+1,h=>by
  have h':n < l.length:=by simpa using h
  have:=qz h'
  simp only[List.getElem_cons_succ,List.eraseIdx_cons_succ];exact(List.Perm.swap _ _ _).trans (List.Perm.cons a this)
theorem fM {α:Type} : ∀{l:List α} {i j:Nat} {x:α},l.Nodup->l[i]? = some x->l[j]? = some x->i=j
 | [],i,j,x,_,h,_=>by simp at h
 | a :: l,0,0,x,_,_,_=>rfl
 | a :: l,0,j+1,x,hn,h,h'=>by
  simp at h h'
  subst h;exact absurd (g7 h') (m7.mp hn).1
 | a :: l,i+1,0,x,hn,h,h'=>by
  simp at h h'
  subst h';exact absurd (g7 h) (m7.mp hn).1
 | a :: l,i+1,j+1,x,hn,h,h'=>by
  simp at h h'
  rw[fM (m7.mp hn).2 h h']
def HY:TE:=λ_ _ _=>False
theorem Cf:PE X e HY:=λ_ _ _ _ _ _ h=>h.elim
def ic (ns:List Int):Nat:=(ns.foldl JS []).length
theorem nC : ∀(ns σ:List Int),σ.Nodup->(ns.foldl JS σ).length<=σ.length+ns.length/\((ns.foldl JS σ).length=σ.length+ns.length↔(σ++ns).Nodup)
 | [],σ,h=>by simp[h]
 | v :: ns,σ,h=>by
  rw[List.foldl_cons]
  by_cases B:σ.any (· == v)=true
  .have e:JS σ v=σ:=by unfold JS;rw[if_pos B]
   have F:v∈σ:=by
    obtain⟨x,hx,e⟩:=x_.mp B;rw[<- eq_of_beq e];exact hx
   rw[e];have L:=nC ns σ h;refine⟨by simp;omega,?_⟩
   constructor
   .intro z;simp at z;omega
   .intro z
    rw[t_] at z;exact absurd rfl (z.2.2 v F v (by simp))
  .have e:JS σ v=σ++[v]:=by unfold JS;rw[if_neg B]
   have F:v∉σ:=λz=>B (x_.mpr ⟨v,z,by simp⟩)
   have Y:(σ++[v]).Nodup:=by
    rw[t_];exact⟨h,by simp,λa ha b Z=>by rw[gr.mp Z];rintro rfl;exact F ha⟩
   rw[e];have L:=nC ns (σ++[v]) Y;have el:(σ++[v]).length+ns.length=σ.length+(v :: ns).length:=by simp;omega
   rw[el,append_assoc] at L;exact L
theorem si (ns:List Int):ic ns=ns.length↔ns.Nodup:=by
 have:=(nC ns [] (by simp)).2
 simpa [ic] using this
theorem wb (ns:List Int):(range ns.length).map (λi=>ns.getD i 0)=ns:=by
 apply List.ext_getElem?
 intro i
 by_cases h:i < ns.length
 .simp[h]
 .simp[h]
section
def By:List V->Hp->VK->Prop:=λxs H Q=>∃p,xs=[.ref p]/\∃ns:List Int,H p*>(ns.map V.int)/\ns.length<=1000/\∀q S,H q=none->Q (.ref q) (upd H q (.set S (ic ns)))
theorem Al (Z:X.calm=true):bK X (.type "set") By:=by
 intro pins s σ H xs us Q I r h;obtain⟨p,rfl,ns,hp,hl,q⟩:=h;obtain⟨u,rfl,ru⟩:=dD r;cases ru;obtain⟨its,F,pl,hz⟩:=I.list (SqL.of hp);have B:=F.length;rw[d_] at B;refine call_set_list (I.ok.hd Z) pl.isList (by simpa using eK F) (by simp only[j_];show its.length+1 < 4096;omega) λh' tk Y hold=>?_
 have e:firstMet (λi=>ns.getD i 0) its.toArray.size=ns.foldl JS []:=by
  unfold firstMet;rw[j_,<- B,wb]
 rw[e] at Y;exact⟨.ref s.heap.objs.size,_,I.laid (a:=s.heap.objs.size) (o:=.set _ (ic ns)) (t':=tk) (λb o L=>hold b o (f_ L) L) (i6 _) Y,rfl,q _ _ (I.hok.fresh (i6 _))⟩
def uz:List V->Hp->VK->Prop:=λxs H Q=>∃p,xs=[.ref p]/\∃S n,H p=some (.set S n)/\Q (.int n) H
theorem oE:bK X (.builtin "len") uz:=by
 intro pins s σ H xs us Q I r h;obtain⟨p,rfl,S,n,hp,q⟩:=h;obtain⟨u,rfl,ru⟩:=dD r;cases ru;have F:s.heap.SetOf (intKind X.prog X.w) p S n:=I.hok p _ hp
 obtain⟨o,es,ep,t,Y,B,L,_,_,hb,hf,Z⟩:=F;refine PySem.call_len_set Y B L hf (by have:scanBound=4096:=rfl;omega) ?_
 rw[Z];exact⟨.int n,H,I.tok _,⟨_,rfl⟩,q⟩
def Gb (ty td:TE):TE:=λσ H Q=>ty σ H λy H1=>td σ H1 λx H2=>∃a,x = .ref a/\∃k,y=kV k/\∃kvs,H2 a<*kvs/\Q (.bl (!(bJ kvs k).isSome)) H2
variable {o i:Expr}
theorem D0 (hu:X.A.units+1 < cLine) (hi:PE X i ty) (Z:PE X o td):PC X .In i o (tDI ty td):=by
 intro pins s σ H Q I h;refine thn (hi pins s σ H _ I h) λiv s1 ⟨y,H1,I1,ry,q1⟩=>thn (Z pins s1 σ H1 _ I1 q1) λu s2 B=>?_
 obtain⟨x,H2,F,L,a,ex,k,ey,kvs,Y,q2⟩:=B;subst ex;subst ey;obtain rfl:u=j6 a:=L
 have g:kN H2 a (kV k) (bJ kvs k):=.inl ⟨kvs,k,.inl Y,rfl,rfl⟩
 exact Iy hu F g ry λs3 I3=>⟨.bl (bJ kvs k).isSome,H2,I3,rfl,q2⟩
theorem iG (hu:X.A.units+1 < cLine) (hi:PE X i ty) (Z:PE X o td):PC X .NotIn i o (Gb ty td):=by
 intro pins s σ H Q I h;refine thn (hi pins s σ H _ I h) λiv s1 ⟨y,H1,I1,ry,q1⟩=>thn (Z pins s1 σ H1 _ I1 q1) λu s2 B=>?_
 obtain⟨x,H2,F,L,a,ex,k,ey,kvs,Y,q2⟩:=B;subst ex;subst ey;obtain rfl:u=j6 a:=L
 have g:kN H2 a (kV k) (bJ kvs k):=.inl ⟨kvs,k,.inl Y,rfl,rfl⟩
 exact yR hu F g ry λs3 I3=>⟨.bl (!(bJ kvs k).isSome),H2,I3,rfl,q2⟩
end
theorem Inv.retag (I:Inv X pins σ H s) (ha:H a=some u0) (n1 : ∀y,u0≠.own y) (Z : ∀xs,u0≠.tup xs) (n3 : ∀ob u,X.H₀ a≠some (.frz ob u)) (n4 : ∀ps,u0≠.tbl ps)
  (ok:bC X.prog X.w H s.heap a o') (n5 : ∀ob y,u0≠.frz ob (.own y):=by intro _ _ z;cases z):Inv X pins σ (upd H a o') s:=by
 have B : ∀b,H b=none->b≠a:=λb n z=>by subst z;rw[ha] at n;cases n
 have L : ∀b y,H b=some (.own y)->upd H a o' b=some (.own y):=λb y e=>by
  rw[ag (λz=>by subst z;rw[ha] at e;exact n1 y (ge e))];exact e
 have F : ∀b xs,H b>>xs->upd H a o' b>>xs:=λb xs e=>by
  rw[ag (λz=>by subst z;rw[ha] at e;exact Z xs (ge e))];exact e
 have Y : ∀b ob y,H b=some (.frz ob (.own y))->upd H a o' b=some (.frz ob (.own y)):=λb ob y e=>by
  rw[ag (λz=>by subst z;rw[ha] at e;exact n5 ob y (ge e))];exact e
 refine⟨I.ok,I.os,I.bare,⟨I.base.keep,I.base.slot,λb o q n hx=>?_,I.base.there,λb xs q=>F b xs (I.base.tups b xs q),λb ob u q=>?_,λb ps q=>?_⟩,I.loc,I.cell,?_,λx c e=>?_,λp hp=>?_,λb u e=>?_,I.len⟩
 .have:=I.base.free b o q n hx
  rw[ag (B b this)];exact this
 .rw[ag (λz=>by subst z;exact n3 ob u q)];exact I.base.frzs b ob u q
 .obtain⟨more,e⟩:=I.base.tbls b ps q
  exact⟨more,by rw[ag (λz=>by subst z;rw[ha] at e;exact n4 _ (ge e))];exact e⟩
 .rw[ag (B _ I.free)];exact I.free
 .have:=I.freeC x c e
  rw[ag (B c this)];exact this
 .obtain⟨p1,p2,p3⟩:=I.pin p hp
  exact⟨p1,by rw[ag (B _ p2)];exact p2,p3⟩
 .by_cases hb:b=a
  .subst hb
   rw[ae] at e;cases e;exact ok.stay (λ_ _ _ q=>q) (λc q=>L c _ q) F Y
  .rw[ag hb] at e
   exact(I.hok b u e).stay (λ_ _ _ q=>q) (λc q=>L c _ q) F Y
def Itd (a:Addr) (o:Obj) (kvs:List (Key × V)):It :=
 ⟨λi H=>H a=some (.frz o (.dK kvs))/\i < kvs.length,λi H x H'=>H'=H/\∃k v,kvs[i]? = some (k,v)/\x=kV k,λi H=>H a=some (.frz o (.dK kvs))/\kvs.length<=i⟩
theorem KV.get {vs:List (Key × Value)} (r:KV kvs vs) : ∀{i:Nat} {k:Key} {v:V},kvs[i]? = some (k,v)->∃u,vs[i]? = some (k,u)/\bg v u:=by
 unfold KV at r
 induction r with
 | nil=>intro i k v h;simp at h
 | @cons p q ps qs h _ ih =>
  intro i k v e;cases i with
  | zero =>
   simp at e
   subst e;obtain⟨B,u⟩:=q;obtain⟨h1,h2⟩:=h;dsimp only at h1 h2;subst h1;exact⟨u,by simp,h2⟩
  | succ i =>
   simp at e
   obtain⟨u,h1,h2⟩:=ih e;exact⟨u,by simpa using h1,h2⟩
theorem DX {k:Key} {B:Value} (h:(bo P w).is k B=true):bg (kV k) B:=by
 rcases bL (k:=k) (v:=B) h with⟨i,t,rfl,rfl⟩ | ⟨x,t,rfl,rfl⟩
 .exact⟨t,rfl⟩
 .exact⟨t,rfl⟩
theorem Eg (a it:Addr) (o:Obj) (kvs:List (Key × V)) (ep:Nat) (af : ∃es,o.data = .dict es ep):uF P w K tg (Itd a o kvs) [it] it (λi h=>h.IsKeyIter it a i kvs.length ep) where
 mem:=by simp
 obj:=λi h st b hb=>by
  have e:b=it:=by simpa using hb
  subst e;obtain⟨ob,e,c,d⟩:=st;exact⟨ob,e,λv z=>by rw[d] at z;cases z⟩
 keep:=λi h h' st k=>st.at λob e=>k it (by simp) ob e
 item:=by
  intro X hP hw hK hc i pins s σ H E I hf st hg;subst hP hw hK;obtain⟨ha,hi⟩:=hg;obtain⟨ho,hz,hd,vs,Y,od,es,F,L,hr⟩:=(show s.heap.get? a=some o/\bC X.prog X.w H s.heap a (.dK kvs) from I.hok a _ ha)
  rw[ho] at L;cases L;obtain⟨ah,Z⟩:=af;have ac:F=ep:=by
   have:=hr.2.1
   rw[Z] at this;cases this;rfl
  subst ac;have B:=Y.length;obtain⟨k,v,ad⟩ : ∃k v,kvs[i]? = some (k,v):=⟨kvs[i].1,kvs[i].2,by simp[hi]⟩
  obtain⟨u,hu,ru⟩:=Y.get ad;obtain⟨f0,f1,f2,f3,f4,f5⟩:=hf it (by simp)
  have ab:s.heap.IsKeyIter it a i vs.length F:=by rw[<- B];exact st
  refine wpAny_pyNext_dict_item (knd:=bo X.prog X.w) (v:=u) ab ⟨o,es,ho,hr⟩ hu λag h' hk aa sb=>?_
  have I1:Inv X pins σ H { s with heap:=h' }:=I.turned (t':=s.toks) (λb ob hb e=>(sb.2 b hb).trans e) f0 f1 f3 f4 f5
  rw[<- B] at aa;obtain⟨ob,e,c,d⟩:=id aa;exact⟨ag,rfl,sk (s:={ s with heap:=h' }) e c d ∅ ⟨kV k,H,I1,DX hk,⟨rfl,k,v,ad,rfl⟩,aa,λb hb=>(hf b hb).1⟩⟩
 done:=by
  intro X hP hw hK hc i pins s σ H E I hf st hg;subst hP hw hK;obtain⟨ha,hi⟩:=hg;obtain⟨ho,hz,hd,vs,Y,od,es,F,L,hr⟩:=(show s.heap.get? a=some o/\bC X.prog X.w H s.heap a (.dK kvs) from I.hok a _ ha)
  rw[ho] at L;cases L;obtain⟨ah,Z⟩:=af;have ac:F=ep:=by
   have:=hr.2.1
   rw[Z] at this;cases this;rfl
  subst ac;have B:=Y.length;obtain⟨f0,f1,f2,f3,f4,f5⟩:=hf it (by simp)
  have ab:s.heap.IsKeyIter it a i vs.length F:=by rw[<- B];exact st
  exact wpAny_pyNext_dict_end (knd:=bo X.prog X.w) (I.ok.hd hc) ab ⟨o,es,ho,hr⟩ (w5.mpr ()) λh' eb=>⟨rfl,I.turned (t':=s.toks) (λb ob hb e=>eb b ob hb e) f0 f1 f3 f4 f5⟩
 self:=λ_ _ _ _ _ st h=>wpAny_pyIter_keyiter st h
theorem EV {o:Obj}:Wlk (Itd a o kvs) (kvs.map λx=>kV x.1) (λH=>H a=some (.frz o (.dK kvs))) :=
 ⟨λi H h hi=>⟨h,by simpa using hi⟩,λi H x H' h _ y=>by
  obtain⟨e,k,v,B,rfl⟩:=y;exact⟨by rw[fx,B];rfl,e⟩,λi H h hi=>⟨h,by simpa using hi⟩⟩
def iD (tl:TE):TI:=λσ H R=>tl σ H λx H1=>∃a,x = .ref a/\∃kvs,H1 a<*kvs/\∀o,R (Itd a o kvs) (upd H1 a (.frz o (.dK kvs)))
theorem IH {l:Expr} {tl:TE} (hl:PE X l tl):PI X tg l (iD tl):=by
 intro pins s σ H R I h;refine thn (hl pins s σ H _ I h) λv L B=>?_
 obtain⟨x,H1,Y,r1,a,e,kvs,Z,q⟩:=B;subst e;cases r1;obtain⟨hz,hd,vs,ad,od,es,ep,ab,hr⟩:=mJ Y.hok Z;refine wpAny_pyIter_dict (knd:=bo X.prog X.w) hd ⟨od,es,ab,hr⟩ ?_
 have hn : ∀ob u,X.H₀ a≠some (.frz ob u):=λob u e=>by have:=Y.base.frzs a ob u e;rw[Z] at this;cases this
 have I2:Inv X pins σ H1 { L with heap:=L.heap.push { cls:=.type "dict_keyiterator",data:=.fields #[.ref a,.int 0 0,.int vs.length 0,.int ep 0] } }:=Y.kept (t':=L.toks) λb o e=>c_ _ e
 have ac:=I2.hok a _ Z;have I3:=I2.retag (o':=.frz od (.dK kvs)) Z (by intro y z;cases z) (by intro y z;cases z) hn (by intro y z;cases z) ⟨c_ _ ab,ac⟩
 have aa:=ad.length;refine⟨L.heap.objs.size,[L.heap.objs.size],_,_,_,rfl,I3,Eg a _ od kvs ep ⟨es,hr.2.1⟩,⟨_,gt _ rfl,rfl,by rw[aa];rfl⟩,λb hb=>?_,q od⟩
 have e:b=L.heap.objs.size:=by simpa using hb
 subst e;have F:H1 L.heap.objs.size=none:=Y.hok.fresh (i6 _)
 obtain⟨f0,f1,f2,f3,f4,f5⟩:=Y.fpOk (i6 _) F;exact⟨by rw[ag (λz=>by rw[z,Z] at F;cases F)];exact F,f1,f2,f3,f4,f5⟩
def Ho (a:Addr) (kvs:List (Key × V)) (D:pA):pA where
 nx:=λσ H=>(∃o,H a=some (.frz o (.dK kvs)))/\D.nx σ (upd H a (.dK kvs))
 rt:=λv H=>(∃o,H a=some (.frz o (.dK kvs)))/\D.rt v (upd H a (.dK kvs))
 bk:=λσ H=>(∃o,H a=some (.frz o (.dK kvs)))/\D.bk σ (upd H a (.dK kvs))
 ct:=λσ H=>(∃o,H a=some (.frz o (.dK kvs)))/\D.ct σ (upd H a (.dK kvs))
def HQ (t:TS):TS:=λD σ H=>∃a kvs,H a<*kvs/\t (Ho a kvs D) σ H
theorem DA {t:TS} (h:PS X st t):PS X st (HQ t):=by
 intro pins s σ H D I ⟨a,kvs,ha,ht⟩;have Y : ∀ob u,X.H₀ a≠some (.frz ob u):=λob u e=>by have:=I.base.frzs a ob u e;rw[ha] at this;cases this
 have B : ∀{σ' H' s'},Inv X pins σ' H' s'->(∃o,H' a=some (.frz o (.dK kvs)))->Inv X pins σ' (upd H' a (.dK kvs)) s':=λ{σ' H' s'} F ⟨o,e⟩ =>
  F.retag e (by intro y z;cases z) (by intro y z;cases z) Y (by intro y z;cases z) (show s'.heap.get? a=some o/\bC X.prog X.w H' s'.heap a (.dK kvs) from F.hok a _ e).2
 refine thn (h pins s σ H _ I ht) λf s' L=>?_
 cases f with
 | next=>obtain⟨σ',H',F,e,q⟩:=L;exact⟨σ',_,B F e,q⟩
 | brk=>obtain⟨σ',H',F,e,q⟩:=L;exact⟨σ',_,B F e,q⟩
 | cont=>obtain⟨σ',H',F,e,q⟩:=L;exact⟨σ',_,B F e,q⟩
 | ret u=>obtain⟨v,σ',H',F,r,e,q⟩:=L;exact⟨v,σ',_,B F e,r,q⟩
end L2
namespace PySem
open PyProof.Rows
theorem xA:isSubtype (.type "tuple") (.type "frozenset")=pure false:=by rw[Kb];kernel_rfl
theorem xL {t:Addr} {its:Array Value} (hA:A.handled=none) (ht:s.heap.IsTuple t its) (an:KI its.toList ns) (ac:its.size+1 < scanBound)
  (aq : ∀(h':Heap) (tk:Nat),h'.SetOf (intKind prog w) s.heap.objs.size (λk'=>(firstMet (λi=>ns.getD i 0) its.size).any (· == k')) (firstMet (λi=>ns.getD i 0) its.size).length->(∀b o,b < s.heap.objs.size->s.heap.get? b=some o->h'.get? b=some o)->Q (.ref s.heap.objs.size) { s with heap:=h',toks:=tk }) :
  wpAny (model prog w) A (call (.type "set") [.ref t]) Q E s:=by
 have TC:=F.called_set;obtain⟨_,_,ax⟩:=TC.mro;have am:=TC.made;have ay:=TC.sub;have h1:=TC.notType;have h2:=TC.canCreate;have a3:=F.typeCall_set_1 (.ref t);refine wpAny_call (codeAny_of_tree (show wpAny _ _ (callAny (.type "set") _) _ _ _ from e_ ⟨Code.quiet_builtin _ (by decide+kernel),KB F.entry_type_call ?_⟩))
 rw[Around.under_plain (weight_type_call_type "set" [.ref t] []) rfl]
 repeat (any_goals (first | assumption | wp_step))
 refine KG (code_set_new_1 (.ref t) (E:=E) (Q₁:=λobj s₁=>∃L:Bool,obj = .ref s.heap.objs.size/\s₁={ s with heap:=s.heap.push ⟨.type "set",none,.set #[] 0 (.fresh 0 0 L),#[]⟩ }) λL=>⟨L,rfl,rfl⟩) λr s₁ hr=>?_
 cases r with
 | error e=>exact hr
 | ok fl =>
  cases fl with
  | ret obj =>
   obtain⟨L,rfl,rfl⟩:=hr;generalize hG:s.heap.push ⟨.type "set",none,.set #[] 0 (.fresh 0 0 L),#[]⟩=G;have ab:G.objs.size=s.heap.objs.size+1:=by rw[<- hG,o8]
   have hS:G.get? s.heap.objs.size=some ⟨.type "set",none,.set #[] 0 (.fresh 0 0 L),#[]⟩:=by rw[<- hG];exact gt _ rfl
   have hold : ∀b o,s.heap.get? b=some o->G.get? b=some o:=λb o e=>by rw[<- hG];exact c_ _ e
   have hT:Shared.TypeIs { s with heap:=G } (.ref s.heap.objs.size) "set" :=⟨_,hS,rfl⟩
   have a2:=TC.init.lookup;have a4:=TC.init.bind (.ref s.heap.objs.size)
   repeat (any_goals (first | assumption | wp_step))
   refine KG (codeAny_call_builtin (R:=wants (λr Z=>r = .none/\∃h' tk,Z={ s with heap:=h',toks:=tk }/\h'.SetOf (intKind prog w) s.heap.objs.size (λk'=>(firstMet (λi=>ns.getD i 0) its.size).any (· == k')) (firstMet (λi=>ns.getD i 0) its.size).length/\(∀b o,b < s.heap.objs.size->s.heap.get? b=some o->h'.get? b=some o)) E) TC.init.plain F.entry_set_init (check_set_init_1 hT ?_)) λai Z B=>?_
   .have ht1:G.IsTuple t its:=ht.at λo e=>hold t o e
    obtain⟨⟨tc,td,az,a5⟩,a1,af,nl,ag⟩:=id ht1;dsimp only at af ag;subst af ag;have a0:(y2 "tuple" == y2 "dict")=false:=∅
    have ad:t < s.heap.objs.size:=by obtain⟨o,e,_⟩:=ht;exact f_ e
    have aw:=F.sub_tuple_set;have ar:=xA;unfold Builtin.«set.__init__» noKeywords Builtin.Frozenset.updateFrom;generalize ak:pyIter=PI
    wp_walk
    rw[<- ak];have aj:t≠G.objs.size:=by rw[ab];exact mu (Ks ad)
    have ah:s.heap.objs.size≠G.objs.size:=by rw[ab];exact mu (G_ _)
    have Wt:=Walks.tuple (prog:=prog) (w:=w) (A:=A.in1.in1.in1) (by simp[hA]) G.objs.size t aj its
    have ao:s.heap.objs.size∉[G.objs.size,t]:=by
     intro z;rcases i7.mp z with z | z
     .exact ah z
     .exact absurd (gr.mp z) (sn ad)
    refine u5 ht1 (a_ (wpAny_runValue ?_))
    refine codeAny_set_update_loopS Wt.toS _ ao (λi=>ns.getD i 0) (λi v hv=>IntsAre.int_at an i v (by rw[Array.getElem?_toList];exact hv)) ac (its.size - 0) 0 _ rfl (y6 _) ⟨⟨_,gt _ rfl,rfl,rfl⟩,ht1.at λo e=>c_ _ e⟩ ?_ λs' mv Y=>?_
    .exact SetOf_congr ((setObjOf_fresh (knd:=intKind prog w) L).setOf (c_ _ hS) (by unfold scanBound;omega)) (λ_=>rfl) rfl
    .have eq:=Moved.eq_with mv
     rw[eq] at Y ⊢;refine e_ (show wpAny _ _ (ret w6) _ _ _ from e_ ⟨rfl,s'.heap,s'.toks,rfl,Y,λb o hb e=>?_⟩)
     refine mv.heap b o (λz=>?_) (c_ _ (hold b o e))
     rcases i7.mp z with z | z
     .exact absurd z (mu hb)
     .have:=gr.mp z
      rw[this,ab] at hb;omega
   .cases ai with
    | error e=>exact B
    | ok aa =>
     cases aa with
     | ret r =>
      obtain⟨rfl,h',tk,rfl,Y,ap⟩:=B
      repeat (any_goals (first | assumption | wp_step))
      exact aq _ _ Y ap
     | _=>exact B.elim
  | _=>exact hr.elim
end PySem
namespace L2
open PySem PySem.Spec PyProof.Rows
section
def CC:List V->Hp->VK->Prop:=λxs H Q=>∃p,xs=[.ref p]/\∃ns:List Int,H p>>(ns.map V.int)/\ns.length<=1000/\∀q S,H q=none->Q (.ref q) (upd H q (.set S (ic ns)))
theorem zF (Z:X.calm=true):bK X (.type "set") CC:=by
 intro pins s σ H xs us Q I r h;obtain⟨p,rfl,ns,hp,hl,q⟩:=h;obtain⟨u,rfl,ru⟩:=dD r;cases ru;obtain⟨its,F,pl,hz⟩:=I.tuple (SqT.of hp);have B:=F.length;rw[d_] at B;refine xL (I.ok.hd Z) (show s.heap.IsTuple p its.toArray from pl) (by simpa using eK F) (by simp only[j_];show its.length+1 < 4096;omega) λh' tk Y hold=>?_
 have e:firstMet (λi=>ns.getD i 0) its.toArray.size=ns.foldl JS []:=by
  unfold firstMet;rw[j_,<- B,wb]
 rw[e] at Y;exact⟨.ref s.heap.objs.size,_,I.laid (a:=s.heap.objs.size) (o:=.set _ (ic ns)) (t':=tk) (λb o L=>hold b o (f_ L) L) (i6 _) Y,rfl,q _ _ (I.hok.fresh (i6 _))⟩
def yj (Cs:List (Addr × Sp)) (m:Str) (ta:TE) (t:TA):TE:=λσ H Q=>ta σ H λx H1=>∃a,x = .ref a/\∃C sp,(C,sp)∈Cs/\∃dx fs,H1 a=some (.ins C dx fs)/\fs.lookup m=none/\t σ H1 λvs H2=>sp (.ref a :: vs) H2 Q E0
variable {o:Expr} {m:Str} {t:TA}
theorem fe (F : ∀C sp,(C,sp)∈Cs->Cls X.K C/\FnR X.prog X.w X.K X.mg X.base (aC X.K C m) k ps sp) (hr:dg k X.A) (he:PE X o ta) (ha:PA X (e :: es) t)
  (Y:j8 (e :: es) X.env=(false,eval e X.env) :: j8 es X.env:=by rfl) (L:(y8 pos (j8 es X.env)).any (·.1)=false:=by rfl)
  (ht:eval (.Call (.Attribute o m apos) (e :: es) [] pos) X.env=(do
   let ov <- eval o X.env
   standAt apos.atName
   let (f,first) <- holding [ov] (getMethod ov m pl)
   callWith pos f first (y8 pos (j8 (e :: es) X.env)) (backToKw pos (Kw [] X.env))):=by rfl) :
  PE X (.Call (.Attribute o m apos) (e :: es) [] pos) (yj Cs m ta t):=by
 intro pins s σ H Q I h;refine methodCall_KW (pl:=pl) (thn (he pins s σ H _ I h) λu s1 B=>?_) ht
 obtain⟨x,H1,Z,rx,a,ex,C,sp,hC,dx,fs,ea,l,q⟩:=B;subst ex;obtain⟨c,f,fd,F,hm,b⟩:=F C sp hC;obtain rfl:u=j6 a:=rx
 refine qW Z ea c hm l ?_
 refine Kj (first:=[.ref a]) (h₀:=X.base) I.ok.mod.kin hm.kp (thn (ha pos pins s1 σ H1 _ Z q) λus s2 ⟨vs,H2,I2,r,q2⟩=>⟨I2.kIn,?_⟩) Y L
 exact kT (us:=.ref a :: us) (vs:=.ref a :: vs) F hr b .nil pb I2 (.cons rfl r) (by rw[append_nil];exact q2)
end
end L2
namespace PySem
theorem jh {J:Addr} {vs:Array Value} {v:Value} (a:s.heap.IsTupleIter J T i) (b:s.heap.IsTuple T vs) (c:vs[i]? = some v)
  (k : ∀g,g.IsTupleIter J T (i+1)->J7 J s.heap g->Q v { s with heap:=g }):wpAny (model prog w) A (k4 (.ref J)) Q E s:=by
 obtain⟨oJ,L,Z,B⟩:=id a;obtain⟨oT,b1,_,bn,Y⟩:=b;unfold k4;refine a_ (m9 (name:=b_ "__next__") a.typeIs Jm (o7 Jm a.typeIs F.entry_tuple_iterator_next ?_ (F.args_tuple_iterator_next_1 _)))
 change wpAny _ _ (field (.ref J) 0 >>= _) _ _ s;refine a_ (la L B (x:=.ref T) rfl ?_)
 change wpAny _ _ (if (j6 T == w6)=true then _ else _) _ _ s;rw[if_neg (show ¬ ((j6 T == w6)=true) from j7)]
 change wpAny _ _ (field (.ref J) 1 >>= _) _ _ s;refine a_ (la L B (x:=.int i 0) rfl ?_)
 change wpAny _ _ (seqItems? (.ref T) >>= _) _ _ s;refine a_ (x0 b1 Y ?_)
 simp only[JZ,c];refine a_ (wpAny_setField L B (by simp) (e_ ⟨v,rfl,e_ (k _ ⟨_,G3 _ L (Obj.isFreed_of_fields (Obj.data_mapFields B _)),(Obj.cls_mapFields ..).trans Z,?_⟩ (Heap.SameBut.update ..))⟩))
 rw[Obj.data_mapFields B];simp[x8]
theorem eL {J:Addr} {vs:Array Value} (Y:A.handled=none) (a:s.heap.IsTupleIter J T i) (b:s.heap.IsTuple T vs) (c:vs[i]? = none)
  (k : ∀g e,Kx J s.heap g->(∃o,g.get? e=some o/\o.cls = .type "StopIteration")->E (.ref e) { s with heap:=g }):wpAny (model prog w) A (k4 (.ref J)) Q E s:=by
 obtain⟨oJ,L,a2,B⟩:=id a;obtain⟨oT,Z,_,bn,b2⟩:=b;unfold k4;refine a_ (m9 (name:=b_ "__next__") a.typeIs Jm (o7 Jm a.typeIs F.entry_tuple_iterator_next ?_ (F.args_tuple_iterator_next_1 _)))
 change wpAny _ _ (field (.ref J) 0 >>= _) _ _ s;refine a_ (la L B (x:=.ref T) rfl ?_)
 change wpAny _ _ (if (j6 T == w6)=true then _ else _) _ _ s;rw[if_neg (show ¬ ((j6 T == w6)=true) from j7)]
 change wpAny _ _ (field (.ref J) 1 >>= _) _ _ s;refine a_ (la L B (x:=.int i 0) rfl ?_)
 change wpAny _ _ (seqItems? (.ref T) >>= _) _ _ s;refine a_ (x0 Z b2 ?_)
 simp only[JZ,c];refine a_ (wpAny_rule (a_ (wpAny_setField L B (by simp) ?_)))
 change wpAny _ _ (newExc (.type "StopIteration") [] >>= _) _ _ _;refine a_ (by
  simp only[newExc,newTuple];refine a_ (r_ ?_ (by size_fits))
  refine a_ (m:=firstArgMember _ _) (JW (a:=w6) (by first | rfl | (simp only[firstArgMember];rfl)) ?_)
  refine r_ ?_ (by size_fits)
  (simp only[raiseNew];refine a_ (wpAny_handled ?_))
  first | rw[show A.in1.handled=none from Y] | rw[Y]
  refine a_ (e_ (wpAny_throw (k _ _ (((Heap.SameBut.update ..).extBut.push _).push _) ⟨_,gt _ rfl,rfl⟩))))
def ZIt:Bool->Heap->Addr->Addr->Nat->Prop
 | false=>Heap.IsTupleIter
 | true=>Heap.IsListIter
def ZSq:Bool->Heap->Addr->Array Value->Prop
 | false=>KL
 | true=>Heap.IsList
theorem ZIt.ex {g:Heap} (h:ZIt q g I S i) : ∃o,g.get? I=some o/\o.data = .fields #[.ref S,.int i 0]:=by
 cases q with
 | false=>obtain⟨o,h1,_,B⟩:=h;exact⟨o,h1,B⟩
 | true=>obtain⟨o,h1,_,B⟩:=h;exact⟨o,h1,B⟩
theorem ZIt.at {q:Bool} {g g':Heap} {I S:Addr} {i:Nat} (h:ZIt q g I S i) (e : ∀o,g.get? I=some o->g'.get? I=some o):ZIt q g' I S i:=by
 cases q with
 | false=>exact Heap.IsTupleIter.at h e
 | true=>exact Heap.IsListIter.at h e
theorem ZIt.extBut {g g':Heap} (h:ZIt q g I S i) (F:Kx b g g') (B:I≠b):ZIt q g' I S i:=h.at λo e=>F _ _ B e
theorem ZSq.at {g g':Heap} {xs:Array Value} (h:ZSq q g S xs) (e : ∀o,g.get? S=some o->g'.get? S=some o):ZSq q g' S xs:=by
 cases q with
 | false=>obtain⟨o,h1,r⟩:=h;exact⟨o,e _ h1,r⟩
 | true=>obtain⟨o,h1,r⟩:=h;exact⟨o,e _ h1,r⟩
theorem ZSq.extBut {g g':Heap} {xs:Array Value} (h:ZSq q g S xs) (F:Kx b g g') (B:S≠b):ZSq q g' S xs:=h.at λo e=>F _ _ B e
theorem ZSq.ex {g:Heap} {xs:Array Value} (h:ZSq q g S xs) : ∃o,g.get? S=some o:=by
 cases q with
 | false=>obtain⟨o,h1,_⟩:=h;exact⟨o,h1⟩
 | true=>obtain⟨o,h1,_⟩:=h;exact⟨o,h1⟩
theorem CF {J:Addr} {vs:Array Value} {v:Value} (a:ZIt q s.heap J T i) (b:ZSq q s.heap T vs) (c:vs[i]? = some v)
  (k : ∀g,ZIt q g J T (i+1)->J7 J s.heap g->Q v { s with heap:=g }):wpAny (model prog w) A (k4 (.ref J)) Q E s:=by
 cases q with
 | false=>exact jh a b c k
 | true=>exact wpAny_nextOf_list_item a b c k
theorem wV {J:Addr} {vs:Array Value} (B:A.handled=none) (a:ZIt q s.heap J T i) (b:ZSq q s.heap T vs) (c:vs[i]? = none)
  (k : ∀g e,Kx J s.heap g->(∃o,g.get? e=some o/\o.cls = .type "StopIteration")->E (.ref e) { s with heap:=g }):wpAny (model prog w) A (k4 (.ref J)) Q E s:=by
 cases q with
 | false=>exact eL B a b c k
 | true=>exact wpAny_nextOf_list_end B a b c k
structure iz (q:Bool) (g:Heap) (z P O I J S T:Addr) (i:Nat) (f0 f1:Value):Prop where
 zz:g.get? z=some { cls:=.type "zip",dict:=none,data:=.fields #[f0,f1,.bool false,.ref P,.ref O],slots := #[] }
 pp:IsPair g P (.ref I) (.ref J)
 oo : ∃a b,IsPair g O a b
 ii:ZIt q g I S i
 jj:g.IsTupleIter J T i
theorem iz.keep {g g':Heap} {P J:Addr} (h:iz q g z P O I J S T i f0 f1) (k : ∀b∈[z,P,O,I,J],∀o,g.get? b=some o->g'.get? b=some o):iz q g' z P O I J S T i f0 f1:=by
 obtain⟨a,b,oo⟩:=h.oo;exact⟨k z (by simp) _ h.zz,k P (by simp) _ h.pp,⟨a,b,k O (by simp) _ oo⟩,h.ii.at λo e=>k I (by simp) o e,h.jj.at λo e=>k J (by simp) o e⟩
abbrev ZTup:=iz false
theorem zo {P J:Addr} {xs:Array Value} {x y:Value} (D:Kp z P O I J S T) (Z:iz q s.heap z P O I J S T i .none (.bool false))
  (hS:ZSq q s.heap S xs) (hT:s.heap.IsTuple T ys) (hx:xs[i]? = some x) (hy:ys[i]? = some y)
  (k : ∀g,iz q g z P O I J S T (i+1) (x8 s.heap.objs.size) (.bool false)->IsPair g s.heap.objs.size x y->g.objs.size=s.heap.objs.size+1 ->
   (∀c o,c≠z->c≠O->c≠I->c≠J->s.heap.get? c=some o->g.get? c=some o)->Q (.ref s.heap.objs.size) { s with heap:=g }) :
  wpAny (model prog w) A (Builtin.«zip.__next__» ⟨[.ref z],[]⟩) (λaa s'=>∃v,aa = .done (.ret v)/\Q v s') E s:=by
 have zz:=Z.zz;obtain⟨a,b,oo⟩:=Z.oo;change wpAny _ _ (field (.ref z) 2 >>= _) _ _ _;refine a_ (la zz rfl (x:=.bool false) rfl ?_)
 change wpAny _ _ (field (.ref z) 3 >>= _) _ _ _;refine a_ (la zz rfl (x:=.ref P) rfl ?_)
 refine a_ (x0 Z.pp rfl ?_)
 change wpAny _ _ (n_ (.ref z) >>= _) _ _ _;refine a_ (by
  unfold n_;refine a_ (la zz rfl (x:=.none) rfl (e_ ?_))
  simp only[if_true];refine a_ (wpAny_rule ?_)
  refine a_ (la zz rfl (x:=.ref O) rfl ?_)
  refine a_ (u6 zz (by simp) λg1 z1 L=>?_)
  replace z1:g1.get? z=some { cls:=.type "zip",dict:=none,data:=.fields #[.ellipsis,.bool false,.bool false,.ref P,.ref O],slots := #[] }:=z1
  refine a_ ?_
  simp only[List.zipIdx_cons,List.zipIdx_nil,JJ,forIn_nil];refine a_ (a_ (wpAny_onRaise ?_))
  change wpAny _ _ (k4 (.ref I) >>= _) _ _ _;refine a_ (CF (Z.ii.extBut L.extBut D.i1z) (hS.extBut L.extBut D.l1z) hx λg2 i2 s2=>e_ ?_)
  have o2:IsPair g2 O a b:=s2.extBut _ _ D.TOi1 (L.extBut _ _ D.TOz oo)
  refine a_ (x0 o2 rfl ?_)
  refine a_ (wpAny_updateSeq_pair o2 λg3 o3 Y=>?_)
  replace o3:IsPair g3 O x b:=o3
  refine a_ (wpAny_letGo (e_ ?_))
  refine a_ (a_ (wpAny_onRaise ?_))
  change wpAny _ _ (k4 (.ref J) >>= _) _ _ _;refine a_ (jh (((Z.jj.extBut L.extBut D.i2z).extBut s2.extBut D.i12.symm).extBut Y.extBut D.TOi2.symm) (((hT.extBut L.extBut D.l2z).extBut s2.extBut D.l2i1).extBut Y.extBut D.l2TO) hy λg4 j4 s4=>e_ ?_)
  have o4:IsPair g4 O x b:=s4.extBut _ _ D.TOi2 o3
  refine a_ (x0 o4 rfl ?_)
  refine a_ (wpAny_updateSeq_pair o4 λB o5 s5=>?_)
  replace o5:IsPair B O x y:=o5
  refine a_ (wpAny_letGo (e_ (e_ ?_)))
  refine a_ (x0 o5 rfl ?_)
  refine a_ (wpAny_newTuple ?_)
  have sz:B.objs.size=s.heap.objs.size:=by rw[s5.1,s4.1,Y.1,s2.1,L.1]
  have z5:=s5.extBut _ _ D.TOz.symm (s4.extBut _ _ D.i2z.symm (Y.extBut _ _ D.TOz.symm (s2.extBut _ _ D.i1z.symm z1)));have k5 : ∀c o,c≠z->c≠O->c≠I->c≠J->s.heap.get? c=some o->B.get? c=some o:=λc o F c2 c3 c4 e =>
   s5.extBut _ _ c2 (s4.extBut _ _ c4 (Y.extBut _ _ c2 (s2.extBut _ _ c3 (L.extBut _ _ F e))))
  have i5:ZIt q B I S (i+1):=((i2.extBut Y.extBut D.TOi1.symm).extBut s4.extBut D.i12).extBut s5.extBut D.TOi1.symm
  have j5:B.IsTupleIter J T (i+1):=j4.extBut s5.extBut D.TOi2.symm
  have zl:z < B.objs.size:=f_ z5
  change wpAny _ _ (Builtin.SmallTypes.ownedTupleHandOut (.ref z) (.ref B.objs.size) >>= _) _ _ _;refine a_ ?_
  unfold Builtin.SmallTypes.ownedTupleHandOut;have z6:=c_ { cls:=.type "tuple",data:=.seq #[x,y] } z5;refine a_ (u6 z6 (by simp) λg7 z7 s7=>?_)
  refine u6 z7 (by simp) λg8 z8 s8=>?_
  have up : ∀c o,c≠z->B.get? c=some o->g8.get? c=some o:=λc o F e=>s8.extBut _ _ F (s7.extBut _ _ F (c_ _ e))
  have t8:IsPair g8 B.objs.size x y:=s8.extBut _ _ (sn zl) (s7.extBut _ _ (sn zl) (gt _ rfl))
  have l8:g8.objs.size=B.objs.size+1:=by rw[s8.1,s7.1,o8]
  refine e_ ⟨_,rfl,?_⟩
  have zf:iz q g8 z P O I J S T (i+1) (x8 B.objs.size) (.bool false) :=
   ⟨z8,up _ _ D.TIz (k5 _ _ D.TIz D.TITO D.TIi1 D.TIi2 Z.pp),⟨x,y,up _ _ D.TOz o5⟩,i5.at λo e=>up _ o D.i1z e,j5.at λo e=>up _ o D.i2z e⟩
  rw[sz] at zf t8 l8;change Q (.ref B.objs.size) _;rw[sz];exact k g8 zf t8 l8 λc o F c2 c3 c4 e=>up c o F (k5 c o F c2 c3 c4 e))
theorem oR {Q:Option Obj->Shared->Prop} (h:Q (s.heap.get? a) s):wpAny M A (loadIfAlive a) Q E s:=λ_ _ _=>h
theorem Dp {P J t0:Addr} {xs:Array Value} {x y:Value} (D:Kp z P O I J S T) (Z:ZTup s.heap z P O I J S T i (x8 t0) f1)
  (h0:s.heap.get? t0=some o0) (hf:f1 = .bool false\/f1 = .bool true) (hS:s.heap.IsTuple S xs) (hT:s.heap.IsTuple T ys) (hx:xs[i]? = some x) (hy:ys[i]? = some y)
  (k : ∀g,ZTup g z P O I J S T (i+1) (x8 t0) (.bool true)->IsPair g s.heap.objs.size x y->g.objs.size=s.heap.objs.size+1 ->
   (∀c o,c≠z->c≠O->c≠I->c≠J->s.heap.get? c=some o->g.get? c=some o)->Q (.ref s.heap.objs.size) { s with heap:=g }) :
  wpAny (model prog w) A (Builtin.«zip.__next__» ⟨[.ref z],[]⟩) (λaa s'=>∃v,aa = .done (.ret v)/\Q v s') E s:=by
 have zz:=Z.zz;obtain⟨a,b,oo⟩:=Z.oo;change wpAny _ _ (field (.ref z) 2 >>= _) _ _ _;refine a_ (la zz rfl (x:=.bool false) rfl ?_)
 change wpAny _ _ (field (.ref z) 3 >>= _) _ _ _;refine a_ (la zz rfl (x:=.ref P) rfl ?_)
 refine a_ (x0 Z.pp rfl ?_)
 change wpAny _ _ (n_ (.ref z) >>= _) _ _ _;refine a_ (by
  unfold n_;refine a_ (la zz rfl (x:=x8 t0) rfl ?_)
  simp only[x8];refine a_ (oR ?_)
  simp only[JZ,h0,isNone_some,h9,if_false];refine a_ (la zz rfl (x:=f1) rfl ?_)
  rcases hf with rfl | rfl
  .rw[if_pos ∅]
   refine a_ (u6 zz (by simp) λg1 z1 s1=>e_ ?_)
   have Z1:ZTup g1 z P O I J S T i (x8 t0) (.bool true):=⟨z1,s1.extBut _ _ D.TIz Z.pp,⟨a,b,s1.extBut _ _ D.TOz oo⟩,Z.ii.extBut s1.extBut D.i1z,Z.jj.extBut s1.extBut D.i2z⟩
   have e1:=s1.extBut;have n1:=s1.1;simp only[h9,if_false];rw[<- forIn_toList];simp only[JJ,forIn_nil];refine a_ (a_ (a_ (u7 ?_)))
   change wpAny _ _ (k4 (.ref I) >>= _) _ _ _;refine a_ (jh (Z1.ii) (hS.extBut e1 D.l1z) hx λg2 i2 B=>e_ (e_ ?_))
   refine a_ (a_ (u7 ?_))
   change wpAny _ _ (k4 (.ref J) >>= _) _ _ _;refine a_ (jh (Z1.jj.extBut B.extBut D.i12.symm) ((hT.extBut e1 D.l2z).extBut B.extBut D.l2i1) hy λg3 j3 F=>e_ (e_ (e_ ?_)))
   refine a_ (wpAny_newTuple (hsz:=by show 2<=hB;decide) (e_ ⟨_,rfl,?_⟩))
   have sz:g3.objs.size=s.heap.objs.size:=by rw[F.1,B.1,n1]
   have k3 : ∀c o,c≠z->c≠I->c≠J->s.heap.get? c=some o->g3.get? c=some o:=λc o L Y c4 e=>F.extBut _ _ c4 (B.extBut _ _ Y (e1 _ _ L e))
   have z3:=F.extBut _ _ D.i2z.symm (B.extBut _ _ D.i1z.symm Z1.zz);change Q (.ref g3.objs.size) _;rw[sz];refine k _ ⟨c_ _ z3,c_ _ (k3 _ _ D.TIz D.TIi1 D.TIi2 Z.pp),⟨a,b,c_ _ (k3 _ _ D.TOz D.TOi1 D.TOi2 oo)⟩,(i2.extBut F.extBut D.i12).at λo e=>c_ _ e,j3.at λo e=>c_ _ e⟩ ?_ ?_ λc o L c2 Y c4 e=>c_ _ (k3 c o L Y c4 e)
   .rw[<- sz];exact gt _ rfl
   .rw[o8,sz]
  .rw[if_neg ∅]
   refine e_ ?_
   have Z1:=Z;have e1:Kx z s.heap s.heap:=λ_ _ _ e=>e
   have n1:s.heap.objs.size=s.heap.objs.size:=rfl
   simp only[h9,if_false];rw[<- forIn_toList];simp only[JJ,forIn_nil];refine a_ (a_ (a_ (u7 ?_)))
   change wpAny _ _ (k4 (.ref I) >>= _) _ _ _;refine a_ (jh (Z1.ii) (hS.extBut e1 D.l1z) hx λg2 i2 B=>e_ (e_ ?_))
   refine a_ (a_ (u7 ?_))
   change wpAny _ _ (k4 (.ref J) >>= _) _ _ _;refine a_ (jh (Z1.jj.extBut B.extBut D.i12.symm) ((hT.extBut e1 D.l2z).extBut B.extBut D.l2i1) hy λg3 j3 F=>e_ (e_ (e_ ?_)))
   refine a_ (wpAny_newTuple (hsz:=by show 2<=hB;decide) (e_ ⟨_,rfl,?_⟩))
   have sz:g3.objs.size=s.heap.objs.size:=by rw[F.1,B.1,n1]
   have k3 : ∀c o,c≠z->c≠I->c≠J->s.heap.get? c=some o->g3.get? c=some o:=λc o L Y c4 e=>F.extBut _ _ c4 (B.extBut _ _ Y (e1 _ _ L e))
   have z3:=F.extBut _ _ D.i2z.symm (B.extBut _ _ D.i1z.symm Z1.zz);change Q (.ref g3.objs.size) _;rw[sz];refine k _ ⟨c_ _ z3,c_ _ (k3 _ _ D.TIz D.TIi1 D.TIi2 Z.pp),⟨a,b,c_ _ (k3 _ _ D.TOz D.TOi1 D.TOi2 oo)⟩,(i2.extBut F.extBut D.i12).at λo e=>c_ _ e,j3.at λo e=>c_ _ e⟩ ?_ ?_ λc o L c2 Y c4 e=>c_ _ (k3 c o L Y c4 e)
   .rw[<- sz];exact gt _ rfl
   .rw[o8,sz])
theorem AU {P J:Addr} {xs:Array Value} {Q:Fin->Shared->Prop} (hd:A.handled=none) (D:Kp z P O I J S T) (Z:iz q s.heap z P O I J S T i .none (.bool false))
  (hS:ZSq q s.heap S xs) (hT:s.heap.IsTuple T ys) (hx:xs[i]? = none\/ys[i]? = none)
  (k : ∀g e,(∀c o,c≠z->c≠O->c≠I->c≠J->s.heap.get? c=some o->g.get? c=some o)->(∃o,g.get? e=some o/\o.cls = .type "StopIteration")->E (.ref e) { s with heap:=g }) :
  wpAny (model prog w) A (Builtin.«zip.__next__» ⟨[.ref z],[]⟩) Q E s:=by
 have zz:=Z.zz;obtain⟨a,b,oo⟩:=Z.oo;change wpAny _ _ (field (.ref z) 2 >>= _) _ _ _;refine a_ (la zz rfl (x:=.bool false) rfl ?_)
 change wpAny _ _ (field (.ref z) 3 >>= _) _ _ _;refine a_ (la zz rfl (x:=.ref P) rfl ?_)
 refine a_ (x0 Z.pp rfl ?_)
 change wpAny _ _ (n_ (.ref z) >>= _) _ _ _;refine a_ (by
  unfold n_;refine a_ (la zz rfl (x:=.none) rfl (e_ ?_))
  simp only[if_true];refine a_ (wpAny_rule ?_)
  refine a_ (la zz rfl (x:=.ref O) rfl ?_)
  refine a_ (u6 zz (by simp) λg1 z1 L=>?_)
  refine a_ ?_
  simp only[List.zipIdx_cons,List.zipIdx_nil,JJ,forIn_nil];refine a_ (a_ (wpAny_onRaise ?_))
  change wpAny _ _ (k4 (.ref I) >>= _) _ _ _;cases ex:xs[i]? with
  | none =>
   refine a_ (wV hd (Z.ii.extBut L.extBut D.i1z) (hS.extBut L.extBut D.l1z) ex λg2 e Y he=>?_)
   obtain⟨oe,B,F⟩:=he;have z2:=Y _ _ D.i1z.symm z1;have ez:e≠z:=λq=>by subst q;rw[z2] at B;cases B;simp at F
   refine u6 z2 (by simp) λg3 _ s3=>k g3 e (λc o c1 _ c3 _ q=>s3.extBut _ _ c1 (Y _ _ c3 (L.extBut _ _ c1 q))) ⟨oe,s3.extBut _ _ ez B,F⟩
  | some x =>
   have hy:ys[i]? = none:=by rcases hx with q | q;(rw[ex] at q;cases q);exact q
   refine a_ (CF (Z.ii.extBut L.extBut D.i1z) (hS.extBut L.extBut D.l1z) ex λg2 i2 Y=>e_ ?_)
   have o2:IsPair g2 O a b:=Y.extBut _ _ D.TOi1 (L.extBut _ _ D.TOz oo)
   refine a_ (x0 o2 rfl ?_)
   refine a_ (wpAny_updateSeq_pair o2 λg3 o3 s3=>?_)
   refine a_ (wpAny_letGo (e_ ?_))
   refine a_ (a_ (wpAny_onRaise ?_))
   change wpAny _ _ (k4 (.ref J) >>= _) _ _ _;refine a_ (eL hd (((Z.jj.extBut L.extBut D.i2z).extBut Y.extBut D.i12.symm).extBut s3.extBut D.TOi2.symm) (((hT.extBut L.extBut D.l2z).extBut Y.extBut D.l2i1).extBut s3.extBut D.l2TO) hy λg4 e s4 he=>?_)
   obtain⟨oe,B,F⟩:=he;have z4:=s4 _ _ D.i2z.symm (s3.extBut _ _ D.TOz.symm (Y.extBut _ _ D.i1z.symm z1));have ez:e≠z:=λq=>by subst q;rw[z4] at B;cases B;simp at F
   refine u6 z4 (by simp) λg5 _ s5=>k g5 e (λc o c1 c2 c3 c4 q=>s5.extBut _ _ c1 (s4 _ _ c4 (s3.extBut _ _ c2 (Y.extBut _ _ c3 (L.extBut _ _ c1 q))))) ⟨oe,s5.extBut _ _ ez B,F⟩)
theorem CW {P J t0:Addr} {xs:Array Value} {Q:Fin->Shared->Prop} (hd:A.handled=none) (D:Kp z P O I J S T) (Z:ZTup s.heap z P O I J S T i (x8 t0) f1)
  (h0:s.heap.get? t0=some o0) (hf:f1 = .bool false\/f1 = .bool true) (hS:s.heap.IsTuple S xs) (hT:s.heap.IsTuple T ys) (hx:xs[i]? = none\/ys[i]? = none)
  (k : ∀g e,(∀c o,c≠z->c≠O->c≠I->c≠J->s.heap.get? c=some o->g.get? c=some o)->(∃o,g.get? e=some o/\o.cls = .type "StopIteration")->E (.ref e) { s with heap:=g }) :
  wpAny (model prog w) A (Builtin.«zip.__next__» ⟨[.ref z],[]⟩) Q E s:=by
 have zz:=Z.zz;obtain⟨a,b,oo⟩:=Z.oo;change wpAny _ _ (field (.ref z) 2 >>= _) _ _ _;refine a_ (la zz rfl (x:=.bool false) rfl ?_)
 change wpAny _ _ (field (.ref z) 3 >>= _) _ _ _;refine a_ (la zz rfl (x:=.ref P) rfl ?_)
 refine a_ (x0 Z.pp rfl ?_)
 change wpAny _ _ (n_ (.ref z) >>= _) _ _ _;refine a_ (by
  unfold n_;refine a_ (la zz rfl (x:=x8 t0) rfl ?_)
  simp only[x8];refine a_ (oR ?_)
  simp only[JZ,h0,isNone_some,h9,if_false];refine a_ (la zz rfl (x:=f1) rfl ?_)
  rcases hf with rfl | rfl
  .rw[if_pos ∅]
   refine a_ (u6 zz (by simp) λg1 z1 s1=>e_ ?_)
   have Y:ZTup g1 z P O I J S T i (x8 t0) (.bool true):=⟨z1,s1.extBut _ _ D.TIz Z.pp,⟨a,b,s1.extBut _ _ D.TOz oo⟩,Z.ii.extBut s1.extBut D.i1z,Z.jj.extBut s1.extBut D.i2z⟩
   have e1:=s1.extBut;simp only[h9,if_false];rw[<- forIn_toList];simp only[JJ,forIn_nil];refine a_ (a_ (a_ (u7 ?_)))
   change wpAny _ _ (k4 (.ref I) >>= _) _ _ _;cases ex:xs[i]? with
   | none =>
    refine a_ (eL hd Y.ii (hS.extBut e1 D.l1z) ex λg2 e B he=>?_)
    exact k g2 e (λc o F _ L _ q=>B _ _ L (e1 _ _ F q)) he
   | some x =>
    have hy:ys[i]? = none:=by rcases hx with q | q;(rw[ex] at q;cases q);exact q
    refine a_ (jh Y.ii (hS.extBut e1 D.l1z) ex λg2 i2 B=>e_ (e_ ?_))
    refine a_ (a_ (u7 ?_))
    change wpAny _ _ (k4 (.ref J) >>= _) _ _ _;refine a_ (eL hd (Y.jj.extBut B.extBut D.i12.symm) ((hT.extBut e1 D.l2z).extBut B.extBut D.l2i1) hy λg3 e s3 he=>?_)
    exact k g3 e (λc o F _ L c4 q=>s3 _ _ c4 (B.extBut _ _ L (e1 _ _ F q))) he
  .rw[if_neg ∅]
   refine e_ ?_
   have Y:=Z;have e1:Kx z s.heap s.heap:=λ_ _ _ e=>e
   simp only[h9,if_false];rw[<- forIn_toList];simp only[JJ,forIn_nil];refine a_ (a_ (a_ (u7 ?_)))
   change wpAny _ _ (k4 (.ref I) >>= _) _ _ _;cases ex:xs[i]? with
   | none =>
    refine a_ (eL hd Y.ii (hS.extBut e1 D.l1z) ex λg2 e B he=>?_)
    exact k g2 e (λc o F _ L _ q=>B _ _ L (e1 _ _ F q)) he
   | some x =>
    have hy:ys[i]? = none:=by rcases hx with q | q;(rw[ex] at q;cases q);exact q
    refine a_ (jh Y.ii (hS.extBut e1 D.l1z) ex λg2 i2 B=>e_ (e_ ?_))
    refine a_ (a_ (u7 ?_))
    change wpAny _ _ (k4 (.ref J) >>= _) _ _ _;refine a_ (eL hd (Y.jj.extBut B.extBut D.i12.symm) ((hT.extBut e1 D.l2z).extBut B.extBut D.l2i1) hy λg3 e s3 he=>?_)
    exact k g3 e (λc o F _ L c4 q=>s3 _ _ c4 (B.extBut _ _ L (e1 _ _ F q))) he)
theorem yZ {hp:Heap} {xs:Array Value} (h1:ZSq q hp S xs) (h2:hp.IsTuple T ys) {Y L F Z B:Heap} (e1:Y=hp.push { cls:=.type (if q then "list_iterator" else "tuple_iterator"),data:=.fields #[.ref S,.int 0 0] })
  (e2:L=Y.push { cls:=.type "tuple_iterator",data:=.fields #[.ref T,.int 0 0] }) (e3:F=L.push { cls:=.type "tuple",data:=.seq #[.ref hp.objs.size,.ref Y.objs.size] }) (e4:Z=F.push { cls:=.type "tuple",data:=.seq #[.none,.none] })
  (e5:B=Z.push { cls:=.type "zip",data:=.fields #[.none,.bool false,.bool false,.ref L.objs.size,.ref F.objs.size] }) :
  iz q B Z.objs.size L.objs.size F.objs.size hp.objs.size Y.objs.size S T 0 .none (.bool false)/\Kp Z.objs.size L.objs.size F.objs.size hp.objs.size Y.objs.size S T/\Z.objs.size=hp.objs.size+4/\F.objs.size=hp.objs.size+3/\L.objs.size=hp.objs.size+2/\Y.objs.size=hp.objs.size+1/\∀c o,hp.get? c=some o->B.get? c=some o:=by
 have n1:Y.objs.size=hp.objs.size+1:=by rw[e1,o8]
 have n2:L.objs.size=hp.objs.size+2:=by rw[e2,o8,n1]
 have n3:F.objs.size=hp.objs.size+3:=by rw[e3,o8,n2]
 have n4:Z.objs.size=hp.objs.size+4:=by rw[e4,o8,n3]
 have p5 : ∀c o,Z.get? c=some o->B.get? c=some o:=λc o e=>by rw[e5];exact c_ _ e
 have p4 : ∀c o,F.get? c=some o->B.get? c=some o:=λc o e=>p5 c o (by rw[e4];exact c_ _ e)
 have p3 : ∀c o,L.get? c=some o->B.get? c=some o:=λc o e=>p4 c o (by rw[e3];exact c_ _ e)
 have p2 : ∀c o,Y.get? c=some o->B.get? c=some o:=λc o e=>p3 c o (by rw[e2];exact c_ _ e)
 have p1 : ∀c o,hp.get? c=some o->B.get? c=some o:=λc o e=>p2 c o (by rw[e1];exact c_ _ e)
 obtain⟨oS,hS⟩:=h1.ex;obtain⟨oT,hT,_⟩:=id h2;refine⟨⟨by rw[e5];exact gt _ rfl,p4 _ _ (by rw[e3];exact gt _ rfl),⟨.none,.none,p5 _ _ (by rw[e4];exact gt _ rfl)⟩,(by cases q <;> exact⟨_,p2 _ _ (by rw[e1];exact gt _ rfl),rfl,rfl⟩),⟨_,p3 _ _ (by rw[e2];exact gt _ rfl),rfl,rfl⟩⟩,?_,n4,n3,n2,n1,p1⟩
 rw[n1,n2,n3,n4];exact PyProof.Rows.zipApart_new (f_ hS) (f_ hT)
set_option maxHeartbeats 0 in
theorem Bi (q:Bool) (S T:Addr) (xs ys:Array Value):Meets (Builtin.«zip.__new__» ⟨[.type "zip",.ref S,.ref T],[]⟩) (λ_ R s=>ZSq q s.heap S xs/\s.heap.IsTuple T ys /\
   ∀g z P O I J,iz q g z P O I J S T 0 .none (.bool false)->Kp z P O I J S T->s.heap.objs.size<=z->s.heap.objs.size<=P->s.heap.objs.size<=O->s.heap.objs.size<=I->s.heap.objs.size<=J->(∀c o,s.heap.get? c=some o->g.get? c=some o)->R (.ok (.ret (.ref z))) { s with heap:=g }) :=
 .of_wp λprog w A R s h=>by
  obtain⟨hp,g,d,tk,B⟩:=s;obtain⟨h1,h2,h⟩:=h;have aa:=sub_zip;cases q with
  | false =>
   have q1:KL (Shared.heap ⟨hp,g,d,tk,B⟩) S xs:=h1
   have q2:KL (Shared.heap ⟨hp.push { cls:=.type "tuple_iterator",data:=.fields #[.ref S,.int 0 0] },g,d,tk,B⟩) T ys:=Heap.IsTuple.push h2 _
   wp_walk using u5 q1,u5 q2
   obtain⟨za,F,Y,n3,L,Z,zc⟩:=yZ (hp:=hp) h1 h2 rfl rfl rfl rfl rfl;exact⟨_,rfl,h _ _ _ _ _ _ za F (i8 (Jf _ 4) (Jz Y.symm)) (i8 (Jf _ 2) (Jz L.symm)) (i8 (Jf _ 3) (Jz n3.symm)) (i6 _) (i8 (Jf _ 1) (Jz Z.symm)) zc⟩
  | true =>
   have q1:Heap.IsList (Shared.heap ⟨hp,g,d,tk,B⟩) S xs:=h1
   have q2:KL (Shared.heap ⟨hp.push { cls:=.type "list_iterator",data:=.fields #[.ref S,.int 0 0] },g,d,tk,B⟩) T ys:=Heap.IsTuple.push h2 _
   wp_walk using J0 q1,u5 q2
   obtain⟨za,F,Y,n3,L,Z,zc⟩:=yZ (hp:=hp) h1 h2 rfl rfl rfl rfl rfl;exact⟨_,rfl,h _ _ _ _ _ _ za F (i8 (Jf _ 4) (Jz Y.symm)) (i8 (Jf _ 2) (Jz L.symm)) (i8 (Jf _ 3) (Jz n3.symm)) (i6 _) (i8 (Jf _ 1) (Jz Z.symm)) zc⟩
theorem sN {xs:Array Value} (h1:ZSq q s.heap S xs) (h2:s.heap.IsTuple T ys)
  (k : ∀g z P O I J,iz q g z P O I J S T 0 .none (.bool false)->Kp z P O I J S T->s.heap.objs.size<=z->s.heap.objs.size<=P->s.heap.objs.size<=O->s.heap.objs.size<=I->s.heap.objs.size<=J->(∀c o,s.heap.get? c=some o->g.get? c=some o)->Q (.ref z) { s with heap:=g }) :
  wpAny (model prog w) A (call (.type "zip") [.ref S,.ref T]) Q E s:=by
 refine callType_new F.called_zip ∅ (F.typeCall_zip_2 _ _) (F.newCall_zip_2 _ _) (λobj=>F.args_object_init_3 obj _ _) F.entry_zip_new (Bi q S T xs ys) ⟨h1,h2,λg z P O I J Z D l1 L l3 l4 Y B=>?_⟩
 exact⟨⟨_,Z.zz,rfl⟩,k g z P O I J Z D l1 L l3 l4 Y B⟩
theorem eX {P:Addr} (L:s.heap.get? z=some { cls:=.type "zip",dict:=none,data:=.fields #[f0,f1,.bool false,.ref P,.ref O],slots := #[] }) (h:Q (.ref z) s):wpAny (model prog w) A (pyIter (.ref z)) Q E s:=by
 have B:s.TypeIs (.ref z) "zip" :=⟨_,L,rfl⟩
 refine wpAny_pyIter_slot B F.slot_zip_iter (o7 F.slot_zip_iter B F.entry_zip_iter (by
  show wpAny _ _ (ret (.ref z)) _ _ s
  exact e_ ⟨_,rfl,"zip",_,B,u8.lookup,h⟩) (F.args_zip_iter_1 _))
theorem zG:Ko (.type "zip") "__len__" = pure none:=by rw[C_,v_];kernel_rfl
theorem xC:Ko (.type "zip") "__length_hint__" = pure none:=by rw[C_,v_];kernel_rfl
def qY (g:Heap) (n0:Nat) (xs ys:Array Value) (ts:List Addr):Prop:=ts.Nodup/\∀(j:Nat) (t:Addr),ts[j]? = some t->∃x y,xs[j]? = some x/\ys[j]? = some y/\IsPair g t x y/\n0<=t
def ZSt (g:Heap) (z P O I J S T:Addr) (i:Nat) (ts:List Addr):Prop:=(ts=[]/\ZTup g z P O I J S T i .none (.bool false))\/∃B f1,B∈ts/\(f1 = .bool false\/f1 = .bool true)/\ZTup g z P O I J S T i (x8 B) f1
theorem qY.keep {g g':Heap} {xs:Array Value} {ts:List Addr} (h:qY g n0 xs ys ts) (k : ∀b o,n0<=b->g.get? b=some o->g'.get? b=some o):qY g' n0 xs ys ts:=⟨h.1,λj t e=>by
 obtain⟨x,y,h1,h2,F,B⟩:=h.2 j t e;exact⟨x,y,h1,h2,k _ _ B F,B⟩⟩
theorem qY.snoc {g:Heap} {xs:Array Value} {ts:List Addr} {t:Addr} {x y:Value} (h:qY g n0 xs ys ts) (h1:xs[ts.length]? = some x) (h2:ys[ts.length]? = some y) (L:IsPair g t x y) (B:n0<=t) (Z:t∉ts):qY g n0 xs ys (ts++[t]):=⟨t_.mpr ⟨h.1,by simp,λa ha b Y z=>Z (by rw[gr.mp Y] at z;rw[<- z];exact ha)⟩,λj u e=>by
 by_cases F:j < ts.length
 .rw[tj F] at e
  exact h.2 j u e
 .have hj':j=ts.length:=by
   have:=g_.mp e
   obtain⟨hl,_⟩:=this;simp at hl
   omega
  subst hj';rw[t7 (i6 _),sub_self] at e;cases e;exact⟨x,y,h1,h2,L,B⟩⟩
theorem xv (hd:A.handled=none) {z P O I J S T L:Addr} {xs ys:Array Value} {n0:Nat} (res:Value) (D:Kp z P O I J S T) (hL:L < n0) (hb : ∀b∈[z,P,O,I,J],b < n0) (ab : ∀b∈[z,P,O,I,J],L≠b) (a2:L≠S) (ax:L≠T) (hn:min xs.size ys.size<=100000) :
  ∀(k:Nat) (s:Shared) (ts:List Addr) (ac:Array Value) (c:Nat),min xs.size ys.size - ts.length=k->ts.length<=min xs.size ys.size->n0<=s.heap.objs.size->ZSt s.heap z P O I J S T ts.length ts->qY s.heap n0 xs ys ts->ac.toList=ts.map j6->s.heap.IsTuple S xs->s.heap.IsTuple T ys ->
  s.heap.get? L=some { cls:=.type "list",dict:=none,data:=.seq ac c,slots := #[] } ->
  (∀g ah af c',(∀b o,b≠L->b∉[z,P,O,I,J]->b < n0->s.heap.get? b=some o->g.get? b=some o)->qY g n0 xs ys ah->ah.length=min xs.size ys.size->af.toList=ah.map j6->g.get? L=some { cls:=.type "list",dict:=none,data:=.seq af c',slots := #[] }->R (.ok (.ret res)) { s with heap:=g }) ->
  J8 (model prog w) A (.builtin "list.extend.loop" ⟨[.ref L,.ref z,res],[]⟩) R s:=by
 intro k
 induction k with
 | zero =>
  intro s ts ac c hk a0 hsz ap aa ag hS hT hl hR;have ay:ts.length=min xs.size ys.size:=()
  have an:xs[ts.length]? = none\/ys[ts.length]? = none:=by
   rcases le_total xs.size ys.size with h | h
   .exact .inl (JU ())
   .exact .inr (JU ())
  refine KB F.entry_extend_loop ?_
  rw[Around.under_plainId JF _]
  show wpAny _ A.in1 (JP (.ref z) >>= _) _ _ s
  refine a_ ?_
  have ad : ∀g,(∀c o,c≠z->c≠O->c≠I->c≠J->s.heap.get? c=some o->g.get? c=some o)->R (.ok (.ret res)) { s with heap:=g }:=λg kg=>by
   refine hR g ts ac c (λb o b1 b2 b3 e=>?_) (aa.keep λb o B e=>?_) ay ag ?_
   .simp only[i7,n6,or_false,not_or] at b2
    exact kg b o b2.1 b2.2.2.1 b2.2.2.2.1 b2.2.2.2.2 e
   .exact kg b o (sn (hH (hb z (by simp)) B)) (sn (hH (hb O (by simp)) B)) (sn (hH (hb I (by simp)) B)) (sn (hH (hb J (by simp)) B)) e
   .exact kg L _ (ab z (by simp)) (ab O (by simp)) (ab I (by simp)) (ab J (by simp)) hl
  rcases ap with⟨ht,Z⟩ | ⟨t0,f1,ht0,ai,Z⟩
  .have Y:s.TypeIs (.ref z) "zip" :=⟨_,Z.zz,rfl⟩
   unfold JP;refine a_ (I_ (m9 (name:=b_ "__next__") Y u8 (o7 u8 Y JD (AU hd D Z hS hT an λg e kg he=>?_) (Jq _))))
   obtain⟨o,ho,aq⟩:=he;refine a_ (JB (T := "StopIteration") (b:=true) ⟨o,ho,aq⟩ isSubtype_stop ?_)
   exact e_ (e_ (ad g kg))
  .obtain⟨j0,am⟩:=List.getElem?_of_mem ht0
   obtain⟨_,_,_,_,aj,_⟩:=aa.2 j0 t0 am;have Y:s.TypeIs (.ref z) "zip" :=⟨_,Z.zz,rfl⟩
   unfold JP;refine a_ (I_ (m9 (name:=b_ "__next__") Y u8 (o7 u8 Y JD (CW hd D Z aj ai hS hT an λg e kg he=>?_) (Jq _))))
   obtain⟨o,ho,aq⟩:=he;refine a_ (JB (T := "StopIteration") (b:=true) ⟨o,ho,aq⟩ isSubtype_stop ?_)
   exact e_ (e_ (ad g kg))
 | succ k ih =>
  intro s ts ac c hk a0 hsz ap aa ag hS hT hl hR;have az:ts.length < min xs.size ys.size:=()
  have hx:xs[ts.length]? = some (xs[ts.length]'()):=Js ()
  have hy:ys[ts.length]? = some (ys[ts.length]'()):=Js ()
  generalize xs[ts.length]'()=x at hx
  generalize ys[ts.length]'()=y at hy
  have ao:ac.size=ts.length:=by rw[<- F_,ag,d_]
  refine KB F.entry_extend_loop ?_
  rw[Around.under_plainId JF _]
  show wpAny _ A.in1 (JP (.ref z) >>= _) _ _ s
  refine a_ ?_
  have ad : ∀g t0 f1,(t0∈ts++[s.heap.objs.size])->(f1 = .bool false\/f1 = .bool true)->ZTup g z P O I J S T (ts.length+1) (x8 t0) f1->IsPair g s.heap.objs.size x y->g.objs.size=s.heap.objs.size+1 ->
    (∀c o,c≠z->c≠O->c≠I->c≠J->s.heap.get? c=some o->g.get? c=some o) ->
    wpAny (model prog w) A.in1 (updateSeq L (·.push (.ref s.heap.objs.size)) >>= λ_=>again (.builtin "list.extend.loop" ⟨[.ref L,.ref z,res],[]⟩))
     (λad s'=>match ad with | .done f=>R (.ok f) s' | .again c'=>c'.quiet=true/\J8 (model prog w) A c' R s') (λe s'=>R (.error e) s') { s with heap:=g }:=λg t0 f1 h0 ai Z1 hp hg kg=>by
   have ar:=kg L _ (ab z (by simp)) (ab O (by simp)) (ab I (by simp)) (ab J (by simp)) hl
   have S1:g.IsTuple S xs:=hS.at λo e=>kg S o D.l1z D.l1TO D.l1i1 D.l1i2 e
   have T1:g.IsTuple T ys:=hT.at λo e=>kg T o D.l2z D.l2TO D.l2i1 D.l2i2 e
   have ak : ∀b o,b≠L->g.get? b=some o->(g.update L (x6 (·.push (.ref s.heap.objs.size)))).get? b=some o:=λb o B e=>(D_ _ _ (k_ B)).trans e
   have aw:s.heap.objs.size∉ts:=λhm=>by
    obtain⟨j0,am⟩:=List.getElem?_of_mem hm;obtain⟨_,_,_,_,aj,_⟩:=aa.2 j0 _ am;exact absurd (f_ aj) (s_ _)
   refine a_ (KA ar rfl (e_ ⟨plainId_quiet JF _,ih _ (ts++[s.heap.objs.size]) (ac.push (.ref s.heap.objs.size)) _ (by simp;omega) (by simp;omega) ?_ (.inr ⟨t0,f1,h0,ai,?_⟩) ?_ (by simp[ag]) ?_ ?_ (G3 _ ar rfl) λg' ah af c' k' o' l' a' a1=>?_⟩) (by rw[ao];exact i8 (Jc az) (i8 hn ∅)) (by show(ac.push _).size<=hB+1;rw[Array.size_push,ao];exact i8 (show ts.length+1<=100001 by omega) ∅))
   .show n0<=(g.update L _).objs.size
    rw[Kq,hg];omega
   .rw[w4]
    exact Z1.keep λb B o e=>ak b o (k_ (ab b B)) e
   .refine(qY.snoc (aa.keep (g':=g) λb o B e=>kg b o (sn (hH (hb z (by simp)) B)) (sn (hH (hb O (by simp)) B)) (sn (hH (hb I (by simp)) B)) (sn (hH (hb J (by simp)) B)) e) hx hy hp hsz aw).keep λb o B e=>ak b o (sn (hH hL B)) e
   .exact S1.at λo e=>ak S o (k_ a2) e
   .exact T1.at λo e=>ak T o (k_ ax) e
   .refine hR g' ah af c' (λb o b1 b2 b3 e=>?_) o' l' a' a1
    refine k' b o b1 b2 b3 (ak b o b1 ?_)
    simp only[i7,n6,or_false,not_or] at b2;exact kg b o b2.1 b2.2.2.1 b2.2.2.2.1 b2.2.2.2.2 e
  rcases ap with⟨ht,Z⟩ | ⟨t0,f1,ht0,ai,Z⟩
  .have Y:s.TypeIs (.ref z) "zip" :=⟨_,Z.zz,rfl⟩
   unfold JP;refine a_ (I_ (m9 (name:=b_ "__next__") Y u8 (o7 u8 Y JD (zo D Z hS hT hx hy λg Z1 hp hg kg=>e_ ?_) (Jq _))))
   exact ad g _ _ (by simp) (.inl rfl) Z1 hp hg kg
  .obtain⟨j0,am⟩:=List.getElem?_of_mem ht0
   obtain⟨_,_,_,_,aj,_⟩:=aa.2 j0 t0 am;have Y:s.TypeIs (.ref z) "zip" :=⟨_,Z.zz,rfl⟩
   unfold JP;refine a_ (I_ (m9 (name:=b_ "__next__") Y u8 (o7 u8 Y JD (Dp D Z aj ai hS hT hx hy λg Z1 hp hg kg=>e_ ?_) (Jq _))))
   exact ad g _ _ (by simp[ht0]) (.inr rfl) Z1 hp hg kg
theorem Co (hd:A.handled=none) {z P O I J S T:Addr} {xs ys:Array Value} (D:Kp z P O I J S T) (Z:ZTup s.heap z P O I J S T 0 .none (.bool false)) (hS:s.heap.IsTuple S xs) (hT:s.heap.IsTuple T ys) (hn:min xs.size ys.size<=100000)
  (k : ∀g ts L c,(∀b o,b∉[z,P,O,I,J]->s.heap.get? b=some o->g.get? b=some o)->qY g (s.heap.objs.size+1) xs ys ts->ts.length=min xs.size ys.size->L.toList=ts.map j6 ->
   g.get? s.heap.objs.size=some { cls:=.type "list",dict:=none,data:=.seq L c,slots := #[] }->Q (.ref s.heap.objs.size) { s with heap:=g }) :
  wpAny (model prog w) A (call (.type "list") [.ref z]) Q E s:=by
 refine callType_codes (Q₁:=λobj s₁=>obj = .ref s.heap.objs.size/\s₁={ s with heap:=s.heap.push { cls:=.type "list",data:=.seq #[] } }) F.called_list (F.typeCall_list_1 _) F.entry_list_init (code_list_new _ ⟨rfl,rfl⟩) λobj s₁ ag=>?_
 obtain⟨rfl,rfl⟩:=ag;have up : ∀b o,s.heap.get? b=some o->(s.heap.push { cls:=.type "list",data:=.seq #[] }).get? b=some o:=λb o e=>c_ _ e
 have l0:(s.heap.push { cls:=.type "list",data:=.seq #[] }).get? s.heap.objs.size=some { cls:=.type "list",data:=.seq #[] }:=gt _ rfl
 have lt : ∀b∈[z,P,O,I,J],b < s.heap.objs.size:=λb B=>by
  obtain⟨u,v,oo⟩:=Z.oo;obtain⟨oi,i1,_⟩:=Z.ii;obtain⟨oj,j1,_⟩:=Z.jj;simp only[i7,n6,or_false] at B;rcases B with rfl | rfl | rfl | rfl | rfl
  .exact f_ Z.zz
  .exact f_ Z.pp
  .exact f_ oo
  .exact f_ i1
  .exact f_ j1
 have ab:S < s.heap.objs.size:=by obtain⟨o,e,_⟩:=hS;exact f_ e
 have ac:T < s.heap.objs.size:=by obtain⟨o,e,_⟩:=hT;exact f_ e
 refine⟨⟨_,l0,rfl⟩,F.args_list_init_2 _ _,?_⟩
 change wpAny _ _ (do let ah <- JT (.ref s.heap.objs.size);Builtin.List.listUpdate (.ref s.heap.objs.size) (λ_ => #[]);letGo ah.toList.reverse;p8 (.ref s.heap.objs.size) (.ref z) .none) _ _ _
 refine a_ (by
  unfold JT;refine a_ (x0 l0 rfl (e_ ?_))
  change wpAny _ _ (updateSeq s.heap.objs.size (λ_ => #[]) >>= λ_=>letGo (#[]:Array Value).toList.reverse >>= λ_=>p8 (.ref s.heap.objs.size) (.ref z) .none) _ _ _
  refine a_ (KA l0 rfl ?_)
  have l1:=G3 (x6 (λ_=>(#[]:Array Value))) l0 rfl
  generalize af:(s.heap.push { cls:=.type "list",data:=.seq #[] }).update s.heap.objs.size (x6 (λ_=>(#[]:Array Value)))=g1 at l1 ⊢
  have n1:g1.objs.size=s.heap.objs.size+1:=by rw[<- af,Kq,o8]
  have o1 : ∀b o,b < s.heap.objs.size->s.heap.get? b=some o->g1.get? b=some o:=λb o B e=>by rw[<- af];exact(D_ _ _ (sn B)).trans (up b o e)
  refine a_ (wpAny_letGo ?_)
  unfold p8;have Z1:ZTup g1 z P O I J S T 0 .none (.bool false):=Z.keep λb B o e=>o1 b o (lt b B) e
  have Y:({ s with heap:=g1 }:Shared).TypeIs (.ref z) "zip" :=⟨_,Z1.zz,rfl⟩
  refine a_ (J_ Y ?_)
  have q1:JA (.ref s.heap.objs.size) (.ref z)=false:=by simp[JA,sn (lt z (by simp))]
  have q2:(y2 "zip" == y2 "list")=false:=∅
  have q3:(y2 "zip" == y2 "tuple")=false:=∅
  simp only[q1,q2,q3,Bool.or_false,h9,if_false];refine a_ (eX Z1.zz ?_)
  refine a_ (u7 ?_)
  unfold Builtin.List.listLengthHint;refine a_ (y4 Y zG ?_)
  change wpAny _ _ (specialOf (j6 z) (b_ "__length_hint__") >>= _) _ _ _;refine a_ (y4 Y xC (e_ ?_))
  change wpAny _ _ (rule "list.extend.makes-room" >>= λ_=>(updateSeq s.heap.objs.size (·.push .none) >>= λ_=>updateSeq s.heap.objs.size (·.pop)) >>= λ_=>again (.builtin "list.extend.loop" ⟨[.ref s.heap.objs.size,.ref z,.none],[]⟩)) _ _ _
  refine a_ (wpAny_rule (a_ (a_ (KA l1 rfl ?_))))
  have l2:=G3 (x6 (·.push w6)) l1 rfl;refine KA l2 rfl ?_
  have l3:=G3 (x6 (·.pop)) l2 rfl;generalize ad:(g1.update s.heap.objs.size (x6 (·.push w6))).update s.heap.objs.size (x6 (·.pop))=g3 at l3 ⊢;have n3:g3.objs.size=s.heap.objs.size+1:=by rw[<- ad,Kq,Kq,n1]
  have o3 : ∀b o,b < s.heap.objs.size->s.heap.get? b=some o->g3.get? b=some o:=λb o B e=>by rw[<- ad];exact(D_ _ _ (sn B)).trans ((D_ _ _ (sn B)).trans (o1 b o B e))
  refine e_ ⟨plainId_quiet JF _,xv (A:=A.in1) hd (n0:=s.heap.objs.size+1) .none D (G_ _) (λb B=>Ks (lt b B)) (λb B=>sn (lt b B)) (sn ab) (sn ac) hn _ { s with heap:=g3 } [] #[] _ rfl (y6 _) (by show _<=g3.objs.size;rw[n3];exact i6 _) (.inl ⟨rfl,Z.keep λb B o e=>o3 b o (lt b B) e⟩) ⟨List.nodup_nil,λj t e=>by simp at e⟩ rfl (hS.at λo e=>o3 S o ab e) (hT.at λo e=>o3 T o ac e) l3 λg ts L c kg hz hl ha hL=>⟨rfl,k g ts L c (λb o B e=>?_) hz hl ha hL⟩⟩
  have aa:=f_ e;exact kg b o (mu aa) B (Ks aa) (o3 b o aa e))
end PySem
namespace L2
open PySem PySem.Spec PyProof.Rows
theorem Inv.turnedL {g:Heap} (I:Inv X pins σ H s) (k : ∀b o,b∉fp->s.heap.get? b=some o->g.get? b=some o) (F : ∀b∈fp,qf X pins H b):Inv X pins σ H { s with heap:=g,toks:=t' }:=by
 have L : ∀b u,H b=some u->b∉fp:=λb u e z=>by rw[(F b z).1] at e;cases e
 refine I.step (g':=s.gens) (d':=s.drawn) (ch:=fp) (λb Y=>⟨(F b Y).2.2.2.1,(F b Y).2.1,(F b Y).2.2.2.2.1,(F b Y).2.2.2.2.2⟩) (λb o _ _ B e _=>k b o B e) (λb o _ _ B e _=>⟨o.slots,k b o B e⟩) (λ_ _ _ _ n=>n)
  (λb o B e=>⟨o,k b o B e⟩) (λ_ _ e=>e) (λ_ _ _ e=>e) (λb ps e=>⟨#[],by rw[e];simp⟩) (λm Z=>?_) (λb u e=>?_) I.bare
 .obtain⟨o,es,ep,ho,r⟩:=Z
  exact⟨o,es,ep,k _ o (λz=>(F _ z).2.1 rfl) ho,r⟩
 .refine(I.hok b u e).stay (λc v B q=>k c v ?_ q) (λ_ q=>q) λ_ _ q=>q
  rcases B with z | z
  .rw[z];exact L b u e
  .exact L c _ z
theorem Inv.turnedNew {g:Heap} (I:Inv X pins σ H s) (k : ∀b o,b∉fp->s.heap.get? b=some o->g.get? b=some o) (L : ∀b∈fp,qf X pins H b) (ha:s.heap.objs.size<=a)
  (ok:bC X.prog X.w (upd H a u0) g a u0):Inv X pins σ (upd H a u0) { s with heap:=g,toks:=t' }:=by
 have Z : ∀b u,H b=some u->b∉fp:=λb u e z=>by rw[(L b z).1] at e;cases e
 have na : ∀b o,s.heap.get? b=some o->b≠a:=λb o e z=>by rw[z] at e;exact absurd (hH (f_ e) ha) (s_ _)
 have hn:H a=none:=I.hok.fresh ha
 have Y : ∀b u,H b=some u->b≠a:=λb u e z=>by rw[z,hn] at e;cases e
 refine I.step (g':=s.gens) (d':=s.drawn) (ch:=fp) (λb F=>⟨(L b F).2.2.2.1,(L b F).2.1,(L b F).2.2.2.2.1,(L b F).2.2.2.2.2⟩) (λb o _ _ B e _=>k b o B e) (λb o _ _ B e _=>⟨o.slots,k b o B e⟩) (λb o _ e n=>by rw[ag (na b o e)];exact n)
  (λb o B e=>⟨o,k b o B e⟩) (λb xs e=>by rw[ag (Y b _ e)];exact e) (λb o u e=>by rw[ag (Y b _ e)];exact e) (λb ps e=>⟨#[],by rw[ag (Y b _ e),e];simp⟩) (λm hm=>?_) (λb u e=>?_) I.bare
 .obtain⟨o,es,ep,ho,r⟩:=hm
  exact⟨o,es,ep,k _ o (λz=>(L _ z).2.1 rfl) ho,r⟩
 .by_cases F:b=a
  .subst F
   rw[ae] at e;cases e;exact ok
  .rw[ag F] at e
   refine(I.hok b u e).stay (λc v B q=>k c v ?_ q) (λc q=>by rw[ag (Y c _ q)];exact q) (λc xs q=>by rw[ag (Y c _ q)];exact q) λc _ _ q=>by rw[ag (Y c _ q)];exact q
   rcases B with z | z
   .rw[z];exact Z b u e
   .exact Z c _ z
def SqQ:Bool->fy->Hp->Addr->List V->Prop
 | false=>SqT
 | true=>SqL
theorem Inv.sq (I:Inv X pins σ H s) (h:SqQ q X.K H a xs) : ∃its:List Value,bi xs its/\ZSq q s.heap a its.toArray/\xs.length<=hB:=by
 cases q with
 | false=>exact I.tuple h
 | true =>
  obtain⟨its,h1,h2,B⟩:=I.list h;exact⟨its,h1,h2.isList,B⟩
theorem Inv.sq_inj {ys:List V} (I:Inv X pins σ H s) (h:SqQ q X.K H a xs) (h':SqQ q X.K H a ys):xs=ys:=by
 cases q with
 | false=>exact I.tuple_inj h h'
 | true=>exact I.list_inj h h'
def BQ (q:Bool) (K:fy) (a b:Addr):It :=
  ⟨λi H=>∃xs ys x y,SqQ q K H a xs/\SqT K H b ys/\xs[i]? = some x/\ys[i]? = some y,
   λi H v H'=>∃t x y,H t=none/\v = .ref t/\H'=upd H t (.tup [x,y])/\(∀xs,SqQ q K H a xs->xs[i]? = some x)/\(∀ys,SqT K H b ys->ys[i]? = some y),
   λi H=>∃xs ys,SqQ q K H a xs/\SqT K H b ys/\(xs[i]? = none\/ys[i]? = none)⟩
abbrev Itz:=BQ false
theorem sK (h:bi xs us) (e:xs[i]? = none):us[i]? = none:=by
 have:=h.length
 rw[w5] at e ⊢;omega
theorem BE {x1} {pos:Pos} (a b z Q O I J:Addr) (D:Kp z Q O I J a b) :
  uF P w K (.Tuple es x1 pos) (BQ q K a b) [z,Q,O,I,J] z (λi h=>iz q h z Q O I J a b i .none (.bool false)) where
 mem:=by simp
 obj:=λi h st c B=>by
  obtain⟨u,v,oo⟩:=st.oo;obtain⟨oi,i1,i3⟩:=st.ii.ex;obtain⟨oj,j1,j2,j3⟩:=st.jj;simp only[i7,n6,or_false] at B;rcases B with rfl | rfl | rfl | rfl | rfl
  .exact⟨_,st.zz,λv z=>by cases z⟩
  .exact⟨_,st.pp,λv z=>by cases z⟩
  .exact⟨_,oo,λv z=>by cases z⟩
  .exact⟨oi,i1,λv z=>by rw[i3] at z;cases z⟩
  .exact⟨oj,j1,λv z=>by rw[j3] at z;cases z⟩
 keep:=λi h h' st k=>st.keep k
 item:=by
  intro X hP hw hK B i pins s σ H E Y hf st hg;subst hP hw hK;obtain⟨xs,ys,x,y,hq,Z,hx,hy⟩:=hg;obtain⟨its,rv,p,hz⟩:=Y.sq hq;obtain⟨L,ab,p2,ai⟩:=Y.tuple Z;obtain⟨u,hu,ru⟩:=rv.get hx;obtain⟨u2,af,ad⟩:=ab.get hy;have hT:s.TypeIs (.ref z) "zip" :=⟨_,st.zz,rfl⟩
  unfold JP;refine a_ (I_ (m9 (name:=b_ "__next__") hT u8 (o7 u8 hT JD (zo D st p (show s.heap.IsTuple b L.toArray from p2) (x:=u) (y:=u2) (by simpa using hu) (by simpa using af) λg Z1 t1 n1 k1=>e_ ⟨_,rfl,?_⟩) (Jq _))))
  have ac:H s.heap.objs.size=none:=Y.hok.fresh (i6 _)
  refine wpAny_letOwnedTupleGo_zip (s:={ s with heap:=g }) Z1.zz λg2 z2 s2=>?_
  have nn : ∀c∈[z,Q,O,I,J],c≠s.heap.objs.size:=λc B e=>by
   obtain⟨u',v',oo⟩:=st.oo;obtain⟨oi,i1,_⟩:=st.ii.ex;obtain⟨oj,j1,_⟩:=st.jj;simp only[i7,n6,or_false] at B;rcases B with rfl | rfl | rfl | rfl | rfl
   .exact absurd (f_ st.zz) (by rw[e];exact s_ _)
   .exact absurd (f_ st.pp) (by rw[e];exact s_ _)
   .exact absurd (f_ oo) (by rw[e];exact s_ _)
   .exact absurd (f_ i1) (by rw[e];exact s_ _)
   .exact absurd (f_ j1) (by rw[e];exact s_ _)
  have Z2:iz q g2 z Q O I J a b (i+1) .none (.bool false):=by
   obtain⟨u',v',oo⟩:=Z1.oo;exact⟨z2,s2.extBut _ _ D.TIz Z1.pp,⟨u',v',s2.extBut _ _ D.TOz oo⟩,Z1.ii.extBut s2.extBut D.i1z,Z1.jj.extBut s2.extBut D.i2z⟩
  have I2:Inv X pins σ (upd H s.heap.objs.size (.tup [x,y])) { s with heap:=g2 }:=Y.turnedNew (t':=s.toks) (fp:=[z,Q,O,I,J]) (λc o B e=>by
    simp only[i7,n6,or_false,not_or] at B;exact s2.extBut _ _ B.1 (k1 c o B.1 B.2.2.1 B.2.2.2.1 B.2.2.2.2 e)) hf (i6 _)
   ⟨by show 2<=hB;decide,[u,u2],.cons ru (.cons ad .nil),⟨_,s2.extBut _ _ (nn z (by simp)).symm t1,rfl,_,rfl⟩⟩
  exact⟨.ref s.heap.objs.size,_,I2,rfl,⟨_,x,y,ac,rfl,rfl,λzs aa=>by rw[Y.sq_inj aa hq];exact hx,λzs aa=>by rw[Y.tuple_inj aa Z];exact hy⟩,Z2,λc B=>by rw[ag (nn c B)];exact(hf c B).1⟩
 done:=by
  intro X hP hw hK B i pins s σ H E Y hf st hg;subst hP hw hK;obtain⟨xs,ys,hq,Z,hx⟩:=hg;obtain⟨its,rv,p,hz⟩:=Y.sq hq;obtain⟨L,ab,p2,ai⟩:=Y.tuple Z;have hT:s.TypeIs (.ref z) "zip" :=⟨_,st.zz,rfl⟩
  unfold JP;refine a_ (I_ (m9 (name:=b_ "__next__") hT u8 (o7 u8 hT JD (AU (Y.ok.hd B) D st p (show s.heap.IsTuple b L.toArray from p2) (hx.imp (λe=>by simpa using sK rv e) λe=>by simpa using sK ab e) λg e kg he=>?_) (Jq _))))
  obtain⟨o,ho,ah⟩:=he;refine a_ (JB (T := "StopIteration") (b:=true) ⟨o,ho,ah⟩ isSubtype_stop ?_)
  exact e_ ⟨rfl,Y.turnedL (t':=s.toks) (fp:=[z,Q,O,I,J]) (λc o B e=>by
    simp only[i7,n6,or_false,not_or] at B;exact kg c o B.1 B.2.2.1 B.2.2.2.1 B.2.2.2.2 e) hf⟩
 self:=λ_ _ _ _ _ st h=>eX st.zz h
theorem Inv.grown {g:Heap} (I:Inv X pins σ H s) (k : ∀b o,s.heap.get? b=some o->g.get? b=some o) (B : ∀b,b < s.heap.objs.size->H' b=H b)
  (new : ∀b u,s.heap.objs.size<=b->H' b=some u->bC X.prog X.w H' g b u):Inv X pins σ H' { s with heap:=g,toks:=t' }:=by
 have lt : ∀b u,H b=some u->b < s.heap.objs.size:=λb u e=>(I.hok b u e).lt
 have F : ∀b u,H b=some u->H' b=some u:=λb u e=>(B b (lt b u e)).trans e
 refine I.step (g':=s.gens) (d':=s.drawn) (ch:=[]) (λ_ z=>nomatch z) (λb o _ _ _ e _=>k b o e) (λb o _ _ _ e _=>⟨o.slots,k b o e⟩) (λb o _ e n=>by rw[B b (f_ e)];exact n)
  (λb o _ e=>⟨o,k b o e⟩) (λb xs e=>F b _ e) (λb o u e=>F b _ e) (λb ps e=>⟨#[],by rw[F b _ e];simp⟩) (λm L=>?_) (λb u e=>?_) I.bare
 .obtain⟨o,es,ep,ho,r⟩:=L
  exact⟨o,es,ep,k _ o ho,r⟩
 .by_cases hb:b < s.heap.objs.size
  .rw[B b hb] at e
   exact(I.hok b u e).stay (λc v _ q=>k c v q) (λc q=>F c _ q) (λc xs q=>F c _ q) λc _ _ q=>F c _ q
  .exact new b u (Nat.le_of_not_lt hb) e
def iZG (q:Bool) (Pr:Hp->Addr->List V->Prop) (K:fy) (ta:TA):TI:=λσ H R=>ta σ H λvs H1=>∃a b,vs=[.ref a,.ref b]/\∃xs,Pr H1 a xs/\∃ys,H1 b>>ys/\R (BQ q K a b) H1
def iZL (K:fy) (ta:TA):TI:=λσ H R=>ta σ H λvs H1=>∃a b,vs=[.ref a,.ref b]/\∃xs,H1 a*>xs/\∃ys,H1 b>>ys/\R (BQ true K a b) H1
def iZ (K:fy) (ta:TA):TI:=λσ H R=>ta σ H λvs H1=>∃a b,vs=[.ref a,.ref b]/\∃xs,H1 a>>xs/\∃ys,H1 b>>ys/\R (Itz K a b) H1
section
variable {e2:Expr} {ta:TA} {p pos2:Pos} {x1:Nat}
theorem sR:y7 "zip" = some (.type "zip"):=by decide+kernel
theorem yx {x1} {q:Bool} {Pr:Hp->Addr->List V->Prop} (Y : ∀H a xs,Pr H a xs->SqQ q K H a xs) (hK:X.K=K) (hg:Gl X "zip") (hm:X.mg "zip" = none) (ha:PA X [e1,e2] ta) (hs:j8 [e1,e2] X.env=[(false,eval e1 X.env),(false,eval e2 X.env)]:=by rfl) (F:j8 [e2] X.env=[(false,eval e2 X.env)]:=by rfl) :
  PI X (.Tuple es x1 pos') (.Call (.Name "zip" p) [e1,e2] [] pos) (iZG q Pr K ta):=by
 subst hK;intro pins s σ H R I h;refine Call_ (gD I hg hm sR (p7 (thn (ha pos pins s σ H _ I h) λus s1 ⟨vs,H1,I1,r1,q1⟩=>?_) (by rw[hs,F]) (by rw[F];rfl)))
 obtain⟨a,b,e,xs,ac,ys,ab,q⟩:=q1;subst e;obtain⟨u,u2,rfl,ru,L⟩:=sY r1;cases ru;cases L;obtain⟨its,rv,pl,hz⟩:=I1.sq (Y _ _ _ ac);obtain⟨B,ad,aa,af⟩:=I1.tuple (SqT.of ab);refine sN pl (show s1.heap.IsTuple b B.toArray from aa) λg z P O II J Z D l1 l2 l3 l4 l5 kg=>?_
 refine eX (s:={ s1 with heap:=g }) Z.zz ⟨z,[z,P,O,II,J],_,_,H1,rfl,I1.kept (t':=s1.toks) kg,BE a b z P O II J D,Z,λc hc=>?_,q⟩
 simp only[i7,n6,or_false] at hc;rcases hc with rfl | rfl | rfl | rfl | rfl
 .exact I1.fpOk l1 (I1.hok.fresh l1)
 .exact I1.fpOk l2 (I1.hok.fresh l2)
 .exact I1.fpOk l3 (I1.hok.fresh l3)
 .exact I1.fpOk l4 (I1.hok.fresh l4)
 .exact I1.fpOk l5 (I1.hok.fresh l5)
theorem Bp {x1} (hK:X.K=K) (Y:Gl X "zip") (L:X.mg "zip" = none) (ha:PA X [e1,e2] ta) (F:j8 [e1,e2] X.env=[(false,eval e1 X.env),(false,eval e2 X.env)]:=by rfl) (B:j8 [e2] X.env=[(false,eval e2 X.env)]:=by rfl) :
  PI X (.Tuple es x1 pos') (.Call (.Name "zip" p) [e1,e2] [] pos) (iZ K ta):=yx (q:=false) (Pr:=λH a xs=>H a>>xs) (λ_ _ _ h=>SqT.of h) hK Y L ha F B
theorem Dz {x1} (hK:X.K=K) (Y:Gl X "zip") (L:X.mg "zip" = none) (ha:PA X [e1,e2] ta) (F:j8 [e1,e2] X.env=[(false,eval e1 X.env),(false,eval e2 X.env)]:=by rfl) (B:j8 [e2] X.env=[(false,eval e2 X.env)]:=by rfl) :
  PI X (.Tuple es x1 pos') (.Call (.Name "zip" p) [e1,e2] [] pos) (iZL K ta):=yx (q:=true) (Pr:=λH a xs=>H a*>xs) (λ_ _ _ h=>.inl (.inl h)) hK Y L ha F B
theorem DC {g:TG} {Q:VK} {D:Addr} (B:Nat->List V->Hp->Prop) (h0:B 0 [] (upd H1 D (.lst []))) (hl : ∀i ys H,B i ys H->SqT K H a xs/\SqT K H b zs)
  (hs : ∀(i:Nat) (x y:V) (ys:List V) (H:Hp) (t:Addr),xs[i]? = some x->zs[i]? = some y->B i ys H->H t=none->g (.ref t) σ0 (upd H t (.tup [x,y])) λL H3=>tc L H3 λc H4=>if c=true then te L H4 λv H5=>H5 D*>ys/\ys.length < hB/\B (i+1) (ys++[v]) (upd H5 D (.lst (ys++[v]))) else B (i+1) ys H4)
  (hd : ∀ys H,B (min xs.length zs.length) ys H->Q (.ref D) H):mt (Itz K a b) σ0 g tc te Q H1 D:=by
 refine⟨λi m ys H=>B i ys H/\i<=min xs.length zs.length/\m=min xs.length zs.length - i,⟨_,h0,y6 _,rfl⟩,?_⟩
 rintro i m ys H ⟨hp,hi,rfl⟩
 obtain⟨sa,Z⟩:=hl i ys H hp
 by_cases Y:i=min xs.length zs.length
 .left
  subst Y;refine⟨⟨xs,zs,sa,Z,?_⟩,hd ys H hp⟩
  rcases le_total xs.length zs.length with h | h
  .exact .inl (w5.mpr ())
  .exact .inr (w5.mpr ())
 .right
  have h1:i < xs.length:=()
  have h2:i < zs.length:=()
  refine⟨⟨xs,zs,xs[i],zs[i],sa,Z,by simp[h1],by simp[h2]⟩,λF H'=>B (i+1) F H',λF H' h=>⟨_,(),h,(),rfl⟩,?_⟩
  rintro v H' ⟨t,x,y,ht,rfl,rfl,e1,e2⟩
  exact hs i x y ys H t (e1 xs sa) (e2 zs Z) hp ht
theorem FQ {g:TG} (B:Nat->St->Hp->Prop) (Z:B 0 σ H) (hl : ∀i σ H,B i σ H->SqQ q K H a xs/\SqT K H b zs)
  (hs : ∀(i:Nat) (x y:V) (σ:St) (H:Hp) (t:Addr),xs[i]? = some x->zs[i]? = some y->B i σ H->H t=none->g (.ref t) σ (upd H t (.tup [x,y])) λL H2=>tb { D with nx:=B (i+1),ct:=B (i+1),bk:=D.nx } L H2)
  (hd : ∀ σ H,B (min xs.length zs.length) σ H->D.nx σ H):Dv (BQ q K a b) g tb D σ H:=by
 refine⟨λi m σ H=>B i σ H/\i<=min xs.length zs.length/\m=min xs.length zs.length - i,⟨_,Z,y6 _,rfl⟩,?_⟩
 rintro i m σ H ⟨hp,hi,rfl⟩
 obtain⟨sa,Y⟩:=hl i σ H hp
 by_cases F:i=min xs.length zs.length
 .left
  subst F;refine⟨⟨xs,zs,sa,Y,?_⟩,hd σ H hp⟩
  rcases le_total xs.length zs.length with h | h
  .exact .inl (w5.mpr ())
  .exact .inr (w5.mpr ())
 .right
  have h1:i < xs.length:=()
  have h2:i < zs.length:=()
  refine⟨⟨xs,zs,xs[i],zs[i],sa,Y,by simp[h1],by simp[h2]⟩,λσ' H'=>B (i+1) σ' H',λσ' H' h=>⟨_,(),h,(),rfl⟩,?_⟩
  rintro v H' ⟨t,x,y,ht,rfl,rfl,e1,e2⟩
  exact hs i x y σ H t (e1 xs sa) (e2 zs Y) hp ht
theorem iQ (hi:i < nt:=by decide) (F:j < nt:=by decide) (B:i≠j:=by decide):BO (wf n (qF (gi i) (qF (gi j) AR))) nt:=by
 intro x σ0 H Q h q;obtain⟨a,e,xs,sq,l,v,r,e2,v',r',Y,L,q⟩:=q;refine⟨a,e,xs,sq,l,v,r,e2,v',r',Y,L,(Wk.set (h i hi)).trans (Wk.set ?_),q⟩
 rw[Kl B];exact h j F
theorem tm {B:St} {Q:VK} {D:Addr} (f:V->V->V) (Z:H1 D=none) (ha:H1 a>>xs) (hb:H1 b>>zs) (hn:xs.length<=10000)
  (he : ∀(x y:V) (H2:Hp) (F:VK),x∈xs->y∈zs->au H1 H2->(∀L,au H2 L->F (f x y) L)->te (some x :: some y :: B) H2 F)
  (hd : ∀H2,au H1 H2->H2 D*>(zipWith f xs zs)->Q (.ref D) H2):mt (Itz K a b) (none :: none :: B) (wf 2 (qF (gi 0) (qF (gi 1) AR))) wD te Q H1 D:=by
 refine DC (xs:=xs) (zs:=zs) (λi ys H=>ys=zipWith f (xs.take i) (zs.take i)/\au H1 H/\H D*>ys) ⟨by simp,au.upd0 Z,ae⟩ (λi ys H h=>⟨.of (h.2.1 _ _ ha),.of (h.2.1 _ _ hb)⟩) ?_ ?_
 .rintro i x y ys H t hx hy ⟨rfl,sm,hd'⟩ ht
  have st:au H (upd H t (.tup [x,y])):=au.upd0 ht
  refine⟨t,rfl,[x,y],ae,rfl,x,[y],rfl,y,[],rfl,rfl,?_⟩
  simp only[wD,if_true];refine he x y _ _ (g7 hx) (g7 hy) (sm.trans st) λH4 Y=>⟨Y _ _ (st _ _ hd'),?_,?_,λc o e=>?_,ae⟩
  .refine rb (i8 ?_ hn) ∅
   rw[List.length_zipWith,Ju];omega
  .have e1:xs.take (i+1)=xs.take i++[x]:=by rw[ki,hx];rfl
   have e2:zs.take (i+1)=zs.take i++[y]:=by rw[ki,hy];rfl
   have h1:i < xs.length:=(g_.mp hx).1
   have h2:i < zs.length:=(g_.mp hy).1
   rw[e1,e2,List.zipWith_append (by simp;omega)]
   rfl
  .rw[ag (ap e Z)];exact Y _ _ (st _ _ (sm c o e))
 .rintro ys H ⟨rfl,sm,hd'⟩
  refine hd H sm ?_
  rw[hd']
  congr 2
  have:zipWith f xs zs=zipWith f (xs.take (min xs.length zs.length)) (zs.take (min xs.length zs.length)):=by
   rw[<- List.take_zipWith,nH (by rw[List.length_zipWith];exact i6 _)]
  exact this.symm
def Df (H:Hp) (ts:List Addr) (xs ys:List V):Prop:=ts.length=min xs.length ys.length/\∀(j:Nat) (t:Addr) (x y:V),ts[j]? = some t->xs[j]? = some x->ys[j]? = some y->H t>>[x,y]
def qa (ta:TA):TE:=λσ H Q=>ta σ H λvs H1=>∃a b,vs=[.ref a,.ref b]/\∃xs,H1 a>>xs/\∃ys,H1 b>>ys/\xs.length<=10000/\∀(l:Addr) (ts:List Addr) (H':Hp),au H1 H'->H1 l=none->H' l*>(ts.map V.ref)->Df H' ts xs ys->Q (.ref l) H'
theorem sO : ∀(ts:List Addr),bi (ts.map V.ref) (ts.map j6)
 | []=>.nil
 | t :: ts=>.cons rfl (sO ts)
theorem BC {α:Type} [BEq α] [LawfulBEq α] : ∀{l:List α} {j:Nat} (_:l.Nodup) (h:j < l.length),l.idxOf? l[j]=some j
 | [],j,_,h=>absurd h (by simp)
 | x :: l,0,_,_=>by simp[idxOf?_cons]
 | x :: l,j+1,hn,h=>by
  rw[m7] at hn;have F:j < l.length:=by simpa using h
  have B : ¬ ((x == l[j])=true):=λe=>hn.1 (by rw[eq_of_beq e];exact JC F)
  rw[List.getElem_cons_succ,idxOf?_cons,if_neg B,BC hn.2 F];rfl
theorem Dc  [BEq α] [LawfulBEq α] {l:List α} {x:α} {j:Nat} (h:l.idxOf? x=some j) : ∃Y:j < l.length,l[j]=x:=by
 induction l generalizing j with
 | nil=>simp at h
 | cons y l L =>
  rw[idxOf?_cons] at h
  split at h
  .rename_i e
   cases h;exact⟨by simp,by simpa using e⟩
  .cases e2:l.idxOf? x with
   | none=>rw[e2] at h;cases h
   | some k =>
    rw[e2] at h;cases h;obtain⟨B,F⟩:=L e2;exact⟨by simpa using B,by simpa using F⟩
theorem xn (hc:X.calm=true) (hg:Gl X "list") (hm:X.mg "list" = none) (ar:Gl X "zip") (ao:X.mg "zip" = none) (ha:PA X [e1,e2] ta) (hs:j8 [e1,e2] X.env=[(false,eval e1 X.env),(false,eval e2 X.env)]:=by rfl) (ac:j8 [e2] X.env=[(false,eval e2 X.env)]:=by rfl) :
  PE X (.Call (.Name "list" p) [.Call (.Name "zip" p2) [e1,e2] [] pos2] [] pos) (qa ta):=by
 intro pins s σ H Q I h;refine x5 (gD I hg hm (by decide+kernel:y7 "list" = some (.type "list")) ?_)
 refine p7 (JQ ?_) rfl rfl
 refine x5 (gD I ar ao sR ?_)
 refine p7 (thn (ha pos2 pins s σ H _ I h) λus F ⟨vs,H1,I1,r1,q1⟩=>?_) (by rw[hs,ac]) (by rw[ac];rfl)
 obtain⟨a,b,e,xs,aq,ys,ap,az,q⟩:=q1;subst e;obtain⟨u,u2,rfl,ru,am⟩:=sY r1;cases ru;cases am;obtain⟨its,rv,pl,hz⟩:=I1.tuple (SqT.of aq);obtain⟨B,ad,ah,a0⟩:=I1.tuple (SqT.of ap);have n1:=rv.length;have n2:=ad.length;refine sN (q:=false) (show F.heap.IsTuple a its.toArray from pl) (show F.heap.IsTuple b B.toArray from ah) λg z P O II J Z D l1 l2 l3 l4 l5 kg=>?_
 refine JY ?_
 have pg:g.IsTuple a its.toArray:=(show F.heap.IsTuple a its.toArray from pl).at λo e=>kg a o e
 have aw:g.IsTuple b B.toArray:=(show F.heap.IsTuple b B.toArray from ah).at λo e=>kg b o e
 refine Co (s:={ F with heap:=g }) (I.ok.hd hc) D Z pg aw (by simp only[j_];omega) λg2 ts a1 c k2 hz hl ay hL=>?_
 have Y:F.heap.objs.size<=g.objs.size:=by have:=f_ Z.zz;exact Jc (rb l1 this)
 have kk : ∀b o,F.heap.get? b=some o->g2.get? b=some o:=λb o e=>by
  refine k2 b o (λhm=>?_) (kg b o e)
  have hb:=f_ e;simp only[i7,n6,or_false] at hm;rcases hm with rfl | rfl | rfl | rfl | rfl
  .exact absurd (hH hb l1) (s_ _)
  .exact absurd (hH hb l2) (s_ _)
  .exact absurd (hH hb l3) (s_ _)
  .exact absurd (hH hb l4) (s_ _)
  .exact absurd (hH hb l5) (s_ _)
 change qY g2 (g.objs.size+1) its.toArray B.toArray ts at hz;change g2.get? g.objs.size=_ at hL;simp only[j_] at hl
 let H2:Hp:=λc=>if c < F.heap.objs.size then H1 c else if c=g.objs.size then some (.lst (ts.map V.ref)) else
  match ts.idxOf? c with | none=>none | some j=>match xs[j]?,ys[j]? with | some x,some y=>some (.tup [x,y]) | _,_=>none
 have hold : ∀c,c < F.heap.objs.size->H2 c=H1 c:=λc hc=>if_pos hc
 have an : ¬ g.objs.size < F.heap.objs.size:=not_lt.mpr Y
 have aa:H2 g.objs.size*>(ts.map V.ref):=by show(if _ then _ else _)=_;rw[if_neg an,if_pos rfl]
 have ax:ts.length<=10000:=()
 have ag : ∀(j:Nat) (t:Addr) (x y:V),ts[j]? = some t->xs[j]? = some x->ys[j]? = some y->H2 t>>[x,y]:=λj t x y e1 e2 e3=>by
  obtain⟨_,_,_,_,_,ab⟩:=hz.2 j t e1;have hj:j < ts.length:=(g_.mp e1).1
  have L:ts.idxOf? t=some j:=by
   have e4:=(g_.mp e1).2;rw[<- e4];exact BC hz.1 hj
  show(if _ then _ else _)=_
  rw[if_neg (not_lt.mpr (i8 Y (i8 (le_succ _) ab))),if_neg (sn ab)];rw[L];simp only[e2,e3]
 have ak : ∀c u,F.heap.objs.size<=c->H2 c=some u->bC X.prog X.w H2 g2 c u:=λc u hc e=>by
  by_cases af:c=g.objs.size
  .subst af
   rw[aa] at e;cases e;exact⟨by rw[d_];exact i8 ax ∅,ts.map j6,_,sO ts,by rw[hL,<- ay]⟩
  .change (if _ then _ else _)=_ at e
   rw[if_neg (not_lt.mpr hc),if_neg af] at e;cases L:ts.idxOf? c with
   | none=>rw[L] at e;cases e
   | some j =>
    rw[L] at e;obtain⟨hj,ej⟩:=Dc L;have e1:ts[j]? = some c:=by rw[o9 hj,ej]
    obtain⟨vx,vy,h1,h2,h3,_⟩:=hz.2 j c e1;simp only[Kc] at h1 h2;obtain⟨x,hx⟩ : ∃x,xs[j]? = some x:=⟨xs[j]'(by rw[n1];exact(g_.mp h1).1),by simp⟩
    obtain⟨y,hy⟩ : ∃y,ys[j]? = some y:=⟨ys[j]'(by rw[n2];exact(g_.mp h2).1),by simp⟩
    simp only[hx,hy] at e;cases e;obtain⟨v1,ai,rx⟩:=rv.get hx;obtain⟨v2,aj,ry⟩:=ad.get hy;rw[h1] at ai;rw[h2] at aj;cases ai;cases aj;exact⟨by show 2<=hB;decide,[vx,vy],.cons rx (.cons ry .nil),⟨_,h3,rfl,_,rfl⟩⟩
 refine⟨.ref g.objs.size,H2,I1.grown (t':=F.toks) kk hold ak,rfl,q g.objs.size ts H2 (λb o e=>by rw[hold b (I1.hok b o e).lt];exact e) (I1.hok.fresh Y) aa ⟨(),ag⟩⟩
end
end L2
namespace PyProof.Rows
open PySem PySem.Spec
theorem wF {t:Addr} {Q:List Value->Shared->Prop} (Z:s.heap.IsTuple t us.toArray) (hn:us.length<=1000)
  (k:Q us { s with heap:=(s.heap.push (seqObj "list" #[] 0)).update s.heap.objs.size (x6 (· ++ us.toArray)) }):wpAny (model prog w) A (collect (.ref t)) Q E s:=by
 obtain⟨F,h1,h2,n,Y⟩:=id Z;unfold collect;refine a_ (wpAny_runValue (KB entry_proto_collect' ?_))
 change wpAny _ _ (do again (.builtin "list.__iadd__" ⟨[<- newList [],.ref t],[]⟩)) _ _ s;refine a_ (wpAny_newList (e_ ⟨Code.quiet_builtin _ (by decide+kernel),KB entry_list_iadd' ?_⟩))
 change wpAny _ _ (p8 (.ref s.heap.objs.size) (.ref t) (.ref s.heap.objs.size)) _ _ { s with heap:=s.heap.push (seqObj "list" #[] 0) }
 unfold p8;have B:(s.heap.push (seqObj "list" #[] 0)).get? t=some F:=c_ _ h1
 refine a_ (J_ (T := "tuple") ⟨F,B,h2⟩ ?_)
 have L:(y2 "tuple" == y2 "tuple")=true:=by rfl
 rw[if_pos (by rw[L];simp)]
 refine a_ (listItems_at B Y (a_ (listItems_at (xs := #[]) (n:=0) (gt _ rfl) rfl ?_)))
 rw[if_neg (by simp)]
 have hz:us.length<=hB:=i8 hn ∅
 refine a_ (listUpdate_at (xs := #[]) (n:=0) (gt _ rfl) rfl (e_ ?_) (y6 _) (by show(#[]++us.toArray).size<=hB+1;simp only[Array.size_append,j_,length_nil];omega))
 refine a_ (m:=load s.heap.objs.size) (wpAny_load (get?_update_seq (gt _ rfl) _) ?_)
 change wpAny _ _ (pure ((#[]:Array Value)++us.toArray).toList) Q E _;rw[show((#[]:Array Value)++us.toArray).toList=us by simp]
 exact e_ k
theorem tY {t:Addr} (ht:s.heap.IsTuple t us.toArray) (hi:KI us ns) (hl:us.length < 64)
  (k : ∀(B:Array Value) (ms:List Int),KI B.toList ms->ms.Perm ns->ms.Pairwise (·<=·)->Q (.ref (s.heap.objs.size+1)) { s with heap:=sortedAll s.heap us B }) :
  wpAny (model prog w) A (call (.builtin "sorted") [.ref t]) Q E s:=by
 refine Calls.call_function_entry kind_sorted plain_sorted entry_sorted (args_sorted1 _) ?_
 unfold Builtin.«sorted»;refine a_ (m:=checkCount "sorted" 1 1 _) (e_ (a_ (wF ht () (a_ (wpAny_newList ?_)))))
 have F:((s.heap.push (seqObj "list" #[] 0)).update s.heap.objs.size (x6 (· ++ us.toArray))).objs.size=s.heap.objs.size+1:=by rw[Kq,size_push']
 have L:(((s.heap.push (seqObj "list" #[] 0)).update s.heap.objs.size (x6 (· ++ us.toArray))).push (seqObj "list" us.toArray 0)).get? (s.heap.objs.size+1)=some (seqObj "list" us.toArray 0):=by rw[<- F];exact gt _ rfl
 change wpAny _ _ _ _ _ { s with heap:=((s.heap.push (seqObj "list" #[] 0)).update s.heap.objs.size (x6 (· ++ us.toArray))).push (seqObj "list" us.toArray 0) }
 rw[F];refine a_ (u7 (o7 slot_list_sort ⟨_,L,rfl⟩ entry_list_sort (list_sort_tree L hi hl λB ms Y Z a3=>⟨_,rfl,e_ ⟨_,rfl,k B ms Y Z a3⟩⟩) (args_list_sort _)))
theorem BD {t:Addr} {xs:Array (Int × Tok)} (Y:A.handled=none) (hl:s.heap.IsTuple t (JX xs)) (B:0 < xs.size)
  (k : ∀v g tk,(JX xs)[argBest (λi j=>decide (numAt xs i < numAt xs j)) (xs.size - 1)]? = some v->(∀b o,s.heap.get? b=some o->g.get? b=some o)->Q v { s with heap:=g,toks:=tk }):wpAny (model prog w) A (call (.builtin "min") [.ref t]) Q E s:=by
 obtain⟨ot,h1,_⟩:=id hl;refine call_min_walk (u5 hl ?_)
 refine⟨s.heap.objs.size,_,_,_,_,_,_,rfl,Walks.tuple (A:=A.in1) Y _ t (mu (f_ h1)) (JX xs),⟨⟨_,gt _ rfl,rfl,rfl⟩,hl.at λo e=>c_ _ e⟩,λb F=>?_,by simpa [JX] using B,CmpOf.ints_lt (numAt xs) (λ_ _=>intItems_at),λv g tk Z L=>k v g tk (by simpa [JX] using Z) λb o e=>?_⟩
 .have sz:(s.heap.push { cls:=.type "tuple_iterator",data:=.fields #[.ref t,.int 0 0] }).objs.size=s.heap.objs.size+1:=o8 ..
  show b < (s.heap.push { cls:=.type "tuple_iterator",data:=.fields #[.ref t,.int 0 0] }).objs.size
  rw[sz];rcases i7.mp F with rfl | F
  .exact G_ _
  .rw[gr.mp F];exact Ks (f_ h1)
 .exact L b o (λhm=>absurd (gr.mp hm ▸ f_ e) (s_ _)) (c_ _ e)
theorem Bk {t:Addr} {xs:Array (Int × Tok)} (Y:A.handled=none) (hl:s.heap.IsTuple t (JX xs)) (B:0 < xs.size)
  (k : ∀v g tk,(JX xs)[argBest (λi j=>decide (numAt xs i > numAt xs j)) (xs.size - 1)]? = some v->(∀b o,s.heap.get? b=some o->g.get? b=some o)->Q v { s with heap:=g,toks:=tk }):wpAny (model prog w) A (call (.builtin "max") [.ref t]) Q E s:=by
 obtain⟨ot,h1,_⟩:=id hl;refine call_max_walk (u5 hl ?_)
 refine⟨s.heap.objs.size,_,_,_,_,_,_,rfl,Walks.tuple (A:=A.in1) Y _ t (mu (f_ h1)) (JX xs),⟨⟨_,gt _ rfl,rfl,rfl⟩,hl.at λo e=>c_ _ e⟩,λb F=>?_,by simpa [JX] using B,CmpOf.ints_gt (numAt xs) (λ_ _=>intItems_at),λv g tk Z L=>k v g tk (by simpa [JX] using Z) λb o e=>?_⟩
 .have sz:(s.heap.push { cls:=.type "tuple_iterator",data:=.fields #[.ref t,.int 0 0] }).objs.size=s.heap.objs.size+1:=o8 ..
  show b < (s.heap.push { cls:=.type "tuple_iterator",data:=.fields #[.ref t,.int 0 0] }).objs.size
  rw[sz];rcases i7.mp F with rfl | F
  .exact G_ _
  .rw[gr.mp F];exact Ks (f_ h1)
 .exact L b o (λhm=>absurd (gr.mp hm ▸ f_ e) (s_ _)) (c_ _ e)
end PyProof.Rows
namespace L2
open PySem PySem.Spec PyProof.Rows
def pP:List V->Hp->VK->Prop:=λxs H Q=>∃p,xs=[.ref p]/\∃ns:List Int,H p>>(ns.map V.int)/\ns.length < 64/\∀(q:Addr) (ms:List Int),H q=none->ms.Perm ns->ms.Pairwise (·<=·)->Q (.ref q) (upd H q (.lst (ms.map V.int)))
theorem uC:bK X (.builtin "sorted") pP:=by
 intro pins s σ H xs us Q I r h;obtain⟨p,rfl,ns,hp,hl,q⟩:=h;obtain⟨u,rfl,ru⟩:=dD r;cases ru;obtain⟨its,rv,pl,hz⟩:=I.tuple (SqT.of hp);have L:=rv.length;rw[d_] at L;refine tY (show s.heap.IsTuple p its.toArray from pl) (eK rv) () λF ms Z B Y=>?_
 obtain⟨e,he⟩:=sortedAll_at s.heap its F;have aa:F=F.toList.toArray:=by simp
 refine⟨.ref (s.heap.objs.size+1),_,I.laid (a:=s.heap.objs.size+1) (o:=.lst (ms.map V.int)) (t':=s.toks) (λb o e=>sortedAll_old e) (le_succ _) ⟨?_,F.toList,e,nN Z,by rw[he]⟩,rfl,q _ ms (I.hok.fresh (le_succ _)) B Y⟩
 rw[d_,B.length_eq];exact Jc (aK ())
def Ck:List V->Hp->VK->Prop:=λxs H Q=>∃p,xs=[.ref p]/\∃ns:List Int,H p>>(ns.map V.int)/\ns≠[]/\∀m,m∈ns->(∀x∈ns,m<=x)->Q (.int m) H
def Ch:List V->Hp->VK->Prop:=λxs H Q=>∃p,xs=[.ref p]/\∃ns:List Int,H p>>(ns.map V.int)/\ns≠[]/\∀m,m∈ns->(∀x∈ns,x<=m)->Q (.int m) H
def Bz:List V->Hp->VK->Prop:=λxs H Q=>∃p,xs=[.ref p]/\∃ns:List Int,H p*>(ns.map V.int)/\ns≠[]/\∀m,m∈ns->(∀x∈ns,m<=x)->Q (.int m) H
def Az:List V->Hp->VK->Prop:=λxs H Q=>∃p,xs=[.ref p]/\∃ns:List Int,H p*>(ns.map V.int)/\ns≠[]/\∀m,m∈ns->(∀x∈ns,x<=m)->Q (.int m) H
theorem yQ {xs:Array (Int × Tok)} (B:ns=xs.toList.map (·.1)) (L:0 < xs.size):numAt xs (argBest (λi j=>decide (numAt xs i < numAt xs j)) (xs.size - 1))∈ns/\∀a∈ns,numAt xs (argBest (λi j=>decide (numAt xs i < numAt xs j)) (xs.size - 1))<=a:=by
 obtain⟨h1,h2⟩:=argBest_lt (numAt xs) (xs.size - 1);refine⟨?_,λa ha=>?_⟩
 .rw[B,numAt_eq];exact PySem.getD_mem (by rw[d_,F_];omega)
 .rw[B] at ha
  obtain⟨j,F,rfl⟩:=mem_getD ha;rw[d_,F_] at F;rw[<- numAt_eq];exact h2 j ()
theorem yY {xs:Array (Int × Tok)} (B:ns=xs.toList.map (·.1)) (L:0 < xs.size):numAt xs (argBest (λi j=>decide (numAt xs i > numAt xs j)) (xs.size - 1))∈ns/\∀a∈ns,a<=numAt xs (argBest (λi j=>decide (numAt xs i > numAt xs j)) (xs.size - 1)):=by
 obtain⟨h1,h2⟩:=argBest_gt (numAt xs) (xs.size - 1);refine⟨?_,λa ha=>?_⟩
 .rw[B,numAt_eq];exact PySem.getD_mem (by rw[d_,F_];omega)
 .rw[B] at ha
  obtain⟨j,F,rfl⟩:=mem_getD ha;rw[d_,F_] at F;rw[<- numAt_eq];exact h2 j ()
theorem iS (hi:KI its ns) (F:ns≠[]) : ∃xs:Array (Int × Tok),its.toArray=JX xs/\ns=xs.toList.map (·.1)/\0 < xs.size:=by
 obtain⟨xs,e⟩:=hi.allInts.items;have B:ns=xs.toList.map (·.1):=by rw[<- hi.numsOf,<- nums_intItems,<- e]
 refine⟨xs,e,B,?_⟩
 have L:=J2.mpr F;rw[B,d_,F_] at L;exact L
theorem su (hc:X.calm=true):bK X (.builtin "min") Ck:=by
 intro pins s σ H xs us Q I r h;obtain⟨p,rfl,ns,hp,F,q⟩:=h;obtain⟨u,rfl,ru⟩:=dD r;cases ru;obtain⟨its,Z,pl,hz⟩:=I.tuple (SqT.of hp);obtain⟨xs,e,L,Y⟩:=iS (eK Z) F;have B:s.heap.IsTuple p its.toArray:=pl
 rw[e] at B;refine BD (I.ok.hd hc) B Y λv g tk hv hk=>?_
 obtain⟨t,rfl⟩:=intItems_at hv;obtain⟨b1,b2⟩:=yQ L Y;exact⟨V.int _,H,I.kept (t':=tk) hk,⟨t,rfl⟩,q _ b1 b2⟩
theorem Av (hc:X.calm=true):bK X (.builtin "max") Ch:=by
 intro pins s σ H xs us Q I r h;obtain⟨p,rfl,ns,hp,F,q⟩:=h;obtain⟨u,rfl,ru⟩:=dD r;cases ru;obtain⟨its,Z,pl,hz⟩:=I.tuple (SqT.of hp);obtain⟨xs,e,L,Y⟩:=iS (eK Z) F;have B:s.heap.IsTuple p its.toArray:=pl
 rw[e] at B;refine Bk (I.ok.hd hc) B Y λv g tk hv hk=>?_
 obtain⟨t,rfl⟩:=intItems_at hv;obtain⟨b1,b2⟩:=yY L Y;exact⟨V.int _,H,I.kept (t':=tk) hk,⟨t,rfl⟩,q _ b1 b2⟩
theorem nw (hc:X.calm=true):bK X (.builtin "min") Bz:=by
 intro pins s σ H xs us Q I r h;obtain⟨p,rfl,ns,hp,F,q⟩:=h;obtain⟨u,rfl,ru⟩:=dD r;cases ru;obtain⟨its,Z,pl,hz⟩:=I.list (SqL.of hp);obtain⟨xs,e,L,Y⟩:=iS (eK Z) F;have B:=pl.isList;rw[e] at B;refine min_intList (I.ok.hd hc) B Y λv g tk hv hk=>?_
 obtain⟨t,rfl⟩:=intItems_at hv;obtain⟨b1,b2⟩:=yQ L Y;exact⟨V.int _,H,I.kept (t':=tk) hk,⟨t,rfl⟩,q _ b1 b2⟩
theorem sQ (hc:X.calm=true):bK X (.builtin "max") Az:=by
 intro pins s σ H xs us Q I r h;obtain⟨p,rfl,ns,hp,F,q⟩:=h;obtain⟨u,rfl,ru⟩:=dD r;cases ru;obtain⟨its,Z,pl,hz⟩:=I.list (SqL.of hp);obtain⟨xs,e,L,Y⟩:=iS (eK Z) F;have B:=pl.isList;rw[e] at B;refine max_intList (I.ok.hd hc) B Y λv g tk hv hk=>?_
 obtain⟨t,rfl⟩:=intItems_at hv;obtain⟨b1,b2⟩:=yY L Y;exact⟨V.int _,H,I.kept (t':=tk) hk,⟨t,rfl⟩,q _ b1 b2⟩
def G9 (H:Hp) (p:Addr) (ys:List V):Prop:=H p*>ys\/H p>>ys
def xR:List V->Hp->VK->Prop:=λxs H Q=>∃p,xs=[.ref p]/\∃ys,G9 H p ys/\∀l,H l=none->Q (.ref l) (upd H l (.lst ys))
theorem wZ:bK X (.type "list") xR:=lV.imp λ_ _ _ B=>by obtain⟨p,e,ys,h,q⟩:=B;exact(⟨p,ys,e,h.imp .of .of,q⟩)
def inD (d:KJ) (ds:List KJ):Bool:=ds.any λe=>z_ e d
def Ey (K:fy) (B:Bool):R2:=λx y H Q=>∃dx ds,Rep K H x dx/\Rep K H y (.tuple ds)/\dx.canLay0=true/\w9 ds=true/\dx.depth<=100/\Q (.bl (if B then !inD dx ds else inD dx ds)) H
def Ev (K:fy) (B:Bool):R2:=λx y H Q=>∃dx ds,Rep K H x dx/\Rep K H y (.list ds)/\dx.canLay0=true/\w9 ds=true/\dx.depth<=100/\Q (.bl (if B then !inD dx ds else inD dx ds)) H
theorem yI (hu:X.A.units+102 < cLine):OpR X (t3 .In) (Ey X.K false):=by
 intro pins s σ H x y v u Q I F Z h;obtain⟨dx,ds,h1,h2,L,B,h5,q⟩:=h;obtain⟨as,r1⟩:=I.reads h1 F;obtain⟨bs,Y⟩:=I.reads h2 Z;exact PySem.SeqAt.in_tuple_reads Y r1 B L () ⟨.bl _,H,I,rfl,q⟩
theorem yc (hu:X.A.units+102 < cLine):OpR X (t3 .NotIn) (Ev X.K true):=by
 intro pins s σ H x y v u Q I F Z h;obtain⟨dx,ds,h1,h2,L,B,h5,q⟩:=h;obtain⟨as,r1⟩:=I.reads h1 F;obtain⟨bs,Y⟩:=I.reads h2 Z;exact PySem.SeqAt.notIn_list_reads Y r1 B L () ⟨.bl _,H,I,rfl,q⟩
theorem AI (B:dg k A):A.units+102 < cLine:=by have:=B.un;omega
theorem lay_ints : ∀ns:List Int,w9 (ns.map G2)=true
 | []=>rfl
 | n :: ns=>by
  rw[i_];unfold w9;rw[lay_ints ns];rfl
theorem depth_ints : ∀ns:List Int,Jj (ns.map G2)=0
 | []=>rfl
 | n :: ns=>by
  rw[i_];unfold Jj;rw[depth_ints ns];rfl
def jM (r:List Int):KJ:=.tuple (r.map G2)
theorem lE (r:List Int):(jM r).canLay0=true:=by unfold jM PyData.canLay0;exact lay_ints r
theorem mY (r:List Int):(jM r).depth<=1:=by unfold jM KH;rw[depth_ints];decide
theorem oP : ∀(a b:List Int),Ja (a.map G2) (b.map G2)=decide (a=b)
 | [],[]=>rfl
 | [],_ :: _=>by simp[Ja]
 | _ :: _,[]=>by simp[Ja]
 | x :: a,y :: b=>by
  rw[i_,i_];unfold Ja;rw[oP a b];have:z_ (.int x) (.int y)=decide (x=y):=by
   simp only[z_];rw[n9];simp
  rw[this]
  by_cases h:x=y <;> by_cases h2:a=b <;> simp[h,h2]
theorem ze (a b:List Int):z_ (jM a) (jM b)=decide (a=b):=by
 unfold jM;unfold z_;exact oP a b
theorem qU : ∀B:List (List Int),w9 (B.map jM)=true
 | []=>rfl
 | r :: B=>by
  rw[i_];unfold w9;rw[qU B,lE];rfl
theorem wE (r:List Int) (B:List (List Int)):inD (jM r) (B.map jM)=decide (r∈B):=by
 unfold inD
 induction B with
 | nil=>rfl
 | cons q B F =>
  rw[i_,any_cons,F,ze]
  by_cases h:q=r
  .simp[h]
  .simp[h]
   exact λe=>absurd e.symm h
def ipM:TIp:=λx y H Q=>∃i,x = .int i/\∃j,y = .int j/\Aq i j/\Q (.int (i * j)) H
theorem E4:PIp X .Mult ipM:=by
 intro pins s σ H x y v u Q I L F h;obtain⟨i,rfl,j,rfl,B,q⟩:=h;obtain⟨t,rfl⟩:=L;obtain⟨t',rfl⟩:=F;exact imul_int ⟨.int _,H,I.tok _,⟨_,rfl⟩,q⟩ B.ok
def eQ (H:Hp) (vs:List V) (rows:List (List Int)):Prop:=∃as:List (Addr × List Int),vs=as.map (λx=>V.ref x.1)/\rows=as.map (·.2)/\∀x∈as,H x.1>>(x.2.map V.int)
theorem eQ.nil:eQ H [] []:=⟨[],rfl,rfl,λx B=>by simp at B⟩
theorem eQ.keep (h:eQ H vs rows) (k : ∀a xs,H a>>xs->H' a>>xs):eQ H' vs rows:=by
 obtain⟨as,h1,h2,B⟩:=h;exact⟨as,h1,h2,λx F=>k _ _ (B x F)⟩
theorem eQ.snoc {t:Addr} {r:List Int} (h:eQ H vs rows) (F:H t>>(r.map V.int)):eQ H (vs++[.ref t]) (rows++[r]):=by
 obtain⟨as,h1,h2,B⟩:=h;refine⟨as++[(t,r)],by simp[h1],by simp[h2],λx L=>?_⟩
 rcases j9.mp L with z | z
 .exact B x z
 .rw[gr.mp z];exact F
theorem eQ.length {H:Hp} {vs:List V} {rows:List (List Int)} (h:eQ H vs rows):vs.length=rows.length:=by
 obtain⟨as,h1,h2,B⟩:=h;rw[h1,h2,d_,d_]
theorem eQ.reps (h:eQ H vs rows):gT K H vs (rows.map jM):=by
 obtain⟨as,rfl,rfl,B⟩:=h
 induction as with
 | nil=>exact .nil
 | cons x as F=>exact .cons (.tup (.of (B x (by simp))) (gT.ints _)) (F λy L=>B y (by simp[L]))
theorem yn {t w:Addr} {r:List Int} {Q:VK} (L:H t>>(r.map V.int)) (F:H w>>vs) (B:eQ H vs rows) (q:Q (.bl (decide (r∈rows))) H):Ey K false (.ref t) (.ref w) H Q :=
 ⟨jM r,rows.map jM,.tup (.of L) (gT.ints r),.tup (.of F) B.reps,lE r,qU rows,i8 (mY r) ∅,by rw[wE];exact q⟩
theorem xP {t w:Addr} {r:List Int} {Q:VK} (L:H t>>(r.map V.int)) (F:H w*>vs) (B:eQ H vs rows) (q:Q (.bl (!decide (r∈rows))) H):Ev K true (.ref t) (.ref w) H Q :=
 ⟨jM r,rows.map jM,.tup (.of L) (gT.ints r),.lst (.of F) B.reps,lE r,qU rows,i8 (mY r) ∅,by rw[wE];exact q⟩
end L2
namespace PySem
open AutoSeq1 (wpAny_loadPart')
theorem Draws.tup (Y:A.handled=none) (J T:Addr) (B:T≠J) (vs:Array Value) :
  Draws prog w A J [J,T] vs.size (λi v=>vs[i]? = some v) (λi h=>h.IsTupleIter J T i/\h.IsTuple T vs) where
 live:=λ_ _ st=>let ⟨o,ho,_⟩:=st.1;⟨o,ho⟩
 frame:=λ_ _ _ st L=>⟨st.1.at λo e=>L J (by simp) o e,st.2.at λo e=>L T (by simp) o e⟩
 item:=λi s Q E hi st F=>jh st.1 st.2 (Js hi) λg a b=>F _ g s.toks (Js hi) ⟨a,st.2.at λo e=>(b.2 T B).trans e⟩ b
 done:=λs Q E st F=>eL Y st.1 st.2 (JU (i6 _)) F
theorem xr (T:Addr) (vs:Array Value) (n:Nat) (Y:Option Addr) (sl:Array (Option Value)) :
  Meets (Builtin.«enumerate.__new__» ⟨[.type "enumerate",.ref T],[]⟩) (λ_ R s=>s.heap.get? T=some { cls:=.type "tuple",dict:=Y,data:=.seq vs n,slots:=sl } /\
   R (.ok (.ret (.ref (s.heap.push { cls:=.type "tuple_iterator",data:=.fields #[.ref T,.int 0 0] }).objs.size)))
    { s with heap:=(s.heap.push { cls:=.type "tuple_iterator",data:=.fields #[.ref T,.int 0 0] }).push { cls:=.type "enumerate",data:=.fields #[.none,.bool false,.ref s.heap.objs.size,x8 0,.none,.none] } }) :=
 .of_wp λprog w A R s h=>by
  obtain⟨hp,g,d,tk,Z⟩:=s;obtain⟨B,h⟩:=h;have L:=sub_enumerate;have F:KL (Shared.heap ⟨hp,g,d,tk,Z⟩) T vs:=⟨_,B,rfl,n,rfl⟩
  wp_walk using wpAny_loadPart' B
  refine wpAny_stack_any λst=>e_ ?_
  split
  .rename_i c _ _ _ _ _
   cases (c == y2 "enumerate")
   .wp_walk using wpAny_loadPart' B,u5 F
    exact⟨_,rfl,h⟩
   .wp_walk using wpAny_loadPart' B,u5 F
    exact⟨_,rfl,h⟩
  .wp_walk using wpAny_loadPart' B,u5 F
   exact⟨_,rfl,h⟩
theorem wN {vs:Array Value} (ht:s.heap.IsTuple T vs)
  (k : ∀g e J,IsEnum g e J 0 .none->g.IsTupleIter J T 0->e≠J->s.heap.objs.size<=e->s.heap.objs.size<=J->(∀b o,s.heap.get? b=some o->g.get? b=some o)->Q (.ref e) { s with heap:=g }) :
  wpAny (model prog w) A (call (.type "enumerate") [.ref T]) Q E s:=by
 obtain⟨⟨cls,Z,data,sl⟩,h1,h2,n,Y⟩:=ht;simp only at h2 Y;subst h2 Y;refine callType_new F.called_enumerate ∅ (F.typeCall_enumerate_1 _) (F.newCall_enumerate_1 _) (λobj=>F.args_object_init_2 obj _) F.entry_enumerate_new (xr T vs n Z sl) ⟨h1,?_⟩
 have L:(s.heap.push { cls:=.type "tuple_iterator",data:=.fields #[.ref T,.int 0 0] }).objs.size=s.heap.objs.size+1:=o8 ..
 have B:((s.heap.push { cls:=.type "tuple_iterator",data:=.fields #[.ref T,.int 0 0] }).push { cls:=.type "enumerate",data:=.fields #[.none,.bool false,.ref s.heap.objs.size,x8 0,.none,.none] }).get? (s.heap.push { cls:=.type "tuple_iterator",data:=.fields #[.ref T,.int 0 0] }).objs.size=some _:=gt _ rfl
 have g2:((s.heap.push { cls:=.type "tuple_iterator",data:=.fields #[.ref T,.int 0 0] }).push { cls:=.type "enumerate",data:=.fields #[.none,.bool false,.ref s.heap.objs.size,x8 0,.none,.none] }).get? s.heap.objs.size=some _:=c_ _ (gt _ rfl)
 refine⟨⟨_,B,rfl⟩,k _ _ s.heap.objs.size B ⟨_,g2,rfl,rfl⟩ ?_ ?_ (i6 _) λb o e=>c_ _ (c_ _ e)⟩
 .rw[L];exact Nat.succ_ne_self _
 .rw[L];exact le_succ _
theorem At:Ko (.type "tuple") "__reversed__" = pure none:=by rw[C_,v_];kernel_rfl
theorem oW:Ko (.type "tuple") "__getitem__" = pure (some (.builtin "tuple.__getitem__")):=by rw[C_,v_];kernel_rfl
theorem yf:isSubtype (.type "tuple") (.type "dict")=pure false:=by rw[Kb];kernel_rfl
def nX (h:Heap) (z T:Addr) (i:Int):Prop:=h.get? z=some { cls:=.type "reversed",dict:=none,data:=.fields #[.ref T,x8 i],slots := #[] }
theorem Be (T:Addr) (vs:Array Value):Meets (Builtin.«reversed.__new__» ⟨[.type "reversed",.ref T],[]⟩) (λ_ R s=>s.heap.IsTuple T vs/\(vs.size:Int) < 2 ^ 63 /\
   ∀tk,R (.ok (.ret (.ref s.heap.objs.size))) { s with heap:=s.heap.push { cls:=.type "reversed",data:=.fields #[.ref T,x8 ((vs.size:Int) - 1)] },toks:=tk }) :=
 .of_wp λprog w A R s h=>by
  obtain⟨F,L,k⟩:=h;have B:s.TypeIs (.ref T) "tuple" := let ⟨o,h1,h2,_⟩:=F;⟨o,h1,h2⟩
  unfold Builtin.«reversed.__new__»;refine a_ (JW (newClass_reversed _) ?_)
  refine a_ (JW (a:=Unit.unit) (by first | rfl | kernel_rfl) ?_)
  refine a_ (JW (a:=Unit.unit) (by first | rfl | kernel_rfl) ?_)
  refine a_ (y4 B At ?_)
  refine a_ (by
   change wpAny _ _ (isInstance (j6 T) (.type "dict") >>= _) _ _ _;refine a_ (JB (T := "tuple") (b:=false) B yf ?_)
   simp only[h9,if_false];refine a_ (y4 B oW ?_)
   refine e_ ?_
   simp only[Jb,h9,if_false];refine a_ (PyProof.Rows.len_tuple F L (a_ (JW (a:=some ((vs.size:Nat):Int)) (by rfl) (a_ ?_))))
   change wpAny _ _ (newObj (.type "reversed") (.fields #[j6 T,x8 ((vs.size:Int) - 1)])) _ _ _;exact r_ (e_ ⟨_,rfl,k _⟩))
theorem xq:Slot "reversed" "__init__" "object.__init__" :=
 .of (owner := "object") (n := "__init__") (by rw[C_,v_];kernel_rfl) (by decide+kernel) (by decide+kernel) (by decide+kernel) (by first | exact .inl (by decide+kernel) | exact .inr (by decide+kernel)) (by rw[Kb];kernel_rfl)
theorem gM:Slot "reversed" "__next__" "reversed.__next__" :=
 .of (owner := "reversed") (n := "__next__") (by rw[C_,v_];kernel_rfl) (by decide+kernel) (by decide+kernel) (by decide+kernel) (by first | exact .inl (by decide+kernel) | exact .inr (by decide+kernel)) (by rw[Kb];kernel_rfl)
theorem qx:Slot "reversed" "__iter__" "reversed.__iter__" :=
 .of (owner := "reversed") (n := "__iter__") (by rw[C_,v_];kernel_rfl) (by decide+kernel) (by decide+kernel) (by decide+kernel) (by first | exact .inl (by decide+kernel) | exact .inr (by decide+kernel)) (by rw[Kb];kernel_rfl)
theorem oF:entryFor table "reversed.__next__" = some Builtin.«reversed.__next__» := entryFor_of_tree (by kernel_rfl)
theorem vf:entryFor table "reversed.__iter__" = some Builtin.«dict_keyiterator.__iter__» :=
 entryFor_alias (id' := "dict_keyiterator.__iter__") (by kernel_rfl) (by first | rfl | decide+kernel | (unfold String.splitOn;simp+decide [String.splitOnAux])) (by decide+kernel) (by kernel_rfl)
theorem qD (a:Value):argsOk "reversed.__next__" ⟨[a],[]⟩:=by unfold argsOk;kernel_rfl
theorem xu (a:Value):argsOk "reversed.__iter__" ⟨[a],[]⟩:=by unfold argsOk;kernel_rfl
theorem xD:TypeCalled "reversed" "reversed.__new__" "object.__init__" :=
 ⟨by decide+kernel,by decide+kernel,⟨_,_,F.mro_reversed⟩,F.made_reversed,by decide+kernel,F.sub_reversed_self,xq⟩
theorem zW {vs:Array Value} (Y:s.heap.IsTuple T vs) (L:(vs.size:Int) < 2 ^ 63)
  (k : ∀g tk,nX g s.heap.objs.size T ((vs.size:Int) - 1)->(∀b o,s.heap.get? b=some o->g.get? b=some o)->Q (.ref s.heap.objs.size) { s with heap:=g,toks:=tk }) :
  wpAny (model prog w) A (call (.type "reversed") [.ref T]) Q E s:=by
 refine callType_new xD ∅ (F.typeCall_reversed_1 _) (F.newCall_reversed_1 _) (λobj=>F.args_object_init_2 obj _) F.entry_reversed_new (Be T vs) ⟨Y,L,λtk=>?_⟩
 have B:(s.heap.push { cls:=.type "reversed",data:=.fields #[.ref T,x8 ((vs.size:Int) - 1)] }).get? s.heap.objs.size=some _:=gt _ rfl
 exact⟨⟨_,B,rfl⟩,k _ _ B λb o e=>c_ _ e⟩
theorem wB {i:Int} (F:nX s.heap z T i) (h:Q (.ref z) s):wpAny (model prog w) A (pyIter (.ref z)) Q E s:=by
 have B:s.TypeIs (.ref z) "reversed" :=⟨_,F,rfl⟩
 refine wpAny_pyIter_slot B qx (o7 qx B vf (by
  show wpAny _ _ (ret (.ref z)) _ _ s
  exact e_ ⟨_,rfl,"reversed",_,B,gM.lookup,h⟩) (xu _))
theorem BG {vs:Array Value} {x:Value} {Q:Option Value->Shared->Prop} (F:nX s.heap z T (i:Int)) (Y:s.heap.IsTuple T vs) (Z:vs[i]? = some x) (hsz:(vs.size:Int) < 2 ^ 62)
  (k : ∀g tk,nX g z T ((i:Int) - 1)->J7 z s.heap g->Q (some x) { s with heap:=g,toks:=tk }):wpAny (model prog w) A (JP (.ref z)) Q E s:=by
 have B:s.TypeIs (.ref z) "reversed" :=⟨_,F,rfl⟩
 have L:s.TypeIs (.ref T) "tuple" := let ⟨o,h1,h2,_⟩:=Y;⟨o,h1,h2⟩
 have hi:i < vs.size:=(Array.getElem?_eq_some_iff.mp Z).1
 unfold JP;refine a_ (I_ (m9 (name:=b_ "__next__") B gM (o7 gM B oF (by
  unfold Builtin.«reversed.__next__»;refine a_ (JW (a:=(j6 z,[])) rfl ?_)
  change wpAny _ _ (field (.ref z) 0 >>= _) _ _ _;refine a_ (la F rfl (x:=.ref T) rfl ?_)
  change wpAny _ _ (field (.ref z) 1 >>= _) _ _ _;refine a_ (la F rfl (x:=x8 (i:Int)) rfl ?_)
  change wpAny _ _ (if (i:Int) < 0 then _ else _) _ _ _;rw[if_neg ()]
  refine a_ (y4 L oW ?_)
  simp only[isNone_some,h9,if_false];refine a_ (wpAny_mkInt (a_ (I_ ?_)))
  refine PyProof.Rows.getItem_tuple (s:={ s with toks:=s.toks+1 }) Y () () (j:=i) (seqIndex_of () ()) Z ?_
  change wpAny _ _ (field (.ref z) 1 >>= _) _ _ _;refine a_ (la F rfl (x:=x8 (i:Int)) rfl ?_)
  refine a_ (u6 (s:={ s with toks:=s.toks+1 }) F (by simp) λg g1 g2=>e_ ⟨_,rfl,e_ (k g _ g1 g2)⟩)) (qD _))))
theorem Dm {i:Int} {Q:Option Value->Shared->Prop} (L:A.handled=none) (F:nX s.heap z T i) (hi:i < 0) (k : ∀g,Kx z s.heap g->Q none { s with heap:=g }):wpAny (model prog w) A (JP (.ref z)) Q E s:=by
 have B:s.TypeIs (.ref z) "reversed" :=⟨_,F,rfl⟩
 unfold JP;refine a_ (I_ (m9 (name:=b_ "__next__") B gM (o7 gM B oF (by
  unfold Builtin.«reversed.__next__»;refine a_ (JW (a:=(j6 z,[])) rfl ?_)
  change wpAny _ _ (field (.ref z) 0 >>= _) _ _ _;refine a_ (la F rfl (x:=.ref T) rfl ?_)
  change wpAny _ _ (field (.ref z) 1 >>= _) _ _ _;refine a_ (la F rfl (x:=x8 i) rfl ?_)
  change wpAny _ _ (if i < 0 then _ else _) _ _ _;rw[if_pos hi];refine a_ (wpAny_rule (a_ ?_))
  change wpAny _ _ (setField (.ref z) 1 (x8 (-1)) >>= λ_=>setField (.ref z) 0 .none) _ _ _
  refine a_ (u6 F (by simp) λg1 z1 Z=>?_)
  refine u6 z1 (by simp) λg2 z2 s2=>?_
  first
  | change wpAny _ _ (newExc (.type "StopIteration") [] >>= _) _ _ _
  | (refine a_ ?_;change wpAny _ _ (newExc (.type "StopIteration") [] >>= _) _ _ _)
  refine a_ ?_
  simp only[newExc,newTuple];refine a_ (r_ ?_ (by size_fits))
  refine a_ (m:=firstArgMember _ _) (JW (a:=w6) (by first | rfl | (simp only[firstArgMember];rfl)) ?_)
  refine r_ ?_ (by size_fits)
  (simp only[raiseNew];refine a_ (wpAny_handled ?_))
  first | rw[show A.in1.handled=none from L] | rw[L]
  refine a_ (e_ (wpAny_throw ?_))
  refine a_ (JB (T := "StopIteration") (b:=true) ⟨_,gt _ rfl,rfl⟩ isSubtype_stop ?_)
  exact e_ (k _ λb o Y e=>c_ _ (c_ _ (s2.extBut _ _ Y (Z.extBut _ _ Y e))))) (qD _))))
end PySem
namespace L2
open PySem PySem.Spec PyProof.Rows
def Ite (K:fy) (a:Addr):It :=
  ⟨λi H=>∃xs x,SqT K H a xs/\xs[i]? = some x,
   λi H v H'=>∃t x,H t=none/\v = .ref t/\H'=upd H t (.tup [.int (i:Nat),x])/\∀xs,SqT K H a xs->xs[i]? = some x,
   λi H=>∃xs,SqT K H a xs/\xs.length=i⟩
theorem xl {x1} {pos:Pos} (a e J:Addr) (Z:e≠J) :
  uF P w K (.Tuple es x1 pos) (Ite K a) [e,J] e (λi h=>(∃F,IsEnum h e J i F)/\h.IsTupleIter J a i) where
 mem:=by simp
 obj:=λi h st c B=>by
  obtain⟨⟨F,L⟩,oi,i1,i2,i3⟩:=st;simp only[i7,n6,or_false] at B;rcases B with rfl | rfl
  .exact⟨_,L,λv z=>by cases z⟩
  .exact⟨oi,i1,λv z=>by rw[i3] at z;cases z⟩
 keep:=λi h h' st k=>by
  obtain⟨⟨F,L⟩,hi⟩:=st;exact⟨⟨F,k e (by simp) _ L⟩,hi.at λo q=>k J (by simp) o q⟩
 item:=by
  intro X hP hw hK B i pins s σ H E Y hf st hg;subst hP hw hK;obtain⟨xs,x,hq,hx⟩:=hg;obtain⟨its,rv,p,hz⟩:=Y.tuple hq;obtain⟨u,hu,ru⟩:=rv.get hx;obtain⟨⟨F,L⟩,hi⟩:=st;have pl:s.heap.IsTuple a its.toArray:=p
  have aa:a≠J:=λz=>by
   obtain⟨o1,q1,q2,_⟩:=hi;obtain⟨o2,q3,q4,_⟩:=id pl;rw[<- z,q3] at q1;cases q1;rw[q4] at q2;exact absurd q2 (by simp)
  have ah:e∉[J,a]:=λhm=>by
   rcases i7.mp hm with z | z
   .exact Z z
   .have z:=gr.mp z
    obtain⟨o2,q3,q4,_⟩:=id pl;rw[<- z,L] at q3;cases q3;exact absurd q4 (by simp)
  have ak:i < its.toArray.size:=by simpa using (g_.mp hu).1
  refine wpAny_pyNext_enum_itemD (Draws.tup (A:=X.A.in1) (show X.A.in1.handled=none from Y.ok.hd B) J a aa its.toArray) L ⟨hi,pl⟩ ak Z ah λv g tk hv ho af ht hs hk=>?_
  have ai:v=u:=by
   simp only[Kc] at hv;rw[hu] at hv;exact(ge hv).symm
  subst ai;refine⟨_,rfl,wpAny_letOwnedTupleGo_enum (s:={ s with heap:=g,toks:=tk+1 }) ho λg2 aj s2=>?_⟩
  have ab:e < s.heap.objs.size:=f_ L
  have am:J < s.heap.objs.size:=by obtain⟨o1,q1,_⟩:=hi;exact f_ q1
  have ac:H s.heap.objs.size=none:=Y.hok.fresh (i6 _)
  have I2:Inv X pins σ (upd H s.heap.objs.size (.tup [.int (i:Nat),x])) { s with heap:=g2,toks:=tk+1 }:=Y.turnedNew (t':=tk+1) (fp:=[e,J]) (λc o B q=>by
    simp only[i7,n6,or_false,not_or] at B;exact(s2.2 c B.1).trans (hk c o B.1 B.2 q)) hf (i6 _)
   ⟨by show 2<=hB;decide,[.int i tk,v],.cons ⟨tk,rfl⟩ (.cons ru .nil),⟨_,(s2.2 _ (sn ab)).trans ht,rfl,_,rfl⟩⟩
  refine⟨.ref s.heap.objs.size,_,I2,rfl,⟨_,x,ac,rfl,rfl,λzs ad=>by rw[Y.tuple_inj ad hq];exact hx⟩,⟨⟨v,by simpa using aj⟩,af.1.at λo q=>(s2.2 J Z.symm).trans q⟩,λc B=>?_⟩
  simp only[i7,n6,or_false] at B;rcases B with rfl | rfl
  .rw[ag (mu ab)];exact(hf _ (by simp)).1
  .rw[ag (mu am)];exact(hf _ (by simp)).1
 done:=by
  intro X hP hw hK B i pins s σ H E Y hf st hg;subst hP hw hK;obtain⟨xs,hq,hx⟩:=hg;obtain⟨its,rv,p,hz⟩:=Y.tuple hq;obtain⟨⟨F,L⟩,hi⟩:=st;have pl:s.heap.IsTuple a its.toArray:=p
  have aa:a≠J:=λz=>by
   obtain⟨o1,q1,q2,_⟩:=hi;obtain⟨o2,q3,q4,_⟩:=id pl;rw[<- z,q3] at q1;cases q1;rw[q4] at q2;exact absurd q2 (by simp)
  have hn:its.toArray.size=i:=by have:=rv.length;simp;omega
  subst hn;refine wpAny_pyNext_enum_endD (Draws.tup (A:=X.A.in1) (show X.A.in1.handled=none from Y.ok.hd B) J a aa its.toArray) L ⟨hi,pl⟩ λg hk=>⟨rfl,Y.turnedL (t':=s.toks) (fp:=[e,J]) (λc o B q=>hk c o (λz=>B (by simp[z])) q) hf⟩
 self:=λ_ _ _ _ _ st h=>by
  obtain⟨⟨F,L⟩,_⟩:=st;exact wpAny_pyIter_enum L h
def iE (K:fy) (ta:TA):TI:=λσ H R=>ta σ H λvs H1=>∃a,vs=[.ref a]/\∃xs,H1 a>>xs/\R (Ite K a) H1
theorem xj:y7 "enumerate" = some (.type "enumerate"):=by decide+kernel
theorem AY {ta:TA} {p:Pos} {x1} (hK:X.K=K) (hg:Gl X "enumerate") (hm:X.mg "enumerate" = none) (ha:PA X [e1] ta) (hs:j8 [e1] X.env=[(false,eval e1 X.env)]:=by rfl) :
  PI X (.Tuple es x1 pos') (.Call (.Name "enumerate" p) [e1] [] pos) (iE K ta):=by
 subst hK;intro pins s σ H R I h;refine Call_ (gD I hg hm xj (p7 (thn (ha pos pins s σ H _ I h) λus F ⟨vs,H1,I1,r1,q1⟩=>?_) (by rw[hs];rfl) rfl))
 obtain⟨a,e,xs,L,q⟩:=q1;subst e;obtain⟨u,rfl,ru⟩:=dD r1;cases ru;obtain⟨its,rv,pl,hz⟩:=I1.tuple (SqT.of L);refine wN (show F.heap.IsTuple a its.toArray from pl) λg e J Z hJ B l1 Y kg=>?_
 refine wpAny_pyIter_enum (s:={ F with heap:=g }) Z ⟨e,[e,J],_,_,H1,rfl,I1.kept (t':=F.toks) kg,xl a e J B,⟨⟨_,Z⟩,hJ⟩,λc hc=>?_,q⟩
 simp only[i7,n6,or_false] at hc;rcases hc with rfl | rfl
 .exact I1.fpOk l1 (I1.hok.fresh l1)
 .exact I1.fpOk Y (I1.hok.fresh Y)
theorem F8 {g:TG} (B:Nat->St->Hp->Prop) (Y:B 0 σ H) (hl : ∀i σ H,B i σ H->SqT K H a xs)
  (hs : ∀(i:Nat) (x:V) (σ:St) (H:Hp) (t:Addr),xs[i]? = some x->B i σ H->H t=none->g (.ref t) σ (upd H t (.tup [.int (i:Nat),x])) λL H2=>tb { D with nx:=B (i+1),ct:=B (i+1),bk:=D.nx } L H2)
  (Z : ∀ σ H,B xs.length σ H->D.nx σ H):Dv (Ite K a) g tb D σ H:=by
 refine⟨λi m σ H=>B i σ H/\i<=xs.length/\m=xs.length - i,⟨_,Y,y6 _,rfl⟩,?_⟩
 rintro i m σ H ⟨hp,hi,rfl⟩
 have sa:=hl i σ H hp
 by_cases F:i=xs.length
 .left
  subst F;exact⟨⟨xs,sa,rfl⟩,Z σ H hp⟩
 .right
  have h1:i < xs.length:=()
  refine⟨⟨xs,xs[i],sa,by simp[h1]⟩,λσ' H'=>B (i+1) σ' H',λσ' H' h=>⟨_,(),h,(),rfl⟩,?_⟩
  rintro v H' ⟨t,x,ht,rfl,rfl,e1⟩
  exact hs i x σ H t (e1 xs sa) hp ht
def Itv (K:fy) (a:Addr) (n:Nat):It :=
  ⟨λi H=>∃xs x,SqT K H a xs/\xs.length=n/\i < n/\xs[n - 1 - i]? = some x,
   λi H v H'=>H'=H/\∀xs,SqT K H a xs->xs[n - 1 - i]? = some v,
   λi H=>n<=i⟩
theorem Af (a z:Addr) (n:Nat) :
  uF P w K tg (Itv K a n) [z] z (λi h=>nX h z a ((n:Int) - 1 - i)) where
 mem:=by simp
 obj:=λi h st c L=>by
  rw[gr.mp L];exact⟨_,st,λv z=>by cases z⟩
 keep:=λi h h' st k=>k z (by simp) _ st
 item:=by
  intro X hP hw hK L i pins s σ H E B Y st Z;subst hP hw hK;obtain⟨xs,x,hq,hn,hi,hx⟩:=Z;obtain⟨its,rv,p,hz⟩:=B.tuple hq;obtain⟨u,hu,ru⟩:=rv.get hx;have hl:=rv.length;have aa:hB=16777216:=rfl
  have e1:(n:Int) - 1 - i=((n - 1 - i:Nat):Int):=()
  rw[e1] at st;obtain⟨f0,f1,f2,f3,f4,f5⟩:=Y z (by simp)
  refine BG st (show s.heap.IsTuple a its.toArray from p) (x:=u) (by simpa using hu) (by simp only[j_];omega) λg tk g1 g2=>?_
  have I1:Inv X pins σ H { s with heap:=g,toks:=tk }:=B.turned (t':=tk) (λb o F e=>(g2.2 b F).trans e) f0 f1 f3 f4 f5
  refine⟨u,rfl,sk (s:={ s with heap:=g,toks:=tk }) g1 rfl rfl ∅ ⟨x,H,I1,ru,⟨rfl,λys hy=>by rw[B.tuple_inj hy hq];exact hx⟩,?_,λb F=>(Y b F).1⟩⟩
  have e2:((n - 1 - i:Nat):Int) - 1=(n:Int) - 1 - ((i+1:Nat):Int):=()
  rw[<- e2];exact g1
 done:=by
  intro X hP hw hK L i pins s σ H E B Y st Z;subst hP hw hK;have Z:n<=i:=Z
  obtain⟨f0,f1,f2,f3,f4,f5⟩:=Y z (by simp)
  exact Dm (B.ok.hd L) st () λg hk=>⟨rfl,B.turned (t':=s.toks) (λb o F e=>hk b o F e) f0 f1 f3 f4 f5⟩
 self:=λ_ _ _ _ _ st h=>wB st h
def iV (K:fy) (ta:TA):TI:=λσ H R=>ta σ H λvs H1=>∃a,vs=[.ref a]/\∃xs,H1 a>>xs/\R (Itv K a xs.length) H1
theorem zB:y7 "reversed" = some (.type "reversed"):=by decide+kernel
theorem Ea {ta:TA} {p:Pos} (hK:X.K=K) (hg:Gl X "reversed") (hm:X.mg "reversed" = none) (ha:PA X [e1] ta) (hs:j8 [e1] X.env=[(false,eval e1 X.env)]:=by rfl) :
  PI X tg (.Call (.Name "reversed" p) [e1] [] pos) (iV K ta):=by
 subst hK;intro pins s σ H R I h;refine Call_ (gD I hg hm zB (p7 (thn (ha pos pins s σ H _ I h) λus B ⟨vs,H1,I1,r1,q1⟩=>?_) (by rw[hs];rfl) rfl))
 obtain⟨a,e,xs,Y,q⟩:=q1;subst e;obtain⟨u,rfl,ru⟩:=dD r1;cases ru;obtain⟨its,Z,pl,hz⟩:=I1.tuple (SqT.of Y);have hl:=Z.length;have aa:=oB;refine zW (show B.heap.IsTuple a its.toArray from pl) (by simp only[j_];omega) λg tk F kg=>?_
 simp only[j_] at F;rw[<- hl] at F;have L:H1 B.heap.objs.size=none:=I1.hok.fresh (i6 _)
 refine wB (s:={ B with heap:=g,toks:=tk }) F ⟨B.heap.objs.size,[B.heap.objs.size],_,_,H1,rfl,I1.kept (t':=tk) kg,Af a B.heap.objs.size xs.length,by simpa using F,λc hc=>?_,q⟩
 rw[gr.mp hc];exact I1.fpOk (i6 _) L
theorem DE:Wlk (Itv K a xs.length) xs.reverse (λH=>SqT K H a xs) :=
 ⟨λi H h hi=>by
  have hi:i < xs.length:=by simpa using hi
  exact⟨xs,xs[xs.length - 1 - i],h,rfl,hi,by simp⟩,λi H x H' h hi y=>⟨by
  have hi:i < xs.length:=by simpa using hi
  rw[Ji hi];exact y.2 xs h,y.1⟩,λi H h hi=>(by simpa using hi:xs.length<=i)⟩
end L2
namespace PySem
theorem bH : ∀(names:List (Str × y9)) (n:Nat) (B:List (Str × Addr)),o_ n names B=o_ n names []++B
 | [],n,B=>rfl
 | (x,k) :: r,n,B=>by
  unfold o_
  split
  .rw[bH r (n+1) ((x,n) :: B),bH r (n+1) [(x,n)]]
   simp
  .exact bH r n B
theorem fG : ∀(names:List (Str × y9)) (n:Nat) (x:Str) (c:Addr),(x,c)∈o_ n names []->(x,w_)∈names
 | [],n,x,c,h=>absurd h (by simp[o_])
 | (y, k) :: r,n,x,c,h=>by
  unfold o_ at h
  split at h
  .rename_i hk
   rw[bH] at h;rcases j9.mp h with q | q
   .exact k6 _ (fG r (n+1) x c q)
   .have e:(x,c)=(y,n):=by simpa using q
    cases e;have:k = .cell:=by simpa using hk
    subst this;exact m8
  .exact k6 _ (fG r n x c h)
theorem mH {l:List (Str × Addr)} {c:Addr}:(x,c)∈l->(l.lookup x).isSome=true:=by
 induction l with
 | nil=>intro h;exact absurd h (by simp)
 | cons p r F =>
  intro h;rw[wh];cases B:x == p.1 with
  | true=>rfl
  | false =>
   rcases i7.mp h with q | q
   .subst q;simp at B
   .exact F q
theorem ik : ∀(names:List (Str × y9)) (n:Nat) (x:Str),(x,w_)∈names->∃c,(x,c)∈o_ n names []
 | [],n,x,h=>absurd h (by simp)
 | (y, k) :: r,n,x,h=>by
  unfold o_;rcases i7.mp h with q | q
  .cases q
   simp only[beq_self_eq_true,if_true];rw[bH];exact⟨n,p9 _ (by simp)⟩
  .split
   .rw[bH]
    obtain⟨c,B⟩:=ik r (n+1) x q;exact⟨c,k9 _ B⟩
   .exact ik r n x q
theorem qg {l r:List (Str × Addr)} {c:Addr} (h:(l++r).lookup x=some c):l.lookup x=some c\/(l.lookup x=none/\r.lookup x=some c):=by
 induction l with
 | nil=>exact .inr ⟨rfl,h⟩
 | cons p t F =>
  rw[cons_append,wh] at h;rw[wh];cases B:x == p.1 with
  | true=>rw[B] at h;exact .inl h
  | false=>rw[B] at h;exact F h
theorem uE {l r:List (Str × Addr)} {c:Addr} (B:l.lookup x=none) (h:r.lookup x=some c):(l++r).lookup x=some c:=by
 induction l with
 | nil=>exact h
 | cons p t L =>
  rw[wh] at B;rw[cons_append,wh];cases F:x == p.1 with
  | true=>rw[F] at B;cases B
  | false=>rw[F] at B;exact L B
theorem tV {l r:List (Str × Addr)} {c:Addr} (h:l.lookup x=some c):(l++r).lookup x=some c:=by
 induction l with
 | nil=>cases h
 | cons p t F =>
  rw[wh] at h;rw[cons_append,wh];cases B:x == p.1 with
  | true=>rw[B] at h;exact h
  | false=>rw[B] at h;exact F h
theorem gm {globals:Addr} {code:Value} {F:Env} {B:Addr} {Q:Env->Shared->Prop}
  (Y:(pushCells (s.heap.push { cls:=.type "dict",data:=.dict #[] }) scope.names).Ns s.heap.objs.size (λ_=>none) ->
   Q (newEnv scope s.heap.objs.size globals (o_ (s.heap.objs.size+1) scope.names closure) qual func code (some F) B) { s with heap:=pushCells (s.heap.push { cls:=.type "dict",data:=.dict #[] }) scope.names }) :
  wpAny M A (newFunctionEnv scope globals closure [] qual func code (some F) B) Q E s:=by
 simp only[newFunctionEnv,isSome_some,if_true];simp only[newEnv] at Y;refine a_ (wpAny_alloc ?_)
 refine a_ (wpAny_layCells _ (λname kind cells=>by cases L:kind == w_ <;> simp[L]) _ _ _ _ ?_)
 rw[show({ s with heap:=s.heap.push { cls:=.type "dict",data:=.dict #[] } }:Shared).heap.objs.size=s.heap.objs.size+1 from o8 ..]
 exact a_ (e_ (e_ (Y ((Heap.Ns.new s.heap (.type "dict")).keeps (pushCells_keeps _ _)))))
end PySem
namespace L2
open PySem PySem.Spec PyProof.Rows
def dv (X:Cx) (scope:Scope) (N:List Str) (cl:List (Str × Addr)) (C:Addr) (fp:List Addr) (s:Shared) (H:Hp) (xe:Value->Shared->Prop):Cx where
 prog:=X.prog
 w:=X.w
 K:=X.K
 mg:=X.mg
 base:=X.base
 A:=X.A
 N:=N
 s₀:=s
 H₀:=H
 env:=compEnvC scope cl C X.env
 outer:=X.stack
 stack:=X.stack
 ex:=fp
 fn:=λx=>scope.names.lookup x == some .cell
 calm:=X.calm
 pn:=[]
 xe:=xe
theorem IP:(dv X sc N cl C fp s H xe).K=X.K:=rfl
structure lP (X:Cx) (scope:Scope) (N:List Str) (nt:Nat) (js:List Nat):Prop where
 kind:scope.kind = .function
 nd:N.Nodup
 len:N.length=nt+js.length
 at_ : ∀(k:Nat) (j:Nat) (x:Str),js[k]? = some j->N[nt+k]? = some x->X.N[j]? = some x/\(X.env.scope.names.lookup x=some .cell\/X.env.scope.names.lookup x=some .free)
 frl : ∀(k:Nat) (x:Str),N[nt+k]? = some x->scope.names.lookup x=some .free
 own : ∀y∈scope.names,y.2 = .cell->scope.names.lookup y.1=some .cell
 loc : ∀y∈scope.names,y.2 = .local->scope.names.lookup y.1=some .local
 free : ∀y∈scope.names,y.2 = .free->X.env.scope.names.lookup y.1=some .cell\/X.env.scope.names.lookup y.1=some .free
theorem eG : ∀{names:List (Str × y9)} {x:Str} {k:y9},names.lookup x=some k->(x,k)∈names
 | [],_,_,h=>by simp at h
 | (n,k') :: r,x,k,h=>by
  rw[wh] at h;cases B:x == n with
  | true=>rw[B] at h;cases h;rw[beq_iff_eq.mp B];exact m8
  | false=>rw[B] at h;exact k6 _ (eG h)
theorem rS : ∀{names:List (Str × y9)} {x:Str},((names.map λ(n,k)=>if (k == t9 && env.scope.kind == .function && env.kindOf n == some .cell) then(n,w_) else(n,k)).lookup x=some .cell\/(names.map λ(n,k)=>if (k == t9 && env.scope.kind == .function && env.kindOf n == some .cell) then(n,w_) else(n,k)).lookup x=some .free) ->
  (x,t9)∈names\/(x,w_)∈names:=by
 intro names x h;have B : ∀F,(names.map λ(n,k)=>if (k == t9 && env.scope.kind == .function && env.kindOf n == some .cell) then(n,w_) else(n,k)).lookup x=some F->(F = .cell\/F = .free)->(x,t9)∈names\/(x,w_)∈names:=by
  intro F e Y;obtain⟨⟨n,k⟩,L,hp⟩:=i4.mp (eG e);dsimp only at hp
  by_cases q:(k == t9 && env.scope.kind == .function && env.kindOf n == some .cell)=true
  .rw[if_pos q] at hp
   cases hp;simp only[l_,beq_iff_eq] at q;rw[q.1.1] at L;exact .inl L
  .rw[if_neg q] at hp
   cases hp;rcases Y with z | z
   .subst z;exact .inr L
   .subst z;exact .inl L
 rcases h with h | h
 .exact B _ h (.inl rfl)
 .exact B _ h (.inr rfl)
theorem vP {m:Str->Option Value}
  (S:lP X scope N nt js) (I:Inv X pins σ H s) (hf : ∀b∈fp,qf X pins H b) (L : ∀x c,cl.lookup x=some c->X.env.cells.lookup x=some c) (ab : ∀x,(x,t9)∈scope.names->(cl.lookup x).isSome=true)
  (B : ∀x c,(x,c)∈o_ (C+1) scope.names []->h'.IsCell c none/\C+1<=c) (ah:(o_ (C+1) scope.names []).Pairwise λx y=>x.2≠y.2) (ag : ∀c,C<=c->H1 c=none)
  (af : ∀b∈fp,b < s.heap.objs.size) (hC:s.heap.objs.size<=C) (k : ∀b o,s.heap.get? b=some o->h'.get? b=some o) (hs : ∀b o,H b=some o->H1 b=some o) (ac : ∀b,H b=none->b < s.heap.objs.size->H1 b=none) (aj:HOk X.prog X.w H1 h') (hn:h'.Ns C m)
  (hm : ∀x,m x=none) :
  Inv (dv X scope N (o_ (C+1) scope.names cl) C fp s H xe) [] (fO nt js σ) H1 { s with heap:=h',toks:=tk }:=by
 have am : ∀b∈fp,b∉frs X.stack:=λb hb z=>by
  obtain⟨f0,f1,f2,_⟩:=hf b hb;rcases i7.mp (I.stkSub b z) with q | q
  .exact f1 q
  .exact f2 q
 have ad : ∀x c,cl.lookup x=some c->c < s.heap.objs.size:=λx c e=>by
  obtain⟨v,oc,F,hd⟩:=I.cell x c (L x c e);exact f_ F
 have cs : ∀x c,(o_ (C+1) scope.names cl).lookup x=some c->(x,c)∈o_ (C+1) scope.names []\/cl.lookup x=some c:=λx c e=>by
  rw[bH] at e;rcases qg e with q | q
  .exact .inl (mem_of_lookup q)
  .exact .inr q.2
 have aa : ∀x,(x,w_)∈scope.names->∃c,(o_ (C+1) scope.names cl).lookup x=some c/\(x,c)∈o_ (C+1) scope.names []:=λx hx=>by
  obtain⟨c,hc⟩:=ik scope.names (C+1) x hx;obtain⟨c',Z⟩:=Jp.mp (mH hc);refine⟨c',?_,mem_of_lookup Z⟩
  rw[bH];exact tV Z
 have Y : ∀x c,(∀c,(x,c)∉o_ (C+1) scope.names [])->cl.lookup x=some c->(o_ (C+1) scope.names cl).lookup x=some c:=λx c hx e=>by
  rw[bH];refine uE ?_ e
  cases q:(o_ (C+1) scope.names []).lookup x with
  | none=>rfl
  | some c'=>exact absurd (mem_of_lookup q) (hx c')
 refine⟨⟨I.ok.mod,S.kind,I.ok.glob,I.ok.blt,hC,λx y c h1 h2=>?_,λx hx=>?_,λx c z e=>?_,I.ok.hd,I.ok.frames,.inl rfl,λb hb=>?_,I.bs,i8 I.ok.bsz I.sz,λb o e hb=>?_,am,I.stack,I.stkFree⟩,
  rfl,I.bare,?_,⟨m,hn,λi x v h1 h2 h3=>?_⟩,λx c e=>?_,ag C (i6 _),λx c e=>?_,λp hp=>absurd (show p∈([]:List (Addr × Obj)) from hp) (by simp),aj,?_⟩
 .rcases cs x c h1 with a | a <;> rcases cs y c h2 with b | b
  .exact name_of_addr ah a b
  .exact absurd (hH (ad y c b) (i8 hC (Kr (B x c a).2))) (s_ _)
  .exact absurd (hH (ad x c a) (i8 hC (Kr (B y c b).2))) (s_ _)
  .exact I.ok.inj x y c (L x c a) (L y c b)
 .by_cases hxc:(x,w_)∈scope.names
  .obtain⟨c,hc,_⟩:=aa x hxc
   exact⟨c,hc⟩
  .rcases rS (env:=X.env) hx with q | q
   .obtain⟨c,hc⟩:=Jp.mp (ab x q)
    exact⟨c,Y x c (λc' z=>hxc (fG _ _ _ _ z)) hc⟩
   .exact absurd q hxc
 .have hxc:(x,w_)∈scope.names:=by
   have:scope.names.lookup x=some .cell:=by simpa [dv] using z
   exact eG this
  obtain⟨c',Z,ao⟩:=aa x hxc;have e':(o_ (C+1) scope.names cl).lookup x=some c:=e
  rw[Z] at e';cases e';exact i8 hC (Kr (B x _ ao).2)
 .obtain⟨f0,f1,f2,f3,f4,f5⟩:=hf b hb
  refine⟨mu (hH (af b hb) hC),λx c e=>?_⟩
  rcases cs x c e with a | a
  .exact sn (hH (af b hb) (i8 hC (Kr (B x c a).2)))
  .exact f4 x c (L x c a)
 .have:=hf b hb
  obtain⟨f0,f1,f2,f3,f4,f5⟩:=this;rcases f3 with f3 | f3
  .exact I.ok.noex b o e f3
  .exact absurd (hH (f_ e) (i8 I.ok.bsz f3)) (s_ _)
 .refine⟨λb o e n _ _=>k b o e,λb o e n _ _=>⟨o.slots,k b o e⟩,λb o e n _=>ac b n (f_ e),λb o e _=>⟨o,k b o e⟩,λb xs e=>hs b _ e,λb o u e=>hs b _ e,λb ps e=>⟨#[],by rw[hs b _ e];simp⟩⟩
 .by_cases hi:i < nt
  .rw[ql i hi] at h2;cases h2
  .obtain⟨k',rfl⟩ : ∃k',i=nt+k':=⟨i - nt,()⟩
   unfold fO at h2;rw[t7 (by simp)] at h2
   simp only[List.length_replicate,Nat.add_sub_cancel_left,fx] at h2;cases ej:js[k']? with
   | none=>rw[ej] at h2;cases h2
   | some j =>
    rw[ej] at h2;simp only[Kk,Option.some.injEq] at h2;obtain⟨hN,hk⟩:=S.at_ k' j x ej h1;have ak:σ[j]? = some (some v):=by
     cases q:σ[j]? with
     | none=>rw[q] at h2;cases h2
     | some z=>rw[q] at h2;simp only[Option.join] at h2;rw[<- h2];rfl
    have ai:Vis X.env.scope x:=by rcases hk with q | q;exact .inr (.inl q);exact .inr (.inr q)
    obtain⟨m0,ap,an⟩:=I.loc;obtain⟨u,r,l⟩:=an j x v hN ak ai;refine⟨u,r,?_⟩
    rcases l with⟨q,_⟩ | ⟨q,c,e,z⟩
    .have q':X.env.scope.names.lookup x=some .local:=q
     rw[q'] at hk;rcases hk with hk | hk <;> cases hk
    .have fr:=S.frl k' x h1
     have hv:(relabel scope X.env).names.lookup x=some .cell\/(relabel scope X.env).names.lookup x=some .free:=gh (env:=X.env) fr
     have q:(x,t9)∈scope.names:=eG fr
     obtain⟨c',e'⟩:=Jp.mp (ab x q);have e2:=L x c' e';rw[e] at e2;cases e2;obtain⟨oc,F,hd⟩:=z;exact .inr ⟨hv,c,Y x c (λc' z=>by
      have:=S.own _ (fG _ _ _ _ z) rfl
      rw[fr] at this;cases this) e',oc,k _ _ F,hd⟩
 .rcases cs x c e with a | a
  .exact⟨none,(B x c a).1⟩
  .obtain⟨v,oc,F,hd⟩:=I.cell x c (L x c a)
   exact⟨v,oc,k _ _ F,hd⟩
 .rcases cs x c e with a | a
  .exact ag c (Kr (B x c a).2)
  .have e2:=L x c a
   obtain⟨v,oc,F,hd⟩:=I.cell x c e2;exact ac c (I.freeC x c e2) (f_ F)
 .unfold fO
  show _=N.length
  rw[S.len];simp
def vh (F:List Str) (xs B:List (Str × y9)) (N:List Str) (nt:Nat) (js:List Nat):Bool :=
 decide N.Nodup && N.length == nt+js.length && (js.zip (N.drop nt)).all (λp=>F[p.1]? == some p.2 && jb xs p.2) && (N.drop nt).all (λx=>B.lookup x == some .free)
  && B.all (λy=>y.2 != .cell || B.lookup y.1 == some .cell) && B.all (λy=>y.2 != .local || B.lookup y.1 == some .local) && B.all (λy=>y.2 != .free || jb xs y.1)
theorem aI (L:List Str) (xs:List (Str × y9)) (Y:scope.kind = .function:=by exact rfl) (hN:X.N=L:=by exact rfl) (hx:X.env.scope.names=xs:=by exact rfl)
  (h:vh L xs scope.names N nt js=true:=by decide+kernel):lP X scope N nt js:=by
 subst hN hx;unfold vh at h;simp only[l_] at h;obtain⟨⟨⟨⟨⟨⟨h1,h2⟩,h3⟩,h4⟩,h5⟩,h6⟩,Z⟩:=h;refine⟨Y,of_decide_eq_true h1,by simpa using h2,λk j x e1 e2=>?_,λk x e=>?_,λy F e=>?_,λy F e=>?_,λy F e=>?_⟩
 .have hm:(j,x)∈js.zip (N.drop nt):=by
   have B:(N.drop nt)[k]? = some x:=by rw[List.getElem?_drop];exact e2
   have:(js.zip (N.drop nt))[k]? = some (j,x):=by rw[List.getElem?_zip_eq_some];exact⟨e1,B⟩
   exact g7 this
  have q:=y_.mp h3 _ hm;rw[l_] at q;exact⟨by simpa using q.1,jL q.2⟩
 .have hm:x∈N.drop nt:=by
   have B:(N.drop nt)[k]? = some x:=by rw[List.getElem?_drop];exact e
   exact g7 B
  simpa using y_.mp h4 _ hm
 .have q:=y_.mp h5 _ F
  rw[e] at q;simpa using q
 .have q:=y_.mp h6 _ F
  rw[e] at q;simpa using q
 .have q:=y_.mp Z _ F
  rw[e] at q;exact jL (by simpa using q)
end L2
namespace PySem
open L2 PyProof.Rows PySem.Calls
def jS:Int:=0xFCA86420
theorem uU {Q:Int->Shared->Prop} (h:Q jS { s with toks:=s.toks+1 }):wpAny (model prog w) A (pyHash .none) Q E s:=by
 have B:s.TypeIs w6 "NoneType" := rfl
 show wpAny _ _ (pyHashByItsType .none) Q E s
 unfold pyHashByItsType;refine a_ ?_
 rw[cRoomFor,if_neg (by rw[show[w6].any Value.onHeap=false from rfl];exact j7)]
 refine e_ (a_ (y4 B Jn.lookup ?_))
 refine wpAny_ite_split (λz=>by cases z) λ_=>?_
 refine a_ (y4 B Jn.lookup ?_)
 refine wpAny_ite_split (λz=>by cases z) λ_=>?_
 refine a_ (wpAny_callSpecialIfBoundUnlessNone?_slot B Jn (o7 Jn B PySem.F.entry_NoneType_hash (show wpAny _ _ (do ret (<- mkInt jS)) _ _ s from wpAny_ret_mkInt ?_) (PySem.F.args_NoneType_hash_1 _)))
 show wpAny _ _ (if (decide (-(2:Int) ^ 63<=jS) && decide (jS < 2 ^ 63))=true then _ else _) Q E _
 rw[if_pos ∅]
 exact e_ h
theorem uW {Q:Bool->Shared->Prop} (h:Q true s):wpAny (model prog w) A (eqBool .none .none) Q E s:=by
 unfold eqBool;refine u7 ?_
 rw[if_pos ∅]
 exact a_ (wpAny_rule (e_ h))
def vQ:Option Int->Value->Bool
 | none,.none=>true
 | some i,v=>v.isInt i
 | _,_=>false
theorem bZ {k:Option Int} {v:Value} (h:vQ k v=true):(k=none/\v = .none)\/∃i t,k=some i/\v = .int i t:=by
 cases k with
 | none=>cases v <;> first | exact .inl ⟨rfl,rfl⟩ | cases h
 | some i =>
  obtain⟨t,e⟩:=Value.isInt_shape (show Value.isInt i v=true by cases v <;> first | exact h | cases h)
  exact .inr ⟨i,t,rfl,e⟩
theorem GH {a b:Option Int} {v:Value} {Q:Bool->Shared->Prop} (hu:vQ a u=true) (B:vQ b v=true) (h:Q (decide (a=b)) s):wpAny (model prog w) A (eqBool u v) Q E s:=by
 rcases bZ hu with⟨rfl,rfl⟩ | ⟨i,t,rfl,rfl⟩
 .rcases bZ B with⟨rfl,rfl⟩ | ⟨j,u,rfl,rfl⟩
  .exact uW (by simpa using h)
  .exact SeqAt.EqAt.none_int j u _ _ _ _ (by simpa using h)
 .rcases bZ B with⟨rfl,rfl⟩ | ⟨j,u,rfl,rfl⟩
  .exact SeqAt.EqAt.int_none i t _ _ _ _ (by simpa using h)
  .refine wpAny_eqBool_int ?_
   have e:(i == j)=decide (some i=some j):=by rw[n9];simp
   rw[e];exact h
def IN:Option Int->Int | none=>jS | some i=>hashInt i
def cC (prog:Program) (w:World):KeyKind prog w (Option Int) where
 is:=vQ
 hash:=IN
 inj := λv a b ha L=>by
  rcases bZ ha with⟨rfl,rfl⟩ | ⟨i,t,rfl,rfl⟩
  .rcases bZ L with⟨rfl,_⟩ | ⟨j,u,rfl,e⟩
   .rfl
   .cases e
  .rcases bZ L with⟨rfl,e⟩ | ⟨j,u,rfl,e⟩
   .cases e
   .cases e;rfl
 byValue:=λk v h=>by
  rcases bZ h with⟨rfl,rfl⟩ | ⟨i,t,rfl,rfl⟩ <;> rfl
 pyHash:=λF h=>by
  rcases bZ F with⟨rfl,rfl⟩ | ⟨i,t,rfl,rfl⟩
  .exact uU h
  .exact wpAny_pyHash_int h
 eqBool:=λhu F h=>GH hu F h
 «strs» := λk x t v h=>absurd (bZ h) (λz=>z.elim (λz=>nomatch z.2) λB=>by obtain⟨_,_,_,e⟩:=B;exact(nomatch e))
end PySem
namespace L2
open PySem PySem.Spec PyProof.Rows
def oV:Option Int->V | none=>.non | some i=>.int i
theorem BB {k:Option Int} (h:bg (oV k) u):(cC P w).is k u=true:=by
 cases k with
 | none=>cases (show u=w6 from h);rfl
 | some i=>obtain⟨t,rfl⟩:=(show ∃t,u=Value.int i t from h);exact intKind_is P w i t
theorem HU {k:Option Int} (h:(cC P w).is k u=true):bg (oV k) u:=by
 rcases bZ (show vQ k u=true from h) with⟨rfl,rfl⟩ | ⟨i,t,rfl,rfl⟩
 .rfl
 .exact⟨t,rfl⟩
def dZ (ks:List (Option Int)):List (Option Int × Value):=ks.map λk=>(k,JO true)
def ww (P:Program) (w:World) (a:Addr) (o:Obj) (ks:List (Option Int)) (h:Heap):Prop:=h.get? a=some o/\(a == H_)=false/\ks.length<=1000/\h.DictOf (cC P w) a (dZ ks)
def eY (P:Program) (w:World) (a:Addr) (o:Obj) (ks:List (Option Int)):HO:=.ext (ww P w a o ks)
section
variable {o:Obj}
theorem ww.ok (x:ww P w a o ks h):bC P w H h a (eY P w a o ks) :=
 ⟨x,⟨o,x.1⟩,λh1 h2 z k=>⟨k _ z.1,z.2.1,z.2.2.1,z.2.2.2.at k⟩⟩
def rz (ks:List (Option Int)) (k:Option Int):List (Option Int):=if k∈ks then ks else ks++[k]
theorem uB (ks:List (Option Int)) (k:Option Int):stored (dZ ks) k (.bool true)=dZ (rz ks k):=by
 unfold stored rz
 by_cases B:k∈ks
 .have e:(dZ ks).any (λkv=>decide (kv.1=k))=true:=x_.mpr ⟨(k,.bool true),i4.mpr ⟨k,B,rfl⟩,by simp⟩
  rw[if_pos e,if_pos B];unfold dZ;rw[m6]
  apply q_
  intro x _
  show(if x=k then(x,JO true) else(x,JO true))=_
  split <;> rfl
 .have e : ¬ (dZ ks).any (λkv=>decide (kv.1=k))=true:=λz=>by
   obtain⟨y,F,e⟩:=x_.mp z;obtain⟨x,L,rfl⟩:=i4.mp F;exact B (of_decide_eq_true e ▸ L)
  rw[if_neg e,if_neg B];unfold dZ;rw[t6];rfl
theorem AD (ks:List (Option Int)) (k:Option Int):(rz ks k).length<=ks.length+1:=by unfold rz;split <;> simp
end
section
variable {ie:Expr}
def CN (P:Program) (w:World) (td ty tv:TE):TS:=λD σ H=>tv σ H λv H1=>td σ H1 λx H2=>ty σ H2 λy B=>v = .bl true/\∃a,x = .ref a/\∃k,y=oV k/\∃o ks,B a=some (eY P w a o ks)/\ks.length < 1000/\∀o',D.nx σ (upd B a (eY P w a o' (rz ks k)))
theorem DL (hu:X.A.units+1 < cLine) (ho:PE X oe td) (hi:PE X ie ty) (hv:PE X value tv) (hs:KF value (some (.Subscript oe ie pos')) pos.line X.env=pure false) :
  PS X (.Assign [.Subscript oe ie pos'] value pos) (CN X.prog X.w td ty tv):=by
 intro pins s σ H D I h;refine wpAny_Assign_Subscript (thn (hv pins s σ H _ I h) λr s1 ⟨v,H1,I1,rv,q1⟩=>thn (ho pins s1 σ H1 _ I1 q1) λu s2 ⟨x,H2,I2,rx,q2⟩=>thn (hi pins s2 σ H2 _ I2 q2) λiv Z B=>?_) hs
 obtain⟨y,H3,Y,ry,ev,a,ex,k,ey,o,ks,ha,hl,q3⟩:=B;subst ex ey ev;obtain rfl:u=j6 a:=rx
 obtain rfl:r=JO true:=rv
 obtain⟨⟨g,hd,hz,dd⟩,_⟩:=(show bC X.prog X.w H3 Z.heap a (eY X.prog X.w a o ks) from Y.hok a _ ha)
 refine wpAny_setItem_pairs (knd:=cC X.prog X.w) (k:=k) (hsz:=by unfold dZ;rw[d_];exact i8 hz ∅) (BB ry) dd λh' F L=>?_
 rw[uB] at F;obtain⟨o',es,ep,g',r'⟩:=id F;have aa:=AD ks k;exact⟨σ,_,pM (ob:=eY X.prog X.w a o' (rz ks k)) Y (by rw[ha];exact p_) L ⟨o',g'⟩ (ww.ok ⟨g',hd,(),F⟩),q3 o'⟩
end
def qX (is:List Int):List (Key × V):=is.map λi=>(h_ i,V.bl true)
theorem yF {P:Program} {w:World} : ∀{is:List Int} {es:List DictEntry} {vs:List (Key × Value)},KV (qX is) vs->Pairs (bo P w) es vs->(∀e∈es,∃k,(bo P w).is k e.key=true/\e.hash=(bo P w).hash k) ->
  Pairs (cC P w) es (dZ (is.map some))/\∀e∈es,∃k,(cC P w).is k e.key=true/\e.hash=(cC P w).hash k
 | [],es,vs,r,p,_=>by
  unfold qX KV at r;cases r;cases p;exact⟨.nil,λe he=>by simp at he⟩
 | i :: is,es,vs,r,p,hk=>by
  unfold qX KV at r;rw[i_] at r;cases r with
  | @cons p0 q0 ps qs h0 hr =>
   obtain⟨k0,u0⟩:=q0;obtain⟨e0,ru⟩:=h0;dsimp only at e0 ru;subst e0;obtain rfl:u0=JO true:=ru
   cases p with
   | @cons e kv es' kvs' h1 h2 h3 =>
    obtain⟨Z,aa⟩:=yF (is:=is) hr h3 λe he=>hk e (k6 _ he)
    have Y : ∃t,e.key=Value.int i t:=by
     rcases bL (k:=h_ i) (v:=e.key) h1 with⟨j,t,ej,L⟩ | ⟨x,t,ej,L⟩
     .cases ej;exact⟨t,L⟩
     .cases ej
    obtain⟨t,et⟩:=Y;have F:(cC P w).is (some i) e.key=true:=by rw[et];exact intKind_is P w i t
    refine⟨.cons F h2 Z,λe' B=>?_⟩
    rcases i7.mp B with rfl | B
    .obtain⟨k,k1,k2⟩:=hk e' (m8)
     have L:k=h_ i:=(bo P w).inj _ _ _ k1 h1
     subst L;exact⟨some i,F,k2⟩
    .exact aa e' B
def DH (P:Program) (w:World) (te:TE):TE:=λσ H Q=>te σ H λx H1=>∃a,x = .ref a/\∃is:List Int,H1 a<*(qX is)/\is.length<=1000/\∀o,Q x (upd H1 a (eY P w a o (is.map some)))
theorem EM (L:PE X e te):PE X e (DH X.prog X.w te):=by
 intro pins s σ H Q I h;refine thn (L pins s σ H _ I h) λv s1 B=>?_
 obtain⟨x,H1,I1,r1,a,ex,is,ha,hl,q⟩:=B;subst ex;obtain⟨hz,hd,vs,Y,o,es,ep,ho,hx,Z,hk,hp,hn⟩:=mJ I1.hok ha;have aa : ∀ob u,X.H₀ a≠some (.frz ob u):=λob u e=>by have:=I1.base.frzs a ob u e;rw[ha] at this;cases this
 obtain⟨p1,p2⟩:=yF Y hp λe L=>hk e (by simpa using L)
 have F:((dZ (is.map some)).map (·.1)).Nodup:=by
  have e1:(dZ (is.map some)).map (·.1)=is.map some:=by unfold dZ;rw[m6];simp
  have e2 : ∀{is:List Int} {vs:List (Key × Value)},KV (qX is) vs->vs.map (·.1)=is.map h_:=by
   intro is
   induction is with
   | nil=>intro vs r;unfold qX KV at r;cases r;rfl
   | cons i is ih =>
    intro vs r;unfold qX KV at r;rw[i_] at r;cases r with
    | cons h0 hr =>
     rw[i_,i_,ih hr];rw[<- h0.1]
  rw[e2 Y] at hn;rw[e1];have F:is.Nodup:=(G5.mp hn).imp λh z=>h (by rw[z])
  exact G5.mpr (F.imp λh z=>h (ge z))
 have nd:ww X.prog X.w a o (is.map some) s1.heap:=⟨ho,hd,by rw[d_];exact hl,o,es,ep,ho,hx,Z,λe L=>p2 e (by simpa using L),p1,F⟩
 exact⟨.ref a,_,I1.retag ha (by intro y z;cases z) (by intro y z;cases z) aa (by intro y z;cases z) nd.ok,r1,q o⟩
def ItN (P:Program) (w:World) (a:Addr) (o:Obj) (ks:List (Option Int)):It :=
 ⟨λi H=>H a=some (eY P w a o ks)/\i < ks.length,λi H x H'=>H'=H/\∃k,ks[i]? = some k/\x=oV k,λi H=>H a=some (eY P w a o ks)/\ks.length<=i⟩
theorem EU (a it:Addr) (o:Obj) (ks:List (Option Int)) (ep:Nat) (ab : ∃es,o.data = .dict es ep):uF P w K tg (ItN P w a o ks) [it] it (λi h=>h.IsKeyIter it a i ks.length ep) where
 mem:=by simp
 obj:=λi h st b hb=>by
  obtain rfl:b=it:=by simpa using hb
  obtain⟨ob,e,c,d⟩:=st;exact⟨ob,e,λv z=>by rw[d] at z;cases z⟩
 keep:=λi h h' st k=>st.at λob e=>k it (by simp) ob e
 item:=by
  intro X hP hw hK hc i pins s σ H E I hf st ⟨ha,hi⟩;subst hP hw hK;obtain⟨⟨ho,hd,hz,od,es,F,aa,hr⟩,_⟩:=(show bC X.prog X.w H s.heap a (eY X.prog X.w a o ks) from I.hok a _ ha)
  obtain rfl:o=od:=ge (ho.symm.trans aa)
  obtain⟨af,L⟩:=ab;obtain rfl:F=ep:=by
   have:=hr.2.1
   rw[L] at this;cases this;rfl
  have B:(dZ ks).length=ks.length:=by unfold dZ;simp
  obtain⟨k,hk⟩ : ∃k,ks[i]? = some k:=⟨ks[i],by simp[hi]⟩
  obtain⟨f0,f1,f2,f3,f4,f5⟩:=hf it (by simp)
  have Z:s.heap.IsKeyIter it a i (dZ ks).length F:=by rw[B];exact st
  refine wpAny_pyNext_dict_item (knd:=cC X.prog X.w) (k:=k) (v:=.bool true) Z ⟨o,es,ho,hr⟩ (by unfold dZ;rw[fx,hk];rfl) λac h' ad Y sb=>?_
  have I1:Inv X pins σ H { s with heap:=h' }:=I.turned (t':=s.toks) (λb ob hb e=>(sb.2 b hb).trans e) f0 f1 f3 f4 f5
  rw[B] at Y;obtain⟨ob,e,c,d⟩:=id Y;exact⟨ac,rfl,sk (s:={ s with heap:=h' }) e c d ∅ ⟨oV k,H,I1,HU ad,⟨rfl,k,hk,rfl⟩,Y,λb hb=>(hf b hb).1⟩⟩
 done:=by
  intro X hP hw hK hc i pins s σ H E I hf st ⟨ha,hi⟩;subst hP hw hK;obtain⟨⟨ho,hd,hz,od,es,F,aa,hr⟩,_⟩:=(show bC X.prog X.w H s.heap a (eY X.prog X.w a o ks) from I.hok a _ ha)
  obtain rfl:o=od:=ge (ho.symm.trans aa)
  obtain⟨af,L⟩:=ab;obtain rfl:F=ep:=by
   have:=hr.2.1
   rw[L] at this;cases this;rfl
  have B:(dZ ks).length=ks.length:=by unfold dZ;simp
  obtain⟨f0,f1,f2,f3,f4,f5⟩:=hf it (by simp)
  have Z:s.heap.IsKeyIter it a i (dZ ks).length F:=by rw[B];exact st
  exact wpAny_pyNext_dict_end (knd:=cC X.prog X.w) (I.ok.hd hc) Z ⟨o,es,ho,hr⟩ (w5.mpr ()) λh' eb=>⟨rfl,I.turned (t':=s.toks) (λb ob hb e=>eb b ob hb e) f0 f1 f3 f4 f5⟩
 self:=λ_ _ _ _ _ st h=>wpAny_pyIter_keyiter st h
theorem AO {o:Obj}:Wlk (ItN P w a o ks) (ks.map oV) (λH=>H a=some (eY P w a o ks)) :=
 ⟨λi H h hi=>⟨h,by simpa using hi⟩,λi H x H' h _ y=>by
  obtain⟨e,k,B,rfl⟩:=y;exact⟨by rw[fx,B];rfl,e⟩,λi H h hi=>⟨h,by simpa using hi⟩⟩
def iN (P:Program) (w:World) (tl:TE):TI:=λσ H R=>tl σ H λx H1=>∃a,x = .ref a/\∃o ks,H1 a=some (eY P w a o ks)/\R (ItN P w a o ks) H1
theorem IW {l:Expr} {tl:TE} (hl:PE X l tl):PI X tg l (iN X.prog X.w tl):=by
 intro pins s σ H R I h;refine thn (hl pins s σ H _ I h) λv F B=>?_
 obtain⟨x,H1,Z,r1,a,e,o,ks,hq,q⟩:=B;subst e;cases r1;obtain⟨⟨ho,hd,hz,od,es,ep,aa,hr⟩,_⟩:=(show bC X.prog X.w H1 F.heap a (eY X.prog X.w a o ks) from Z.hok a _ hq)
 obtain rfl:o=od:=ge (ho.symm.trans aa)
 refine wpAny_pyIter_dict (knd:=cC X.prog X.w) hd ⟨o,es,ho,hr⟩ ?_
 have L:(dZ ks).length=ks.length:=by unfold dZ;simp
 have I2:Inv X pins σ H1 { F with heap:=F.heap.push { cls:=.type "dict_keyiterator",data:=.fields #[.ref a,.int 0 0,.int (dZ ks).length 0,.int ep 0] } }:=Z.kept (t':=F.toks) λb o e=>c_ _ e
 refine⟨F.heap.objs.size,[F.heap.objs.size],_,_,_,rfl,I2,EU a _ o ks ep ⟨es,hr.2.1⟩,⟨_,gt _ rfl,rfl,by rw[L];rfl⟩,λb hb=>?_,q⟩
 obtain rfl:b=F.heap.objs.size:=by simpa using hb
 have Y:H1 F.heap.objs.size=none:=Z.hok.fresh (i6 _)
 exact⟨Y,(Z.fpOk (i6 _) Y).2⟩
def cP (ps:List (Int × Int × Int)):List (List Key × V):=ps.map λx=>([.inl x.1,.inl x.2.1],.int x.2.2)
def toO:Key->Option Int | .inl i=>some i | .inr _=>none
theorem isO {i j:Int} (x:(Jw (bo P w)).is h [h_ i,h_ j] b):(Jw (cC P w)).is h [some i,some j] b:=by
 obtain⟨o,items,n,h1,h2,h3,F⟩:=(show IsTupleKey (bo P w) h [h_ i,h_ j] b from x)
 refine(show IsTupleKey (cC P w) h [some i,some j] b from⟨o,items,n,h1,h2,h3,?_⟩)
 generalize items.toList=l at F;have Y : ∀{i:Int} {v:Value},(bo P w).is (h_ i) v=true->(cC P w).is (some i) v=true:=λ{i v} z=>by
  rcases bL (k:=h_ i) (v:=v) z with⟨j,t,B,L⟩ | ⟨x,t,B,L⟩
  .cases B;rw[L];exact intKind_is P w i t
  .cases B
 cases F with
 | cons Z r1 =>
  cases r1 with
  | cons k2 r2 =>
   cases r2;exact .cons (Y Z) (.cons (Y k2) .nil)
theorem BK {ps:List (Int × Int × Int)} (hu:A.units+1 < cLine) (I:Inv X pins σ H s) (ha:H a=some (.dT (cP ps))) (hb:H b>>[.non,.int v]) (h : ∀s',Inv X pins σ H s'->Q .none s') :
  wpAny (model X.prog X.w) A (call (.builtin "dict.get") [.ref a,.ref b]) Q E s:=by
 obtain⟨z,hd,xs,ah,o,es,ep,ho,hx,aa,he,ag,Z⟩:=oQ I.hok (.inl ha);have ab:s.TypeIs (.ref a) "dict" :=⟨o,ho,hx.1⟩
 have B : ∀q∈xs,∃i j:Int,q.1=[h_ i,h_ j]:=by
  have : ∀{ps:List (Int × Int × Int)} {xs:List (List Key × Addr × Value)},KT H (cP ps) xs->∀q∈xs,∃i j:Int,q.1=[h_ i,h_ j]:=by
   intro ps
   induction ps with
   | nil=>intro xs r;unfold cP KT at r;cases r;intro q L;simp at L
   | cons p ps ih =>
    intro xs r;unfold cP KT at r;rw[i_] at r;cases r with
    | cons h0 hr =>
     intro q L;rcases i7.mp L with rfl | L
     .exact⟨p.1,p.2.1,h0.1.symm⟩
     .exact ih hr q L
  exact this ah
 have dd:s.heap.DictOfH (Jw (cC X.prog X.w)) a (xs.map λq=>(q.1.map toO,q.2)):=by
  refine⟨o,es,ep,ho,hx,aa,?_,λx Y=>?_,?_⟩
  .rw[he,m6]
   apply q_
   intro q L;obtain⟨i,j,e⟩:=B q L;obtain⟨k,ad,u⟩:=q;dsimp only at e;subst e;rfl
  .obtain⟨q,L,rfl⟩:=i4.mp Y
   obtain⟨i,j,e⟩:=B q L;have:=ag q L
   rw[e] at this;dsimp only;rw[e];exact isO this
  .rw[m6]
   rw[List.Nodup,G5] at Z;rw[List.Nodup,G5];refine If (λ{p q} hp L hne z=>hne ?_) Z
   obtain⟨i,j,e⟩:=B p hp;obtain⟨i',j',e'⟩:=B q L;simp only[Function.comp,e,e',i_,map_nil,toO] at z;rw[e,e'];cases z;rfl
 have ac:(Jw (cC X.prog X.w)).is s.heap [none,some v] b:=by
  obtain⟨_,its,r,ot,h1,h2,n,h3⟩:=(show bC X.prog X.w H s.heap b (.tup [.non,.int v]) from I.hok b _ hb)
  refine(show IsTupleKey (cC X.prog X.w) s.heap [none,some v] b from⟨ot,its.toArray,n,h1,h2,h3,?_⟩)
  cases r with
  | cons r1 r2 =>
   cases r2 with
   | cons r3 r4 =>
    cases r4;exact .cons (BB (k:=none) r1) (.cons (BB (k:=some v) r3) .nil)
 refine call_meetsIn Ka ab PySem.F.entry_dict_get (PySem.F.args_dict_get_2 _ _) (meetsH_dict_get (Jw (cC X.prog X.w)) a b hd) ⟨Jg hu,[none,some v],_,ac,dd,?_⟩
 have af:atKey (xs.map λq=>(q.1.map toO,q.2)) [none,some v]=none:=by
  unfold atKey;rw[Option.map_eq_none_iff,List.find?_eq_none];intro x Y e;obtain⟨q,L,rfl⟩:=i4.mp Y;obtain⟨i,j,eq⟩:=B q L;have e:=of_decide_eq_true e;dsimp only at e;rw[eq] at e;cases e
 rw[af];exact h _ (I.tok _)
def jI (ps:List (Int × Int × Int)):Option Int->Int->Option Int
 | none,_=>none
 | some s,v=>(ps.find? λx=>decide (x.1=s/\x.2.1=v)).map λx=>x.2.2
theorem qk (s v:Int) : ∀ps:List (Int × Int × Int),(bJ (cP ps) [h_ s,h_ v]).getD .non=oV (jI ps (some s) v)
 | []=>rfl
 | p :: ps=>by
  have F:=qk s v ps;unfold cP jI at F ⊢;dsimp only at F ⊢;rw[i_,Jr]
  by_cases h:p.1=s/\p.2.1=v
  .rw[decide_eq_true h]
   obtain⟨rfl,rfl⟩:=h;simp[bJ,oV]
  .rw[decide_eq_false h]
   have B:([h_ p.1,h_ p.2.1]:List Key)≠[h_ s,h_ v]:=λz=>h (by cases z;exact⟨rfl,rfl⟩)
   simpa [bJ,B] using F
def Cv (td ty:TE):TE:=λσ H Q=>td σ H λx H1=>∃a,x = .ref a/\∃ps,H1 a=some (.dT (cP ps))/\ty σ H1 λy H2=>H2 a=some (.dT (cP ps))/\∃b,y = .ref b/\∃st v,H2 b>>[oV st,.int v]/\Q (oV (jI ps st v)) H2
theorem AS (hu:X.A.units+1 < cLine) (ho:PE X oe td) (he:PE X e ty) (m:M1 X oe "get" apos e cpos):PE X (.Call (.Attribute oe "get" apos) [e] [] cpos) (Cv td ty):=by
 intro pins s σ H Q I h;refine wpAny_Call_method m.base m.few m.line PySem.F.plainAttrs_dict Ka PySem.F.type_dict_get (thn (ho pins s σ H _ I h) λu s1 B=>?_)
 obtain⟨x,H1,Z,rx,a,ex,ps,d,q1⟩:=B;subst ex;obtain rfl:u=j6 a:=rx
 obtain⟨t1,t2,_⟩:=FS Z (.inr ⟨_,.inl d⟩);refine⟨t1,t2,?_⟩
 rw[m.trees];refine JV rfl (Calls.evalArgs_plain (JQ (thn (he pins s1 σ H1 _ Z q1) λiv s2 ⟨y,H2,I2,ry,d2,b,ey,st,v,hb,q2⟩=>JY ?_)))
 subst ey;obtain rfl:iv=j6 b:=ry
 cases st with
 | none=>exact BK hu I2 d2 hb λs3 Y=>⟨.non,H2,Y,rfl,q2⟩
 | some st=>exact Gj hu I2 (kN.t (k:=[h_ st,h_ v]) d2 hb) rfl λw' s3 Y L=>⟨_,H2,Y,by rw[qk] at L;exact L,q2⟩
section
variable {ie l:Expr} {tl:TE}
theorem CG (Y:X.prog=P) (B:X.w=w) (hu:X.A.units+1 < cLine) (F:PE X oe td) (hi:PE X ie ty) (Z:PE X value tv) (L:KF value (some (.Subscript oe ie pos')) pos.line X.env=pure false) :
  PS X (.Assign [.Subscript oe ie pos'] value pos) (CN P w td ty tv):=by
 subst Y B;exact DL hu F hi Z L
theorem yo (L:X.prog=P) (F:X.w=w) (B:PE X e te):PE X e (DH P w te):=by
 subst L F;exact EM B
theorem CJ (F:X.prog=P) (B:X.w=w) (hl:PE X l tl):PI X tg l (iN P w tl):=by
 subst F B;exact IW hl
end
theorem Dr (hK:X.K=K) (hu:X.A.units+100 < cLine):OpR X (t3 .Eq) (Gm K):=by
 subst hK;exact pR hu
noncomputable def dX (i:Nat):TE:=λσ H Q=>match σ[i]? with | some (some v)=>Q v H | _=>False
theorem Bn {Q:VK} (h:dX i σ H Q):Dw i σ H Q:=by
 unfold dX at h
 split at h
 .exact⟨_,by assumption,h⟩
 .exact h.elim
theorem pvM (i:Nat) {x:Str} {pos:Pos} (L:X.N[i]? = some x:=by rfl) (Y:Vis X.env.scope x:=by first | exact Or.inl rfl | exact Or.inr (Or.inl rfl) | exact Or.inr (Or.inr rfl)) (F:(x ==("__debug__" : Str))=false:=by decide)
  (B:(x ==("__classdict__" : Str))=false:=by decide):PE X (.Name x pos) (dX i):=λpins s σ H Q I h=>EB L Y F B pins s σ H Q I (Bn h)
structure Eo (w:World) (K:fy) (a:Addr):Prop where
 ex : ∃es n,K.lookup a=some ⟨.type "dict",none,.dict es n,#[]⟩/\PySem.W.KeysLit w.params es.toList
def FnT (P:Program) (w:World) (K:fy) (mg:Str->Option Value) (base:Heap) (a:Addr) (x:Str) (k:Nat) (ps:List Str) (sp:Sp):Prop :=
 ∃f fd,ji P w K mg base CX0 k f fd ps sp/\nsIn K a x=some (-f)/\JM K (.ref f)=true/\jD K fd ps []
theorem oz {y:Str} (F:Fn P w K mg base y j ps sp) (Y:mg y=-f) (B:nsIn K a x=some (-f)) (h:j<=k)
  (L : ∀vs H Q E,sp' vs H Q E->sp vs H Q E):FnT P w K mg base a x k ps sp':=by
 obtain⟨f',fd,F,m,Z,b⟩:=F;rw[Y] at m;cases m;exact⟨f,fd,(F.mono h).imp L,B,Z,b⟩
noncomputable def kY (names:List Str) (sp:Str->Sp) (tb:TE) (t:TA):TE:=λσ H Q=>tb σ H λy H1=>∃x,y = .str x/\x∈names/\t σ H1 λvs H2=>sp x vs H2 Q E0
section
variable {p p1:Pos} {b:Expr} {tb:TE} {t:TA}
theorem Bg {sp:Str->Sp} (TA:Eo X.w X.K a) (F : ∀y∈names,FnT X.prog X.w X.K X.mg X.base a y k ps (sp y)) (hm:X.mg x=-a) (hb:PE X b tb) (ha:PA X (e :: es) t) (hr:dg k X.A:=by exact dg.mono (by assumption) (by first | decide | omega)) (hg:Gl X x:=by exact rfl)
  (hs:yO b:=by exact λ_ _=>rfl) (Y:(x ==("__debug__" : Str))=false:=by decide)
  (he:j8 (e :: es) X.env=(false,eval e X.env) :: j8 es X.env:=by rfl) (Z:(y8 pos (j8 es X.env)).any (·.1)=false:=by rfl) :
  PE X (.Call (.Subscript (.Name x p) b p1) (e :: es) [] pos) (kY names sp tb t):=by
 intro pins s σ H Q I h
 show wpAny _ _ (do callWith pos (<- eval (.Subscript (.Name x p) b p1) X.env) [] (y8 pos (j8 (e :: es) X.env)) (backToKw pos (Kw [] X.env))) _ _ s
 refine a_ (Subscript_ (lT I hg hm (thn (hb pins s σ H _ I h) λu s1 B=>?_) Y))
 obtain⟨v,H1,I1,r,y,ey,hy,q⟩:=B;subst ey;obtain⟨tk,rfl⟩:=r;obtain⟨f,fd,F,hn,kp,bd⟩:=F y hy;obtain⟨aa,n,hl,hk⟩:=TA.ex;have L:=PySem.W.mapOf_K (prog:=X.prog) I1.kIn hl hk;refine PyProof.Rows.tail_any L.typeIs PySem.F.slot_dict_getitem.lookup (wpAny_getItem_of (strKind_is X.prog X.w y tk) L (PySem.W.find_K hl hn) ?_) (hs _ _)
 have I2:Inv X pins σ H1 { s1 with toks:=s1.toks+1 }:=I1.tok _
 refine Kj (h₀:=X.base) I.ok.mod.kin kp (thn (ha pos pins _ σ H1 _ I2 q) λus s3 ⟨vs,H3,I3,r3,q3⟩=>⟨I3.kIn,?_⟩) he Z
 exact kT F hr bd .nil pb I3 r3 (by rw[append_nil];exact q3)
end
def ZTup (H:Hp) (p:Addr) (ys:List V):Prop:=∃o:Obj,o.dict=none/\H p=some (.frz o (.tup ys))
theorem ZTup.sq {ys:List V} (h:ZTup H p ys):SqT K H p ys:=by
 obtain⟨o,_,h⟩:=h;exact .inl (.inr ⟨o,h⟩)
theorem ZTup.keep {ys:List V} (h:ZTup H p ys) (k : ∀o u,H p=some (.frz o u)->H' p=some (.frz o u)):ZTup H' p ys:=by
 obtain⟨o,d,h⟩:=h;exact⟨o,d,k _ _ h⟩
def El:List V->Hp->VK->Prop:=λxs H Q=>∃p,xs=[.ref p]/\∃ys,H p*>ys/\∀l o,H l=none->o.dict=none->Q (.ref l) (upd H l (.frz o (.tup ys)))
theorem zP:bK X (.type "tuple") El:=by
 intro pins s σ H xs us Q I r h;obtain⟨p,rfl,ys,hq,q⟩:=h;obtain⟨u,rfl,Z⟩:=dD r;cases Z;obtain⟨its,r',pl,hz⟩:=I.list (.of hq);have F:=r'.length;refine PySem.call_tuple_list pl.isList (λh' Y=>?_) (by simp only[j_] <;> omega)
 have B:Inv X pins σ H { s with heap:=h' }:=I.kept (t':=s.toks) Y
 have L:Inv X pins σ (upd H h'.objs.size (.frz { cls:=.type "tuple",data:=.seq its.toArray } (.tup ys))) { s with heap:=h'.push { cls:=.type "tuple",data:=.seq its.toArray } } :=
  B.laid (t':=s.toks) (λb o e=>c_ _ e) (i6 _) (show bC X.prog X.w _ _ _ (.frz _ (.tup ys)) from⟨gt _ rfl,hz,its,r',IsTup.new _ _⟩)
 exact⟨.ref h'.objs.size,_,L,rfl,q _ _ (B.hok.fresh (i6 _)) rfl⟩
def iZt (K:fy) (tl:TE):TI:=λσ H R=>tl σ H λx H1=>∃a,x = .ref a/\∃xs,ZTup H1 a xs/\R (Itt K a) H1
theorem GP {l:Expr} {tl:TE} (hK:X.K=K) (hl:PE X l tl):PI X tg l (iZt K tl):=by
 subst hK;intro pins s σ H R I h;refine thn (hl pins s σ H _ I h) λv F B=>?_
 obtain⟨x,H1,L,r1,a,e,xs,Y,q⟩:=B;subst e;cases r1;obtain⟨its,rv,p,hz⟩:=L.tuple Y.sq;refine u5 (show F.heap.IsTuple a its.toArray from p) ?_
 refine⟨F.heap.objs.size,[F.heap.objs.size],_,_,H1,rfl,L.kept (t':=F.toks) λb o e=>c_ _ e,pQ a _,⟨_,gt _ rfl,rfl,rfl⟩,λb Z=>?_,q⟩
 have e:b=F.heap.objs.size:=by simpa using Z
 subst e;exact L.fpOk (i6 _) (L.hok.fresh (i6 _))
end L2
namespace HT
open PySem PySem.Spec PyProof.Rows L2
theorem wM (n:Nat):y3 none none (-1) (n:Int)=((n:Int) - 1,-1):=by
 unfold y3;simp
theorem wW (n:Nat):uj ((n:Int) - 1) (-1) (-1)=n:=by
 unfold uj;have h1 : ¬ ((-1:Int) > 0):=()
 simp only[h1,if_false,show(-(-1):Int)=1 from rfl,Int.ediv_one]
 split <;> omega
theorem mU {sl:Addr} {Q:Int × Int × Nat->Shared->Prop} (Z:s.heap.IsSliceOf sl .none .none vk) (L:IsPart vk (some (-1)))
  (h:Q ((n:Int) - 1,-1,n) s):wpAny (model prog w) A (Jl (.ref sl) (pure (n:Int))) Q E s:=by
 obtain⟨os,B,Y,F⟩:=id Z;unfold Jl Builtin.Slice.sliceFields;refine a_ (a_ (la B F (x:=.none) rfl (a_ (la B F (x:=.none) rfl (a_ (la B F (x:=vk) rfl (e_ ?_)))))))
 refine a_ (lj L ?_)
 show wpAny _ _ (if ((-1:Int) == 0)=true then _ else _) _ _ s
 rw[if_neg ∅]
 refine a_ (slicePart_none (a_ (slicePart_none (a_ (e_ ?_)))))
 show wpAny _ _ (match y3 none none (-1) (n:Int) with | (lo,hi)=>pure (lo,(-1:Int),uj lo hi (-1))) _ _ s
 rw[wM n]
 show wpAny _ _ (pure ((n:Int) - 1,(-1:Int),uj ((n:Int) - 1) (-1) (-1))) _ _ s
 rw[wW];exact e_ h
theorem Cj (xs:Array Value):((range xs.size).filterMap λ(m:Nat)=>xs[(((xs.size:Int) - 1)+(m:Int) * (-1)).toNat]?).toArray=xs.toList.reverse.toArray:=by
 have e:(range xs.size).filterMap (λ(m:Nat)=>xs[(((xs.size:Int) - 1)+(m:Int) * (-1)).toNat]?)=(range xs.size).filterMap (λ(m:Nat)=>xs.toList.reverse.toArray[((0:Nat):Int).toNat+m]?):=by
  have F : ∀(f g:Nat->Option Value) (l:List Nat),(∀m∈l,f m=g m)->l.filterMap f=l.filterMap g:=by
   intro f g l
   induction l with
   | nil=>intro _;rfl
   | cons a l Y =>
    intro h;rw[J1,J1,h a m8,Y λm L=>h m (k6 _ L)]
  refine F _ _ _ λm L=>?_
  have B:=Kf.mp L;have e1:(((xs.size:Int) - 1)+(m:Int) * (-1)).toNat=xs.size - 1 - m:=()
  rw[e1];simp[Ji,B]
 rw[e];have:=wc xs.toList.reverse.toArray 0 xs.size
 have e2:(λ(m:Nat)=>xs.toList.reverse.toArray[(((0:Nat):Int)+(m:Int) * 1).toNat]?)=λ(m:Nat)=>xs.toList.reverse.toArray[((0:Nat):Int).toNat+m]? := by
  funext m
  congr 1
  omega
 rw[e2] at this;rw[this];rw[drop_zero,nH (by simp)]
theorem getItem_tuple_rev {t sl:Addr} (F:IsTup s.heap t items) (hs:s.heap.IsSliceOf sl .none .none vk) (pk:IsPart vk (some (-1)))
  (h:Q (.ref s.heap.objs.size) { s with heap:=s.heap.push { cls:=.type "tuple",data:=.seq items.toList.reverse.toArray } })
  (hsz:items.size<=hB):wpAny (model prog w) A (J9 (.ref t) (.ref sl)) Q E s:=by
 have B:sizeOk (.seq items.toList.reverse.toArray):=by
  show items.toList.reverse.toArray.size<=hB
  simpa using hsz
 obtain⟨os,aa,L,ab⟩:=id hs;have Y:s.TypeIs (.ref sl) "slice" :=⟨os,aa,L⟩
 unfold J9
 try with_reducible refine u7 ?_
 first | refine a_ (e_ ?_) | skip
 refine a_ (wpAny_sequenceKey F.typeIs ∅ ?_)
 refine a_ (m9 (name:=b_ "__getitem__") F.typeIs o6
  (o7 o6 F.typeIs entry_tuple_getitem ?_ (args_tuple_getitem _ _)))
 show wpAny _ _ (Builtin.Tuple.tupleItemsOf (.ref t) >>= _) _ _ s
 refine a_ (tupleItemsOf_ F ?_)
 refine a_ (J_ Y ?_)
 rw[if_pos ∅]
 refine a_ (mU hs pk ?_)
 have Z : ¬ ((((items.size:Int) - 1) == 0 && (-1:Int) == 1 && items.size == items.size)=true):=by simp
 show wpAny _ _ (if (((items.size:Int) - 1) == 0 && (-1:Int) == 1 && items.size == items.size)=true then _ else _) _ _ s
 rw[if_neg Z,Cj]
 first
  | exact a_ (m:=u9 _) (r_ (e_ ⟨_,rfl,e_ h⟩) B)
  | exact a_ (m:=u9 _) (r_ (a_ (e_ (e_ ⟨_,rfl,e_ h⟩))) B)
  | exact a_ (a_ (m:=u9 _) (r_ (e_ (e_ ⟨_,rfl,e_ h⟩)) B))
  | exact a_ (a_ (m:=u9 _) (r_ (e_ ⟨_,rfl,e_ h⟩) B))
end HT
namespace L2
open PySem PySem.Spec PyProof.Rows
section
variable {tk:TO} {stp:Expr}
def Er (te:TE) (tk:TO):TE:=λσ H Q=>te σ H λx H1=>tk σ H1 λu H2=>u=some (-1)/\∃a,x = .ref a/\∃xs,H2 a>>xs/\∀p,H2 p=none->Q (.ref p) (upd H2 p (.tup xs.reverse))
theorem Da (he:PE X e te) (hk:PO X (some stp) tk):PE X (.Subscript e (.Slice none none (some stp) p2) pos) (Er te tk):=by
 intro pins s σ H Q I h;refine Subscript_ (thn (he pins s σ H _ I h) λv s1 ⟨x,H1,I1,r1,q1⟩=>wpAny_Slice ?_)
 rw[evalPart_none];refine e_ (e_ (thn (hk pins s1 σ H1 _ I1 q1) λvk F B=>?_))
 obtain⟨u,H3,I3,pu,hu,a,ex,xs,hx,q3⟩:=B;subst ex;subst hu;cases r1;have L:Inv X pins σ H3 { F with heap:=F.heap.push { cls:=.type "slice",data:=.fields #[.none,.none,vk] } }:=I3.kept (t':=F.toks) λb ob q=>c_ _ q
 obtain⟨its,r,Z,hz⟩:=L.tuple (SqT.of hx);have Y:=r.length
 show wpAny (model X.prog X.w) X.A (subscriptTail e (.Slice none none (some stp) p2) (.ref a) (.ref F.heap.objs.size)) (EP X pins σ Q) X.xe { F with heap:=F.heap.push { cls:=.type "slice",data:=.fields #[.none,.none,vk] } }
 refine tail_any (ops:=[.ref a,.ref F.heap.objs.size]) Z.typeIs o6.lookup ?_ (by with_unfolding_all rfl)
 refine HT.getItem_tuple_rev Z (Heap.IsSliceOf.new ..) pu ?_ (by rw[j_] <;> omega)
 refine⟨.ref _,_,L.laid (t':=F.toks) (o:=.tup xs.reverse) (λb ob q=>c_ _ q) (i6 _) ?_,rfl,q3 _ (L.hok.fresh (i6 _))⟩
 exact⟨by rw[length_reverse];exact hz,_,r.reverse,IsTup.new _ _⟩
end
section
variable {g:TG}
theorem sw {Q:VK}
  (a3:X.calm=true) (S:lP X scope N nt js) (hi:PI X tg iter wi)
  (hg : ∀{cl C fp s H xe},PG (dv X scope N cl C fp s H xe) tg g) (aG:BO g nt)
  (hc : ∀{cl C fp s H xe},PTs (dv X scope N cl C fp s H xe) ifs tc)
  (he : ∀{cl C fp s H xe},PE (dv X scope N cl C fp s H xe) elt te)
  (hs : ∀x,foldedSetIterable iter X.env x=pure x) (I:Inv X pins σ H s) (h:ym nt js wi g tc te σ H Q)
  (aJ : ∀{cl C fp F H2 xe H3 s4 D},Inv X pins σ H2 F->(∀b∈fp,qf X pins H2 b)->F.heap.objs.size < C->Inv (dv X scope N cl C fp F H2 xe) [] (fO nt js σ) H3 s4->Q (.ref D) H3 ->
   compPost (model X.prog X.w) X.A X.xe use Qf (.ref D) C (.ok .next) s4) :
  wpAny (model X.prog X.w) X.A (comprehension (.ListComp elt [⟨tg,iter,ifs,0⟩] scope pos) scope X.env pos' (newList []) false (eval iter X.env) use) Qf X.xe s:=by
 obtain⟨cl,a0,a7,_,a9⟩:=lh (env:=X.env) scope.names [] (λx hx hk=>I.ok.has x.1 (S.free x hx hk))
 have a6 : ∀x c,cl.lookup x=some c->X.env.cells.lookup x=some c:=λx c e=>(a7 x c e).elim (λz=>by simp at z) λz=>z
 have ak:closureFor scope X.env=pure cl:=by
  unfold closureFor;simp only[];rw[a0];rfl
 refine wpAny_comprehension_free rfl hs ak S.kind S.loc (thn (hi pins s σ H _ I h) λv s1 h1=>thn h1 λaN F h2=>?_)
 obtain⟨it,fp,tn,J,H2,e,I2,T,a2,f2,q2⟩:=h2;subst e;have Z:H2 F.heap.objs.size=none:=I2.hok.fresh (i6 _)
 obtain⟨W,⟨m0,w0⟩,a4⟩:=q2 F.heap.objs.size Z;refine r_ (gm (λB=>?_))
 dsimp only at B ⊢;generalize hG:F.heap.push { cls:=.type "list",dict:=none,data:=.seq ([]:List Value).toArray }=G at B ⊢;have aI:G.objs.size=F.heap.objs.size+1:=by rw[<- hG,o8]
 have ab:=cellsFrom_ok scope.names (G.push { cls:=.type "dict",data:=.dict #[] }) (G.objs.size+1) [] ⟨λ_ _ hm=>(nomatch hm),List.Pairwise.nil⟩ (by rw[o8];exact i6 _)
 rw[o8] at ab;have kp : ∀b o,G.get? b=some o->(pushCells (G.push { cls:=.type "dict",data:=.dict #[] }) scope.names).get? b=some o:=λb o e=>pushCells_keeps _ _ _ _ (c_ _ e)
 generalize aC:pushCells (G.push { cls:=.type "dict",data:=.dict #[] }) scope.names=ad at B ab kp ⊢;have aa : ∀b o,F.heap.get? b=some o->ad.get? b=some o:=λb o e=>kp b o (hG ▸ c_ _ e)
 have a8:HOk X.prog X.w (upd H2 F.heap.objs.size (.lst [])) ad:=I2.hok.laid aa (i6 _) ⟨y6 _,[],0,.nil,kp _ _ (hG ▸ gt _ rfl)⟩
 have ah : ∀b∈fp,b < F.heap.objs.size:=λb L=>by
  obtain⟨o,e,_⟩:=T.obj _ _ a2 b L;exact f_ e
 have aM : ∀c,G.objs.size<=c->(upd H2 F.heap.objs.size (.lst [])) c=none:=λc hc=>by
  rw[ag (sn ())]
  exact I2.hok.fresh ()
 have ay:=λxe H3 s4=>@aJ (o_ (G.objs.size+1) scope.names cl) G.objs.size fp F H2 xe H3 s4 F.heap.objs.size I2 f2 (by rw[aI];exact G_ _)
 generalize aD:compPost (model X.prog X.w) X.A X.xe use Qf (.ref F.heap.objs.size) G.objs.size=RR at ay
 let Y:=dv X scope N (o_ (G.objs.size+1) scope.names cl) G.objs.size fp F H2 (notedBy (model X.prog X.w) X.A (compEnvC scope (o_ (G.objs.size+1) scope.names cl) G.objs.size X.env) λe s'=>RR (.error e) s')
 have af : ∀{H':Hp},(∀b∈fp,H' b=none)->∀b∈fp,qf Y [] H' b:=λ{H'} hn b L=>by
  obtain⟨f0,f1,aH,f3,f4,f5⟩:=f2 b L;have h1:=ah b L;refine⟨hn b L,mu (hH h1 (by show _<=G.objs.size;omega)),λz=>?_,.inl L,λx c e=>?_,λp hp=>absurd (show p∈([]:List (Addr × Obj)) from hp) (by simp)⟩
  .rcases i7.mp (I2.stkSub b z) with q | q
   .exact f1 q
   .exact aH q
  .have e:(o_ (G.objs.size+1) scope.names cl).lookup x=some c:=e
   rw[bH] at e;rcases qg e with q | q
   .have:=(ab.empty x c (mem_of_lookup q)).2
    exact sn (hH h1 ())
   .exact f4 x c (a6 x c q.2)
 have az:J8 (model X.prog X.w) X.A (.compLoop (.ListComp elt [⟨tg,iter,ifs,0⟩] scope pos) 0 (.ref it) (.ref F.heap.objs.size) (compEnvC scope (o_ (G.objs.size+1) scope.names cl) G.objs.size X.env)) RR { F with heap:=ad,toks:=F.toks }:=by
  refine ud (λn s'=>∃i ys H',Inv Y [] (fO nt js σ) H' s'/\tn i s'.heap/\(∀b∈fp,H' b=none)/\W i n ys H') ?_ m0
   ⟨0,[],_,vP S I2 f2 a6 a9 (λx c hm=>ab.empty x c hm) ab.apart aM ah () aa (λb o e=>by rw[ag (ap e Z)];exact e) (λb n L=>by rw[ag (mu L)];exact n) a8 B (λ_=>rfl),T.keep _ _ _ a2 λb L o e=>aa b o e,λb L=>by rw[ag (mu (ah b L))];exact(f2 b L).1,w0⟩
  rintro n s3 ⟨i,ys,H3,J3,aB,aA,w3⟩
  rcases a4 i n ys H3 w3 with⟨a5,qn⟩ | ⟨go,NN,hN,step⟩
  .refine thn (T.done Y rfl rfl rfl a3 i [] s3 (fO nt js σ) H3 _ J3 (af aA) aB a5) λr s4 ai=>?_
   obtain⟨hr,I4⟩:=ai;subst hr;exact ay _ _ _ I4 qn
  .refine thn (T.item Y rfl rfl rfl a3 i [] s3 (fO nt js σ) H3 _ J3 (af aA) aB go) λr s4 aw=>?_
   obtain⟨u,hr,h4⟩:=aw;subst hr;refine thn h4 λ_ s5 am=>?_
   obtain⟨x,H5,I5,r5,y5,a1,aE⟩:=am;have g5:=aG x (fO nt js σ) H5 _ ql (step x H5 y5);refine thn (hg _ s5 _ H5 x u _ (I5.pinned (af aE) (T.obj _ _ a1)) r5 g5) λ_ s6 ao=>?_
   obtain⟨ax,H6,I6,aL,q6⟩:=ao;refine thn (hc _ s6 ax H6 _ I6 q6) λok s7 an=>?_
   obtain⟨H7,I7,q7⟩:=an;have ac : ∀{s8:Shared} {H8:Hp} {aq:List V},Inv Y ([]++qM fp s5.heap) ax H8 s8->NN aq H8 ->
     ∃m,m < n/\∃i ys H',Inv Y [] (fO nt js σ) H' s8/\tn i s8.heap/\(∀b∈fp,H' b=none)/\W i m ys H':=λ{s8 H8 aq} I8 n8=>by
    obtain⟨m',hm,w8⟩:=hN aq H8 n8;have k8:=λb L o e=>I8.pin (b,o) (p9 _ (p9 _ (ly L e)))
    refine⟨m',hm,i+1,aq,H8,(I8.unpinned).wk aL,T.keep _ _ _ a1 λb L o e=>(k8 b L o e).1,λb L=>?_,w8⟩
    obtain⟨o,e,d⟩:=T.obj _ _ a1 b L;exact(k8 b L o e).2.1
   cases ok with
   | false =>
    rw[if_neg j7] at q7 ⊢;exact ac I7 q7
   | true =>
    rw[if_pos rfl] at q7 ⊢;refine thn (he _ s7 ax H7 _ I7 q7) λy s8 aj=>?_
    obtain⟨yv,H8,I8,r8,aK,aF,q8⟩:=aj;refine thn (sg (X:=Y) _ s8 ax H8 (.ref F.heap.objs.size) [yv] (.ref F.heap.objs.size) [y] (λ_ H9=>NN (ys++[yv]) H9) I8 rfl (.cons r8 .nil) ⟨_,ys,yv,rfl,rfl,aK,aF,q8⟩) λv9 s9 ar=>?_
    obtain⟨x9,H9,I9,r9,q9⟩:=ar;exact ac I9 q9
 subst aD;exact codeAny_compStart_list az (T.self _ 0 _ _ _ (T.keep _ _ _ a2 λb L o e=>aa b o e) az)
theorem bj (S:lP X scope N nt js) (hi:PI X tg iter wi)
  (hg : ∀{cl C fp s H xe},PG (dv X scope N cl C fp s H xe) tg g) (aa:BO g nt)
  (hc : ∀{cl C fp s H xe},PTs (dv X scope N cl C fp s H xe) ifs tc)
  (he : ∀{cl C fp s H xe},PE (dv X scope N cl C fp s H xe) elt te)
  (hs : ∀x,foldedSetIterable iter X.env x=pure x:=by intro _;rfl) (ab:X.calm=true:=by exact rfl) :
  PE X (.ListComp elt [⟨tg,iter,ifs,0⟩] scope pos) (ym nt js wi g tc te):=by
 intro pins s σ H Q I h;rw[eval_ListComp];refine sw ab S hi hg aa hc he hs I h λ{cl C fp s2 H2 xe H3 s4 D} I2 f2 hC I4 qn=>?_
 obtain⟨mC,ac,_⟩:=id I4.loc;refine⟨mC,ac,λF Y=>?_⟩
 have B : ∀b o,b≠C->s4.heap.get? b=some o->F.get? b=some o:=λb o L e=>Y.extBut b o L e
 have lC : ∀{b o},s2.heap.get? b=some o->b≠C:=λe=>mu (lt_trans (f_ e) hC)
 have un:Un (frs X.stack) fp H2 H3 s2.heap F:=by
  have u:=I4.base;refine⟨λb o e n L hx=>B b o (lC e) (u.keep b o e n L hx),λb o e n L hx=>?_,u.free,λb o e hx=>?_,u.tups,u.frzs,u.tbls⟩
  .obtain⟨sl,e1⟩:=u.slot b o e n L hx
   exact⟨sl,B b _ (lC e) e1⟩
  .obtain⟨o',e1⟩:=u.there b o e hx
   exact⟨o',B b _ (lC e) e1⟩
 have Z:HOk X.prog X.w H3 F:=λb u e=>(I4.hok b u e).stay (λc v hc q=>B c v (by
   have cf:H3 C=none:=I4.free
   rintro rfl
   rcases hc with z | z
   .rw[z] at cf;rw[cf] at e;cases e
   .rw[cf] at z;cases z) q) (λ_ q=>q) λ_ _ q=>q
 exact⟨.ref D,H3,I2.call' (s':={ s4 with heap:=F }) I4.os un Z I4.bare (λb L=>by
  obtain⟨f0,f1,ad,f3,f4,f5⟩:=f2 b L;exact⟨f3,f1,f4,f5⟩),rfl,qn⟩
theorem dP (i:Nat) {y:Str} {py F:Pos} (S:lP X scope N nt js) (hi:PI X tg iter wi)
  (hg : ∀{cl C fp s H xe},PG (dv X scope N cl C fp s H xe) tg g) (ac:BO g nt)
  (hc : ∀{cl C fp s H xe},PTs (dv X scope N cl C fp s H xe) ifs tc)
  (he : ∀{cl C fp s H xe},PE (dv X scope N cl C fp s H xe) elt te)
  (hs : ∀x,foldedSetIterable iter X.env x=pure x:=by intro _;rfl) (af:X.calm=true:=by exact rfl) (hN:X.N.Nodup:=by assumption) (ah:X.N[i]? = some y:=by exact rfl) (hy:Loc X.env.scope y:=by first | exact Or.inl rfl | exact Or.inr rfl)
  (ab:KF (.ListComp elt [⟨tg,iter,ifs,0⟩] scope pos) (some (.Name y py)) F.line X.env=pure true:=by rfl)
  (hf:X.fn y=true\/X.env.scope.names.lookup y=some .local:=by first | exact .inl rfl | exact .inr rfl | assumption) :
  PS X (.Assign [.Name y py] (.ListComp elt [⟨tg,iter,ifs,0⟩] scope pos) F) (Ah (ym nt js wi g tc te) (gi i)):=by
 intro pins s σ H D I h;rw[exec_Assign_Name_used _ _ _ _ ab];refine a_ (wpAny_standAt (a_ ?_))
 show wpAny _ X.A (do let _ <- comprehension (.ListComp elt [⟨tg,iter,ifs,0⟩] scope pos) scope X.env _ (newList []) false (eval iter X.env) (some (assign (.Name y py) X.env))) _ _ s
 refine a_ (Gt (sw (Qf:=λ_ s'=>SP X pins D .next s') af S hi hg ac hc he hs I h λ{cl C fp s2 H2 xe H3 s4 D'} I2 f2 hC I4 qn=>?_) (λ_ s' hq=>e_ (e_ hq)) λ_ _ e=>e)
 obtain⟨mC,ag,_⟩:=id I4.loc;have I5:Inv X pins σ H3 s4:=I2.call' (s':=s4) I4.os I4.base I4.hok I4.bare (λb hb=>by
  obtain⟨f0,f1,aj,f3,f4,f5⟩:=f2 b hb;exact⟨f3,f1,f4,f5⟩)
 show wpAny _ X.A (assign (.Name y py) X.env (.ref D')) _ _ s4
 have Y:C≠X.env.locals:=sn (lt_trans I2.lt hC)
 have L : ∀x c,X.env.cells.lookup x=some c->c≠C:=λx c e z=>by
  obtain⟨v,q⟩:=I2.cell x c e;exact s_ _ (lt_trans (z ▸ q.lt) hC)
 refine wpAny_assign_Name (sx I5 hN ah hy (v:=.ref D') rfl (λs6 I6 B=>?_) hf)
 obtain⟨ad,sb,ai⟩:=B;have aa:C≠ad:=by
  rcases ai with z | z
  .rw[z];exact Y
  .exact λe=>L _ _ z e.symm
 refine⟨mC,ag.sameBut sb aa,λak Z=>⟨_,H3,Inv.turned (t':=s6.toks) (it:=C) I6 (λb o hb e=>Z.extBut b o hb e) I4.free Y (.inr (i8 I2.sz (Jc hC))) L (λp hp z=>?_),qn⟩⟩
 exact s_ _ (lt_trans (z ▸ f_ (I2.pin p hp).1) hC)
end
end L2
namespace Lw
open PySem L2
local macro_rules | `(tactic| ctx_has c) => `(tactic| exact ⟨rfl, rfl, rfl, by decide +kernel, rfl, by decide +kernel, by decide +kernel⟩)
local macro_rules | `(tactic| ctx_has z $S:ident) => do
  let i:=Lean.mkIdent
  let nd:=i `nd
  let hu:=i `hu
  let L:=i `L
  let vs:=i `vs
  let H:=i `H
  let Q:=i `Q
  let E:=i `E
  let h:=i `h
  let f:=i `f
  let cdv:=i `cdv
  let A:=i `A
  let outer:=i `outer
  let s:=i `s
  let hr:=i `hr
  `(tactic| (have $nd:ident:=ay.nd $S;refine($L).ok $S (λ$vs $H $Q $E $h=>?_) (λ$f $cdv $A $outer $s $H $vs $Q $E $hr $h=>?_);rotate_left;have $hu:ident:=Eu $hr;rotate_left))
local macro_rules
 | `(tactic| ctx_has v $ids*) => do
  let ns := "true_and dX wR cxK IP AK DK GD EZ EI Gp Option.join_some wD Bf EF IsB EH F6 Ed jo qA yg Gv Ce Ah gi Dw tC tOp tUn kH tB GG tOr GA BU Gg Cm xH tCB rX kE xO Ee Ei tDG sDP HZ Hg rI0 rI rU rEq rNe C3 Db DI C9 C7 DO AB Cu rIL rIT rIS rSL rSQ rST DB iL iT tML tMS xQ pI Du Ci A8 xB xo xx AV AF tW tK By CC yj uz iZ iZL qa pP Ck Ch Bz Az xR ipM GF iE iV iD xE tDI Gb wf qF AR ED Ia IF IL IR dB pV AG rCL BI De yb AE rCS CI pS A4 qt HO.dK.injEq HO.lst.injEq HO.tup.injEq HO.ins.injEq BA AA tSl mz vt L2.jl List.map_cons List.map_nil List.length_cons List.length_nil List.replicate List.cons_append List.nil_append List.append_nil List.getElem?_cons_zero List.getElem?_cons_succ List.set_cons_zero List.set_cons_succ Option.some.injEq V.int.injEq V.ref.injEq V.str.injEq V.bl.injEq V.ty.injEq List.cons.injEq and_assoc and_true and_self exists_eq_left exists_eq_left' exists_eq_right exists_eq_right' exists_and_left exists_eq exists_eq' reduceCtorEq false_and and_false false_or or_false exists_false decide_eq_true_eq String.reduceEq String.reduceBEq Bool.or_true Bool.true_or Bool.or_false Bool.false_or or_true true_or if_true if_false Bool.not_eq_true' Nat.reduceAdd Nat.reduceSub Nat.zero_add List.map List.append_eq List.set Nat.add_zero".splitOn " "
  let xs : Array Lean.Ident := (ns.map fun x => Lean.mkIdent x.toName).toArray ++ ids
  let s ← `(tactic| simp only [$[$xs:ident],*])
  let d : Lean.TSyntax `tactic := ⟨((s.raw.setKind `Lean.Parser.Tactic.dsimp).setArg 0 (Lean.mkAtom "dsimp")).modifyArg 4 fun o => o.modifyArg 0 fun a => a.modifyArg 1 fun l => Lean.mkNullNode (l.getArgs.extract 0 (2 * ns.length - 1))⟩
  `(tactic| ((try $d:tactic); (try $s:tactic)))
 | `(tactic| kpf_say ($H:ident, $q:ident, $hq:ident, $hh:ident, $ss:ident) al $G:ident $o) => `(tactic| (refine ⟨by decide, λ$q $hq => ?_⟩; have $hh : upd $H $q $o $q = some $o := ae; have $ss : au $H (upd $H $q $o) := au.upd0 $hq; generalize upd $H $q $o = $G at $hh:ident $ss:ident ⊢))
local macro_rules | `(tactic| ctx_has o) => `(tactic| first | exact Or.inl rfl | exact Or.inr rfl)
local macro_rules | `(tactic| ctx_has m) => `(tactic| first | decide | omega)
variable {P:Program} {w:World} {K:fy} {mg:Str->Option Value} {base:Heap}
abbrev jf:Stmt:=top 1
abbrev iF:Stmt:=top 3
abbrev lF:Stmt:=top 4
abbrev gY:Stmt:=top 5
abbrev ib:Stmt:=top 6
abbrev gX:Stmt:=top 7
abbrev lw:Stmt:=top 8
abbrev iI:Stmt:=top 9
abbrev kQ:Stmt:=top 10
abbrev fF:Stmt:=top 11
abbrev jJ:Stmt:=top 12
abbrev hE:Stmt:=top 14
abbrev bz:Stmt:=aT (top 16) 0
abbrev fb:Stmt:=aT (top 18) 0
abbrev iq:Stmt:=aT (top 18) 1
abbrev dz:Stmt:=aT (top 18) 2
abbrev da:Stmt:=aT (top 18) 3
abbrev ga:Stmt:=aT (top 20) 0
abbrev jG:Stmt:=aT (top 20) 1
abbrev dq:Stmt:=aT (top 20) 2
abbrev eS:Stmt:=aT (top 20) 3
abbrev fV:Stmt:=aT (top 20) 4
abbrev fD:Stmt:=aT (top 20) 5
abbrev gO:Stmt:=aT (top 22) 0
abbrev lu:Stmt:=aT (top 22) 1
abbrev eu:Stmt:=aT (top 22) 2
abbrev eW:Stmt:=aT (top 22) 3
abbrev fi:Stmt:=aT (top 22) 4
abbrev eJ:Stmt:=aT (top 22) 5
abbrev iP:Stmt:=top 24
abbrev lm:Stmt:=top 25
abbrev gL:Stmt:=aT (top 26) 0
abbrev kJ:Stmt:=aT (top 26) 1
abbrev eO:Stmt:=aT (top 26) 2
abbrev fR:Stmt:=aT (top 26) 3
abbrev gc:Stmt:=aT (top 26) 4
abbrev gz:Stmt:=aT (top 26) 5
abbrev fZ:Stmt:=aT (top 26) 6
abbrev fB:Stmt:=aT (top 28) 0
abbrev iH:Stmt:=aT (top 28) 1
abbrev dQ:Stmt:=aT (top 28) 2
abbrev eD:Stmt:=aT (top 28) 3
abbrev fA:Stmt:=aT (top 28) 4
abbrev eV:Stmt:=aT (top 28) 5
abbrev dm:Stmt:=top 30
abbrev eZ:Stmt:=aT (top 31) 0
abbrev ij:Stmt:=aT (top 31) 1
abbrev fc:Stmt:=aT (top 31) 2
abbrev eN:Stmt:=aT (top 31) 3
abbrev fW:Stmt:=top 33
abbrev fS:Stmt:=aT (top 34) 0
abbrev jt:Stmt:=aT (top 34) 1
abbrev cK:Stmt:=aT (top 34) 2
abbrev bI:Stmt:=aT (top 34) 3
abbrev fX:Stmt:=aT (top 34) 4
abbrev fC:Stmt:=aT (top 34) 5
abbrev ow:Stmt:=top 36
abbrev nI:Stmt:=top 37
abbrev ig:Stmt:=top 38
abbrev fY:Stmt:=top 39
abbrev hU:Stmt:=top 41
abbrev jH:Stmt:=top 42
abbrev gv:Stmt:=top 43
abbrev jz:Stmt:=top 44
abbrev gw:Stmt:=top 45
abbrev jB:Stmt:=top 46
abbrev il:Stmt:=top 47
abbrev gB:Stmt:=top 48
abbrev gV:Stmt:=top 49
abbrev iU:Stmt:=top 50
abbrev fN:Stmt:=top 51
abbrev fQ:Stmt:=top 52
abbrev cg:Stmt:=top 53
abbrev gb:Stmt:=top 54
abbrev dw:Stmt:=top 55
abbrev je:Stmt:=top 56
abbrev jg:Stmt:=top 57
abbrev oO:Stmt:=top 58
theorem re:ay ["things"] ["things"] (aj jf):=by ctx_has c
theorem rR:ay ["number","low","high"] ["number","low","high"] (aj iF):=by ctx_has c
theorem Ap:ay ["terms","filling"] ["terms","filling"] (aj lF):=by ctx_has c
theorem tO:ay ["cells","filling"] ["cells","filling"] (aj gY):=by ctx_has c
theorem qI:ay ["wish","filling"] ["wish","filling"] (aj ib):=by ctx_has c
theorem tD:ay ["wish","filling","hits"] ["wish","filling"] (aj gX):=by ctx_has c
theorem vR:ay ["wish","filling"] ["wish","filling"] (aj lw):=by ctx_has c
theorem rM:ay ["wish","filling"] ["wish","filling"] (aj iI):=by ctx_has c
theorem vK:ay ["wish","filling","leads","step","state","value"] ["wish","filling"] (aj kQ):=by ctx_has c
theorem qP:ay ["wish","filling","found"] ["wish","filling"] (aj fF):=by ctx_has c
theorem uv:ay ["wish","filling"] ["wish","filling"] (aj jJ):=by ctx_has c
theorem uq:ay ["wish","filling"] ["wish","filling"] (aj hE):=by ctx_has c
theorem bP:ay ["self","wish"] ["self","wish"] (aj bz):=by ctx_has c
theorem lg:ay ["self","wish"] ["self","wish"] (aj fb):=by ctx_has c
theorem qS:ay ["self","filling"] ["self","filling"] (aj iq):=by ctx_has c
theorem ln:ay ["self","rooms","least","cell","enough"] ["self","rooms"] (aj dz):=by ctx_has c
theorem ky:ay ["self","rooms","pairs"] ["self","rooms"] (aj da):=by ctx_has c
theorem oq:ay ["self","wish"] ["self","wish"] (aj ga):=by ctx_has c
theorem tJ:ay ["self","filling"] ["self","filling"] (aj jG):=by ctx_has c
theorem qV:ay ["self","rooms"] ["self","rooms"] (aj dq):=by ctx_has c
theorem uD:ay ["self","rooms"] ["self","rooms"] (aj eS):=by ctx_has c
theorem nV:ay ["self","rooms"] ["self","rooms"] (aj fV):=by ctx_has c
theorem lG:ay ["self","rooms"] ["self","rooms"] (aj fD):=by ctx_has c
theorem ph:ay ["self","wish","step"] ["self","wish"] (aj gO):=by ctx_has c
theorem wJ:ay ["self","filling"] ["self","filling"] (aj lu):=by ctx_has c
theorem jV:ay ["self","states","room","behind","state","value"] ["self","states","room"] (aj eu):=by ctx_has c
theorem kO:ay ["self","rooms","states","cell"] ["self","rooms"] (aj eW):=by ctx_has c
theorem pB:ay ["self","rooms"] ["self","rooms"] (aj fi):=by ctx_has c
theorem ou:ay ["self","rooms"] ["self","rooms"] (aj eJ):=by ctx_has c
theorem vj:ay ["term","rooms"] ["term","rooms"] (aj iP):=by ctx_has c
theorem vV:ay ["terms","rooms","spans","term","parts"] ["terms","rooms"] (aj lm):=by ctx_has c
theorem pd:ay ["self","wish"] ["self","wish"] (aj gL):=by ctx_has c
theorem vd:ay ["self","filling"] ["self","filling"] (aj kJ):=by ctx_has c
theorem kC:ay ["self","reached","behind","may_rise_to_low","may_fall_to_high"] ["self","reached","behind"] (aj eO):=by ctx_has c
theorem oC:ay ["self","reached","parts","behind","further","part","earlier"] ["self","reached","parts","behind"] (aj fR):=by ctx_has c
theorem on:ay ["self","rooms","spans","reached","number","term"] ["self","rooms"] (aj gc):=by ctx_has c
theorem pi:ay ["self","rooms"] ["self","rooms"] (aj gz):=by ctx_has c
theorem nE:ay ["self","rooms","span"] ["self","rooms"] (aj fZ):=by ctx_has c
theorem mF:ay ["self","wish"] ["self","wish"] (aj fB):=by ctx_has c
theorem rN:ay ["self","filling"] ["self","filling"] (aj iH):=by ctx_has c
theorem lX:ay ["self","row","rooms"] ["self","row","rooms"] (aj dQ):=by ctx_has c
theorem no:ay ["self","rooms"] ["self","rooms"] (aj eD):=by ctx_has c
theorem mm:ay ["self","rooms"] ["self","rooms"] (aj fA):=by ctx_has c
theorem lz:ay ["self","rooms","fillings","cell"] ["self","rooms"] (aj eV):=by ctx_has c
theorem jF:ay ["cell","rooms","holders","tried","value"] ["cell","rooms","holders","tried"] (aj dm):=by ctx_has c
theorem ls:ay ["self","wish"] ["self","wish"] (aj eZ):=by ctx_has c
theorem qe:ay ["self","filling"] ["self","filling"] (aj ij):=by ctx_has c
theorem kK:ay ["self","rooms","holders","cell"] ["self","rooms"] (aj fc):=by ctx_has c
theorem kz:ay ["self","rooms","seen","cell","value"] ["self","rooms"] (aj eN):=by ctx_has c
theorem oy:ay ["wish"] ["wish"] (aj fW):=by ctx_has c
theorem nK:ay ["self","wish"] ["self","wish"] (aj fS):=by ctx_has c
theorem tG:ay ["self","filling"] ["self","filling"] (aj jt):=by ctx_has c
theorem jR:ay ["self","rooms"] ["self","rooms"] (aj cK):=by ctx_has c
theorem gn:ay ["self","rooms"] ["self","rooms"] (aj bI):=by ctx_has c
theorem nZ:ay ["self","rooms"] ["self","rooms"] (aj fX):=by ctx_has c
theorem mh:ay ["self","rooms"] ["self","rooms"] (aj fC):=by ctx_has c
theorem xi:ay ["wish"] ["wish"] (aj ow):=by ctx_has c
theorem wY:ay ["wish","filling"] ["wish","filling"] (aj nI):=by ctx_has c
theorem qy:ay ["wish","rooms"] ["wish","rooms"] (aj ig):=by ctx_has c
theorem ny:ay ["wish","rooms"] ["wish","rooms"] (aj fY):=by ctx_has c
theorem ux:ay ["_law_script","_law_start","_law_cells","_law_number","_law_cell"] ["_law_script","_law_start"] (aj hU):=by ctx_has c
theorem uw:ay ["_law_deal_here","_law_many","_law_number","_law_one","_law_other"] ["_law_deal_here","_law_many"] (aj jH):=by ctx_has c
theorem rE:ay ["_law_deal_here","_law_many","_law_letters","_law_names_here","_law_k","_law_word","_law_place"] ["_law_deal_here","_law_many"] (aj gv):=by ctx_has c
theorem uk:ay ["_law_deal_here","_law_value","_law_pool_here","_law_k"] ["_law_deal_here"] (aj jz):=by ctx_has c
theorem rD:ay ["_law_deal_here","_law_names_here","_law_pool_here","_law_most","_law_rooms_here","_law_name","_law_some_here"] ["_law_deal_here","_law_names_here","_law_pool_here","_law_most"] (aj gw):=by ctx_has c
theorem um:ay ["_law_deal_here","_law_things","_law_least","_law_left","_law_found","_law_k"] ["_law_deal_here","_law_things","_law_least"] (aj jB):=by ctx_has c
theorem qT:ay ["_law_deal_here","_law_low","_law_high","_law_one","_law_other"] ["_law_deal_here","_law_low","_law_high"] (aj il):=by ctx_has c
theorem wp:ay ["_law_deal_here","_law_some_here","_law_rooms_here","_law_terms","_law_low","_law_high","_law_name","_law_a"] ["_law_deal_here","_law_some_here","_law_rooms_here"] (aj gB):=by ctx_has c
theorem tZ:ay ["_law_deal_here","_law_some_here","_law_pool_here","_law_rows_here","_law_k","_law_row"] ["_law_deal_here","_law_some_here","_law_pool_here"] (aj gV):=by ctx_has c
theorem uT:ay ["_law_deal_here","_law_some_here","_law_pool_here","_law_many","_law_steps","_law_state","_law_value","_law_ends"] ["_law_deal_here","_law_some_here","_law_pool_here"] (aj iU):=by ctx_has c
theorem uu:ay ["_law_deal_here","_law_names_here","_law_rooms_here","_law_pool_here","_law_sorts","_law_sort","_law_some_here","_law_low","_law_rest","_law_inner"] ["_law_deal_here","_law_names_here","_law_rooms_here","_law_pool_here","_law_sorts"] (aj fN):=by ctx_has c
theorem tP:ay ["_law_deal_here","_law_most_cells","_law_most_room","_law_most_wishes","_law_names_here","_law_pool_here","_law_rooms_here","_law_sorts","_law_wishes"] ["_law_deal_here","_law_most_cells","_law_most_room","_law_most_wishes"] (aj fQ):=by ctx_has c
theorem mI:ay ["_law_wish_here","_law_filling","_law_total","_law_values","_law_state","_law_value","_law_after"] ["_law_wish_here","_law_filling"] (aj cg):=by ctx_has c
theorem og:ay ["_law_names_here","_law_rooms_here","_law_fillings_here","_law_name","_law_more","_law_filling","_law_value","_law_other"] ["_law_names_here","_law_rooms_here"] (aj gb):=by ctx_has c
theorem kU:ay ["_law_thing","_law_sort","_law_truths","_law_due"] ["_law_thing","_law_sort"] (aj dw):=by ctx_has c
theorem rT:ay ["_law_found","_law_due"] ["_law_found","_law_due"] (aj je):=by ctx_has c
theorem rA:ay ["_law_wish_here","_law_names_here","_law_rooms_here","_law_kept_here","_law_filling","_law_due","_law_handed"] ["_law_wish_here","_law_names_here","_law_rooms_here"] (aj jg):=by ctx_has c
theorem B9:ay ["_law_script","_law_deal_here","_law_cells","_law_wishes","_law_names_here","_law_rooms_here","_law_less","_law_name","_law_room","_law_things","_law_wish_here","_law_thing"] ["_law_script"] (aj oO):=by ctx_has c
structure xb (K:fy) (Cs:List Addr) (Cw:Addr):Prop where
 nd:Cs.Nodup
 cl : ∀C∈Cs,Cls K C
 ha : ∀C∈Cs,J4 K (.ref C) "__class__" = some (some (.builtin "object.__class__"))
 hn:specialIn K (.builtin "object.__class__") "__get__" = some (some (.builtin "getset_descriptor.__get__"))
 ht:takesIn K (.builtin "object.__class__")=some true
 hm : ∀C∈Cs,mroIn K C (.type "object")=some true
 kit : ∀C∈Cs,∀D∈Cs,JN K (.ref C) (.ref D)=some (decide (C=D))
 kitw : ∀C∈Cs,JN K (.ref C) (.ref Cw)=some true
def E2 (K:fy):List V->Hp->VK->Prop:=λxs H Q=>∃a D,xs=[.ref a,.ref D]/\∃C dx fs Cs B,H a=some (.ins C dx fs)/\xb K Cs B/\C∈Cs/\((D∈Cs/\Q (.bl (decide (C=D))) H)\/(D=B/\Q (.bl true) H))
theorem A3:bK X (.builtin "isinstance") (E2 X.K):=by
 intro pins s σ H xs us Q I r h;obtain⟨a,D,rfl,C,dx,fs,Cs,Cw,ha,B,F,L⟩:=h;obtain⟨u,w',rfl,Y,Z⟩:=sY r;cases Z;rcases L with⟨L,q⟩ | ⟨rfl,q⟩
 .exact oA I Y (.ins ha (B.cl C F) (B.ha C F) B.hn B.ht (B.hm C F)) (B.kit C F D L) λtk=>⟨.bl _,H,I.tok tk,rfl,q⟩
 .exact oA I Y (.ins ha (B.cl C F) (B.ha C F) B.hn B.ht (B.hm C F)) (B.kitw C F) λtk=>⟨.bl true,H,I.tok tk,rfl,q⟩
structure Txt (w:World) (K:fy) (mg:Str->Option Value):Prop where
 b_len:mg "len" = none
 b_max:mg "max" = none
 b_min:mg "min" = none
 b_sum:mg "sum" = none
 b_list:mg "list" = none
 b_reversed:mg "reversed" = none
 b_range:mg "range" = none
 b_isinstance:mg "isinstance" = none
 b_all:mg "all" = none
 b_any:mg "any" = none
 b_sorted:mg "sorted" = none
 b_dict:mg "dict" = none
 b_tuple:mg "tuple" = none
 b_bool:mg "bool" = none
 b_zip:mg "zip" = none
 b_set:mg "set" = none
 b_int:mg "int" = none
 b_enumerate:mg "enumerate" = none
 at_Unlike:mg "Unlike" = some (.ref (ah mg "Unlike"))
 cl_Unlike:Cls K (ah mg "Unlike")
 no_Unlike_wish:aN K (ah mg "Unlike") "wish"
 no_Unlike_cells:aN K (ah mg "Unlike") "cells"
 at_Many:mg "Many" = some (.ref (ah mg "Many"))
 cl_Many:Cls K (ah mg "Many")
 no_Many_wish:aN K (ah mg "Many") "wish"
 no_Many_among:aN K (ah mg "Many") "among"
 no_Many_cells:aN K (ah mg "Many") "cells"
 no_Many_low:aN K (ah mg "Many") "low"
 no_Many_high:aN K (ah mg "Many") "high"
 at_Sum:mg "Sum" = some (.ref (ah mg "Sum"))
 cl_Sum:Cls K (ah mg "Sum")
 no_Sum_wish:aN K (ah mg "Sum") "wish"
 no_Sum_terms:aN K (ah mg "Sum") "terms"
 no_Sum_low:aN K (ah mg "Sum") "low"
 no_Sum_high:aN K (ah mg "Sum") "high"
 at_Table:mg "Table" = some (.ref (ah mg "Table"))
 cl_Table:Cls K (ah mg "Table")
 no_Table_wish:aN K (ah mg "Table") "wish"
 no_Table_cells:aN K (ah mg "Table") "cells"
 no_Table_rows:aN K (ah mg "Table") "rows"
 at_Way:mg "Way" = some (.ref (ah mg "Way"))
 cl_Way:Cls K (ah mg "Way")
 no_Way_wish:aN K (ah mg "Way") "wish"
 no_Way_cells:aN K (ah mg "Way") "cells"
 no_Way_ends:aN K (ah mg "Way") "ends"
 no_Way_leads:aN K (ah mg "Way") "leads"
 at_Behind:mg "Behind" = some (.ref (ah mg "Behind"))
 cl_Behind:Cls K (ah mg "Behind")
 no_Behind_wish:aN K (ah mg "Behind") "wish"
 no_Behind_cells:aN K (ah mg "Behind") "cells"
 no_Behind_gap:aN K (ah mg "Behind") "gap"
 at_Same:mg "Same" = some (.ref (ah mg "Same"))
 cl_Same:Cls K (ah mg "Same")
 no_Same_wish:aN K (ah mg "Same") "wish"
 no_Same_cell:aN K (ah mg "Same") "cell"
 no_Same_among:aN K (ah mg "Same") "among"
 no_Same_inner:aN K (ah mg "Same") "inner"
 at_Wish:mg "Wish" = some (.ref (ah mg "Wish"))
 at_KEEPERS:mg "KEEPERS" = some (.ref (ah mg "KEEPERS"))
 tb_KEEPERS:Eo w K (ah mg "KEEPERS")
 insA:xb K [ah mg "Unlike",ah mg "Many",ah mg "Sum",ah mg "Table",ah mg "Way",ah mg "Behind",ah mg "Same"] (ah mg "Wish")
def bw (m B n:Int) (l:Addr):List (Key × V):=[(i9 "mixed",.int m),(i9 "seed",.int B),(i9 "number",.int n),(i9 "left",.ref l)]
structure aL (H:Hp) (d l:Addr):Prop where
 ex : ∃(m sd n:Int) (xs:List Int),H d<*(bw m sd n l)/\H l*>(xs.map V.int)/\0<=n/\(∀x∈xs,0<=x)/\0<=sd/\sd < 2147483648/\xs.length<=63
def But (d l:Addr) (H H':Hp):Prop:=∀b o,b≠d->b≠l->H b=some o->H' b=some o
theorem Gx : ¬ ((i9 (b_ "mixed"):Key)=i9 (b_ "seed")):=by decide+kernel
theorem E9 : ¬ ((i9 (b_ "mixed"):Key)=i9 (b_ "number")):=by decide+kernel
theorem Hh : ¬ ((i9 (b_ "mixed"):Key)=i9 (b_ "left")):=by decide+kernel
theorem Ec : ¬ ((i9 (b_ "seed"):Key)=i9 (b_ "number")):=by decide+kernel
theorem Gq : ¬ ((i9 (b_ "seed"):Key)=i9 (b_ "left")):=by decide+kernel
theorem GE : ¬ ((i9 (b_ "number"):Key)=i9 (b_ "left")):=by decide+kernel
theorem sH (m B n:Int) (l:Addr):bJ (bw m B n l) (i9 "mixed")=some (.int m):=by unfold bw;rw[bu rfl]
theorem vL (m B n:Int) (l:Addr):bJ (bw m B n l) (i9 "seed")=some (.int B):=by unfold bw;rw[aW Gx,bu rfl]
theorem lv (m B n:Int) (l:Addr):bJ (bw m B n l) (i9 "number")=some (.int n):=by unfold bw;rw[aW E9,aW Ec,bu rfl]
theorem vB (m B n:Int) (l:Addr):bJ (bw m B n l) (i9 "left")=some (.ref l):=by unfold bw;rw[aW Hh,aW Gq,aW GE,bu rfl]
theorem pZ (m B n y:Int) (l:Addr):bv (bw m B n l) (i9 "number") (.int y)=bw m B y l:=by
 unfold bv;rw[gQ,lv];simp only[isSome_some,if_true,bw,i_,map_nil,if_neg E9,if_neg Ec,if_neg (k_ GE)]
theorem Bm (m B n y:Int) (l:Addr):bv (bw m B n l) (i9 "seed") (.int y)=bw m y n l:=by
 unfold bv;rw[gQ,vL];simp only[isSome_some,if_true,bw,i_,map_nil,if_neg Gx,if_neg (k_ Ec),if_neg (k_ Gq)]
theorem wC (m B n:Int) (l:Addr):(bw m B n l).length < hB:=by show 4 < hB;decide
theorem fv {i j:Int} (B:0<=i) (h1:i < 4294967296):Aq i j:=.inl ⟨(),()⟩
def xk:Sp:=λvs H Q _=>∃(d l:Addr) (m:Int),vs=[.ref d,.int m]/\aL H d l/\0 < m/\m < 18446744073709551616/\∀(r:Int) (H':Hp),0<=r->r < m->aL H' d l->But d l H H'->Q (.int r) H'
theorem xK (m B n:Int) (l:Addr):jP [] (bw m B n l)=bw m B n l:=by
 have e1:bv ([]:List (Key × V)) (i9 (b_ "mixed")) (.int m)=[(i9 (b_ "mixed"),.int m)]:=fh _ fI
 have e2:bv [((i9 (b_ "mixed"):Key),V.int m)] (i9 (b_ "seed")) (.int B)=[(i9 (b_ "mixed"),.int m),(i9 (b_ "seed"),.int B)]:=fh _ (by rw[aW Gx,fI])
 have L:bv [((i9 (b_ "mixed"):Key),V.int m),(i9 (b_ "seed"),.int B)] (i9 (b_ "number")) (.int n)=[(i9 (b_ "mixed"),.int m),(i9 (b_ "seed"),.int B),(i9 (b_ "number"),.int n)]:=fh _ (by rw[aW E9,aW Ec,fI])
 have F:bv [((i9 (b_ "mixed"):Key),V.int m),(i9 (b_ "seed"),.int B),(i9 (b_ "number"),.int n)] (i9 (b_ "left")) (.ref l)=bw m B n l:=fh _ (by rw[aW Hh,aW Gq,aW GE,fI])
 show bv (bv (bv (bv ([]:List (Key × V)) (i9 (b_ "mixed")) (.int m)) (i9 (b_ "seed")) (.int B)) (i9 (b_ "number")) (.int n)) (i9 (b_ "left")) (.ref l)=_
 rw[e1,e2,L,F]
theorem uZ (ns:List Int) (lo hi:Option Int) : ∃ms:List Int,gR (ns.map V.int) lo hi=ms.map V.int/\ms.length<=ns.length:=by
 unfold gR;refine⟨(ns.drop (HT.sIx (ns.map V.int).length 0 lo)).take (HT.sIx (ns.map V.int).length (ns.map V.int).length hi - HT.sIx (ns.map V.int).length 0 lo),by simp[map_take,map_drop],?_⟩
 rw[Ju,length_drop];omega
theorem int_at {x:V} (h:(ms.map V.int)[i]? = some x) : ∃v,x = .int v:=by
 rw[fx] at h;cases e:ms[i]? with
 | none=>rw[e] at h;cases h
 | some z=>rw[e] at h;exact⟨z,(ge h).symm⟩
def FZ (K:fy):Sp:=λvs H Q _=>∃(a:Addr) (ns:List Int) (st:Int),vs=[.ref a,.int st]/\SqL K H a (ns.map V.int)/\ns.length<=63/\0<=st/\st<=63/\∀(d l:Addr) (H':Hp),H d=none->H l=none->aL H' d l->au H H'->Q (.ref d) H'
theorem bp {Q:VK} {E:XK} (D:aL H d l) (B:0 < m) (F:m < 18446744073709551616) (h : ∀(r:Int) (H':Hp),0<=r->r < m->aL H' d l->But d l H H'->Q (.int r) H'):xk [.ref d,.int m] H Q E:=⟨d,l,m,rfl,D,B,F,h⟩
theorem But.refl (H:Hp):But d l H H:=λ_ _ _ _ e=>e
theorem But.trans (a:But d l H H1) (b:But d l H1 H2):But d l H H2:=λc o h1 h2 e=>b c o h1 h2 (a c o h1 h2 e)
theorem But.new (a:But d l H H1) (hp:H1 p=none):But d l H (upd H1 p o):=λc u h1 h2 e=>by
 have e1:=a c u h1 h2 e;rw[ag (ap e1 hp)];exact e1
theorem But.same (a:But d l H H1) (s:au H1 H2):But d l H H2:=λc u h1 h2 e=>s c u (a c u h1 h2 e)
theorem aL.ne (D:aL H d l) (hp:H p=none):p≠d/\p≠l:=by
 obtain⟨m,F,n,xs,B,hl,_⟩:=D.ex;exact⟨(ap B hp).symm,(ap hl hp).symm⟩
theorem aL.same (D:aL H d l) (s:au H H'):aL H' d l:=by
 obtain⟨m,F,n,xs,B,hl,r⟩:=D.ex;exact⟨m,F,n,xs,s _ _ B,s _ _ hl,r⟩
theorem aL.new (D:aL H d l) (hp:H p=none):aL (upd H p o) d l:=D.same (au.upd0 hp)
theorem aL.put (D:aL H d l) (h1:p≠d) (h2:p≠l):aL (upd H p o) d l:=by
 obtain⟨m,F,n,xs,B,hl,r⟩:=D.ex;exact⟨m,F,n,xs,by rw[ag h1.symm];exact B,by rw[ag h2.symm];exact hl,r⟩
theorem But.put (a:But d l H H1) (hp:H p=none):But d l H (upd H1 p o):=λc u h1 h2 e=>by
 rw[ag (ap e hp)];exact a c u h1 h2 e
theorem But.free (a:But d l H H1) (D:aL H1 d l) (hp:H1 p=none):H p=none:=by
 obtain⟨h1,h2⟩:=D.ne hp;cases e:H p with
 | none=>rfl
 | some o=>rw[a p o h1 h2 e] at hp;cases hp
theorem yP {xs:List α} {i:Int} (F:0<=i) (h1:i < (xs.length:Int)) : ∃v,atI xs i=some v/\v∈xs:=by
 obtain⟨n,rfl⟩:=A_ F;have B:n < xs.length:=()
 exact⟨xs[n],cE (by simp[B]),JC B⟩
theorem mf {Q:VK} {E:XK} (D:aL H d l) (hp:H p=none) (F:0 < m) (Y:m < 18446744073709551616) (hm:m=(vs.length:Int)) (h : ∀(r:Int) (v:V) (H':Hp),v∈vs->atI vs r=some v->aL H' d l->But d l H H'->H' p*>vs->Q (.int r) H'):xk [.ref d,.int m] (upd H p (.lst vs)) Q E :=
 bp (D.new hp) F Y λr H' Z r1 D' B=>by
  obtain⟨v,e,L⟩:=yP (xs:=vs) Z ()
  exact h r v H' L e D' (((But.refl H).new hp).trans B) (B p _ (D.ne hp).1 (D.ne hp).2 ae)
abbrev Dz0:=Fn P w K mg base "_law_draw" 1 ["_law_deal_here","_law_many"] (xk)
theorem uf (T:Txt w K mg) (L:FnL K mg "_law_draw" jH ["_law_deal_here","_law_many"]) : @Dz0 P w K mg base:=by
 ctx_has z uw <;> obtain⟨d,l,m,rfl,D,m0,m1,k⟩:=h
 .rfl
 refine⟨_,(ai (vY PassesOwn.never (PW.pt (xz (aO bY (bQ hu (pvM 0) aJ) ao) (xz (aO qJ (aD bU T.b_len (ac (bQ hu (pvM 0) aJ) af)) ao) (zk (aO bY (bQ hu (pvM 0) aJ) ao))))) (ak (ia hu (pvM 0) aJ (FT PySem.F.slot_list_pop PySem.F.type_list_pop EE (bQ hu (pvM 0) aJ)) rfl)))
  (ai (aF 2 (bQ hu (pvM 0) aJ))
  (ai (bF (aO qJ (pvM 2) ao) (ai (ia hu (pvM 0) aJ (aQ Ct (pvM 2) (pvM 1)) rfl)
  (ak (az (aQ iM (pvM 2) (pvM 1))))) aR)
  (ai (aF 3 (aQ iM (aQ bf (aQ gC (bQ hu (pvM 0) aJ) ao) ao) ao))
  (ai (ia hu (pvM 0) aJ (aQ iM (aQ bf (aQ gC (pvM 3) ao) ao) ao) rfl)
  (ai (aF 4 (aQ iM (aQ gC (bQ hu (pvM 0) aJ) (bQ hu (pvM 0) aJ)) ao))
  (ak (az (aQ iM (aQ bf (aQ gC (aQ iM (aQ gC (pvM 3) (pvM 3)) ao) ao) (pvM 4)) (pvM 1)))))))))),?_⟩
 obtain⟨Y,sd,n,xs,hd,hl,n0,hx,s0,s1,Z⟩:=D.ex;have dl:d≠l:=aX hd hl (by intro z;cases z)
 refine vJ (λμ σ H'=>∃(n:Int) (xs:List Int),σ=[-d,some (.int m),none,none,none]/\H' d<*(bw Y sd n l)/\H' l*>(xs.map V.int)/\0<=n/\(∀x∈xs,0<=x)/\xs.length<=63/\But d l H H'/\μ=xs.length)
  (λσ H'=>∃(n:Int) (xs:List Int),σ=[-d,some (.int m),none,none,none]/\H' d<*(bw Y sd n l)/\H' l*>(xs.map V.int)/\0<=n/\(∀x∈xs,0<=x)/\xs.length<=63/\But d l H H')
  ⟨_,n,xs,rfl,hd,hl,n0,hx,Z,λb o _ _ e=>e,rfl⟩ ?_ ?_
 .rintro R hR μ σ H1 ⟨n1,xs1,rfl,hd1,hl1,n01,hx1,hlen1,bt,rfl⟩
  have hr:=hR _ _ ⟨n1,xs1,rfl,hd1,hl1,n01,hx1,hlen1,bt⟩;ctx_has v hd1 hl1 lv vB sH
  refine ft (λh1=>?_) (λ_=>hr)
  refine ft (λh2=>?_) (λ_=>hr)
  refine ft (λh3=>?_) (λ_=>hr)
  rcases Ki xs1 with rfl | ⟨ys,z,rfl⟩
  .simp at h2
  refine⟨λσ' H'=>σ'=[-d,some (.int m),none,none,none]/\H'=upd (upd H1 l (.lst (ys.map V.int))) d (.dK (bw Y sd z l)),?_,V.int z,by simp,bw Y sd n1 l,by rw[ag dl];exact hd1,wC _ _ _ _,by rw[pZ];simp⟩
  rintro _ _ ⟨rfl,rfl⟩
  refine⟨ys.length,by simp,rfl,z,ae,ys,by rw[ag dl.symm,ae],hx1 z (by simp),λx hx=>hx1 x (by simp[hx]),by simp at hlen1;omega,λb o h1 h2 e=>?_,rfl⟩
  rw[ag h1,ag h2];exact bt b o h1 h2 e
 .rintro σ H1 ⟨n1,xs1,rfl,hd1,hl1,n01,hx1,hlen1,bt⟩
  ctx_has v hd1 hl1 lv vB sH vL wC pZ Bm ae
  have ab : ∀(r B n':Int),0<=r->r < m->0<=n'->0<=B->B < 2147483648->Q (.int r) (upd H1 d (HO.dK (bw Y B n' l))):=λr B n' r0 r1 ad h0 h1 =>
   k r _ r0 r1 ⟨Y,B,n',xs1,ae,by rw[ag dl.symm];exact hl1,ad,hx1,h0,h1,hlen1⟩ λb o h1 h2 e=>by rw[ag h1];exact bt b o h1 h2 e
  refine ft (λh1=>?_) (λh1=>?_)
  .exact⟨⟨m0,m1⟩,m0,ab _ _ _ (Int.emod_nonneg _ ()) (Int.emod_lt_of_pos _ m0) (Int.ediv_nonneg () ()) s0 s1⟩
  .generalize hone:(sd * 48271+7919) % 2147483647=one
   have o0:0<=one:=()
   have o1:one < 2147483647:=()
   generalize ah:(one * 40692+104729) % 2147483399=aa;have p0:0<=aa:=()
   have p1:aa < 2147483399:=()
   have q0:=Int.emod_nonneg (one * one) (show(2147483629:Int)≠0 by decide)
   have q1:=Int.emod_lt_of_pos (one * one) (show(0:Int) < 2147483629 by decide)
   exact⟨fv s0 (),∅,fv o0 (),∅,fv p0 (),∅,fv o0 (),∅,fv q0 (),m0,
    ab _ _ _ (Int.emod_nonneg _ ()) (Int.emod_lt_of_pos _ m0) n01 p0 ()⟩
abbrev Dz1:=Fn P w K mg base "_law_deal" 1 ["_law_script","_law_start"] (FZ K)
theorem uK (T:Txt w K mg) (L:FnL K mg "_law_deal" hU ["_law_script","_law_start"]) : @Dz1 P w K mg base:=by
 ctx_has z ux <;> obtain⟨a,ns,st,rfl,hS,aw,ax,a0,k⟩:=h
 .rfl
 refine⟨_,(ai (dP 2 (N:=["_law_cell"]) (nt:=1) (js:=[]) (aI ["_law_script","_law_start","_law_cells","_law_number","_law_cell"] (aj hU).names) (gG K (cM Hn (pvM 0) (de (pvM 1)) (de ao))) (aA 0) aP bx (aD (sr rfl) T.b_max (ac (pvM 0) (ac (aQ jw ao (pvM 0)) af))))
  (ai (aF 3 (aQ bf ao (pvM 1)))
  (ai (bq (gG K (pvM 2)) (aA 4) (ak (aF 3 (aQ iM (aQ bf (aQ gC (pvM 3) ao) (pvM 4)) ao))))
  (ak (az (uN (ir aJ (aQ iM (aD (kX rfl) T.b_sum (ac (cM Hn (pvM 0) eF (de ao)) af)) ao) (ir aJ (pvM 3) (ir aJ ao (ir aJ (qv rfl rfl T.b_list rfl T.b_reversed (pvM 2)) uG)))) rfl rfl (by nofun) ∅)))))),?_⟩
 ctx_has v
 refine⟨_,hS,λp hp=>⟨_,ae,λD hD=>?_⟩⟩
 have pD:D≠p:=by rintro rfl;rw[ae] at hD;cases hD
 obtain⟨ms,an,ay⟩:=uZ ns (some st) (some 63);rw[an] at hD ⊢;rw[ag pD] at hD;refine dG cm (λi ys H2=>∃cs:List Int,ys=cs.map V.int/\cs.length=i/\(∀x∈cs,0<=x)/\H2 p*>(ms.map V.int)/\H2 D*>ys/\au H H2)
  ⟨[],rfl,rfl,by simp,by rw[ag pD.symm,ae],ae,(au.upd0 hp).upd_new (by rw[ag pD];exact hD)⟩ (λi ys H2 aa=>by obtain⟨_,_,_,_,h,_⟩:=aa;exact(.of h)) ?_ ?_
 .rintro i x ys H2 hi Z ⟨cs,rfl,rfl,hc,h1,h2,sm⟩
  obtain⟨v,rfl⟩:=int_at Z;ctx_has v h2
  have hi:cs.length < 63:=by simp at hi;omega
  refine⟨by simp;exact aK (),cs++[if 0 - v > v then 0 - v else v],by simp,by simp,λx Z=>?_,by rw[ag pD.symm];exact h1,ae,λb o e=>?_⟩
  .rcases j9.mp Z with q | q
   .exact hc x q
   .rw[gr.mp q];split <;> omega
  .rw[ag (ap e hD)];exact sm b o e
 .rintro ys H2 ⟨cs,rfl,hc,hpos,h1,h2,sm⟩
  have ar:cs.length<=63:=by simp at hc;omega
  ctx_has v h2
  refine bX cm (λi σ H3=>∃(z:Int) (v:Option V),σ=[-a,some (.int st),-D,some (.int z),v]/\0<=z/\z < 2147483648/\H3=H2)
   ⟨_,_,rfl,(),(),rfl⟩ (λi σ H3 ab=>by obtain⟨_,_,_,_,_,h⟩:=ab;exact(by rw[h];exact .of h2)) ?_ ?_
  .rintro i x σ H3 hi Z ⟨z,v,rfl,z0,z1,rfl⟩
   obtain⟨y,rfl⟩:=int_at Z;ctx_has v
   exact⟨fv z0 (),∅,(),()⟩
  .rintro σ H3 ⟨z,v,rfl,z0,z1,rfl⟩
   ctx_has v h2 Ed
   intro d hd;refine⟨_,(sm.upd_new hd).seq hS,λp2 Y=>?_⟩
   have F:p2≠d:=by rintro rfl;rw[ae] at Y;cases Y
   have B:H3 p2=none:=by rwa [ag F] at Y
   obtain⟨xs,aq,_⟩:=uZ ns none (some 1);rw[aq];have ah:D≠p2:=ap h2 B
   have am:D≠d:=ap h2 hd
   refine⟨xs,.of ae,∅,_,by rw[ag ah,ag am];exact h2,λl hl=>?_⟩
   have l1:l≠p2:=by rintro rfl;rw[ae] at hl;cases hl
   have l2:l≠d:=by rintro rfl;rw[ag F.symm,ae] at hl;cases hl
   have ad:H3 l=none:=by rwa [ag l1,ag l2] at hl
   refine⟨by rw[ag l2.symm,ag F.symm,ae],bw (xs.sum % 2) z 0 l,rfl,by show 4<=15;decide,?_⟩
   rw[xK];refine k d l _ (sm.free hd) (sm.free ad) ⟨_,z,0,cs.reverse,ae,by rw[ag l2,ae,map_reverse],(),λx Z=>hpos x (mem_reverse.mp Z),z0,z1,by simpa using ar⟩ λb o e=>?_
   have e3:=sm b o e;rw[ag (ap e3 hd),ag (ap e3 ad),ag (ap e3 B),ag (ap e3 hd)];exact e3
def Dl:Sp:=λvs H Q _=>∃(d l:Addr) (m:Int),vs=[.ref d,.int m]/\aL H d l/\0<=m/\m<=20/\∀(p:Addr) (ws:List Str) (H':Hp),H p=none->gW ws->ws.length=m.toNat->H' p*>(ws.map V.str)->aL H' d l->But d l H H'->Q (.ref p) H'
theorem Cl {B:Str} (Z:fK B) {P:Str->Prop} (h:P (qw B)):B.length<=hB/\∃c,atI B.cps.toList 0=some c/\∃i rest,JH (b_ "abcdefghijklmnopqrstuvwxyz") { cps := #[c] } 0 (b_ "abcdefghijklmnopqrstuvwxyz").length 1=i :: rest/\(0:Int) < 26 /\
  (b_ "abcdefghijklmnopqrstuvwxyz").length<=hB/\∃c,atI (b_ "abcdefghijklmnopqrstuvwxyz").cps.toList (((i:Nat)+1:Int) % 26)=some c/\B.length<=hB/\(Str.mk #[c]).length+(Is B (some 1) none).length<=hB/\P ((Str.mk #[c])++Is B (some 1) none):=by
 obtain⟨c,cs,e,hc,ab,hl⟩:=Z.cons;have F:B.length<=hB:=Jc (aK (i8 Z.le ∅))
 have hs:=Kd B (some 1) none;have hw:=Z.le;refine⟨F,c,by rw[e];exact vM _ _,_,_,rH hc,∅,oN,_,qL () (),F,Jc (aK (by show 1+_<=1000;omega)),?_⟩
 have aa:=hc;simp only[er,l_,decide_eq_true_eq] at aa;have L:B.length=cs.length+1:=by rw[<- mB,e];rfl
 have Y:(Str.mk #[97+((((c - 97:Nat):Int)+1) % 26).toNat])++Is B (some 1) none=qw B:=by
  apply Ek
  rw[lb,oa,e,L];have e1:97+((((c - 97:Nat):Int)+1) % 26).toNat=vn c:=by unfold vn;omega
  have e2:HT.sIx (cs.length+1) 0 (some 1)=1:=by
   show(if (1:Int) < 0 then((1:Int)+((cs.length+1:Nat):Int)).toNat else min (1:Int).toNat (cs.length+1))=1
   rw[if_neg ∅]
   show min 1 (cs.length+1)=1
   omega
  rw[e1,e2,HT.sIx_none];simp[qw,e,DY]
 rw[Y];exact h
theorem jE {Dn:pA} {Y vk L:Option V} {wd:Str} (hw:fK wd) (af:ws.length<=20) (hp:H p*>(ws.map V.str))
  (ad : ∀(B:Str) (H':Hp),fK B->B∉ws->B∉fT->au H H'->Dn.nx [-d,Y,some (.str (b_ "abcdefghijklmnopqrstuvwxyz")),-p,vk,some (.str B),L] H') :
  wP
   (tOr (kH (tOp (BI false) (dX 5) (dX 3)))
    (kH (tOp (BI false) (dX 5) (Ee (kE (tC (V.str "in")) (kE (tC (V.str "from")) (kE (tC (V.str "to")) (kE (tC (V.str "end")) xO))))))))
   (Ah (tOp rCS (tOp rIS (dX 2) (tOp (rI (λx j=>0 < j) λi j=>V.int (i % j)) (tOp (rI0 λi j=>V.int (i+j)) (tMS pI (dX 2) (kE (tOp rIS (dX 5) (tC (V.int 0))) xO)) (tC (V.int 1))) (tC (V.int 26))))
     (tSl DB (dX 5) (vt (tC (V.int 1))) mz)) (gi 5))
   Dn [-d,Y,some (.str (b_ "abcdefghijklmnopqrstuvwxyz")),-p,vk,some (.str wd),L] H:=by
 obtain⟨ac,h0⟩:=zY hw (F:=ws++fT) (by simp[fT];omega)
 refine vJ (λμ σ H'=>∃B:Str,σ=[-d,Y,some (.str (b_ "abcdefghijklmnopqrstuvwxyz")),-p,vk,some (.str B),L]/\fK B/\qb μ B∉ws++fT/\au H H')
  (λσ H'=>∃B:Str,σ=[-d,Y,some (.str (b_ "abcdefghijklmnopqrstuvwxyz")),-p,vk,some (.str B),L]/\fK B/\B∉ws/\B∉fT/\au H H')
  ⟨ac,wd,rfl,hw,h0,au.refl _⟩ ?_ ?_
 .rintro R hR μ σ H1 ⟨w1,rfl,n1,f1,sm⟩
  have aa:=sm _ _ hp;have step : ∀H2,au H H2->w1∈ws++fT->∀ σ' H',(σ'=[-d,Y,some (.str (b_ "abcdefghijklmnopqrstuvwxyz")),-p,vk,some (.str (qw w1)),L]/\H'=H2)->∃m',m' < μ/\∃B:Str,σ'=[-d,Y,some (.str (b_ "abcdefghijklmnopqrstuvwxyz")),-p,vk,some (.str B),L]/\fK B/\qb m' B∉ws++fT/\au H H':=λH2 Z ab=>by
   rintro _ _ ⟨rfl,rfl⟩
   cases μ with
   | zero=>exact absurd ab f1
   | succ μ=>exact⟨μ,G_ _,qw w1,rfl,CQ n1,f1,Z⟩
  ctx_has v aa
  refine⟨rfl,Aa _,?_⟩
  rw[ve];refine ft (λh=>?_) (λh=>?_)
  .exact⟨_,step H1 sm (k9 _ (by simpa using h)),Cl n1 (P:=λz=>[some (V.ref d),Y,some (.str (b_ "abcdefghijklmnopqrstuvwxyz")),-p,vk,some (.str z),L]=[some (V.ref d),Y,some (.str (b_ "abcdefghijklmnopqrstuvwxyz")),-p,vk,some (.str (qw w1)),L]/\H1=H1) ⟨rfl,rfl⟩⟩
  .refine⟨∅,λq hq=>⟨_,ae,rfl,by decide+kernel,?_⟩⟩
   have Z:au H (upd H1 q (.lst (fT.map V.str))):=sm.upd_new hq
   show(if inV (V.str w1) (fT.map V.str)=true then _ else _)
   rw[ve];refine ft (λh2=>?_) (λh2=>?_)
   .exact⟨_,step _ Z (p9 _ (by simpa using h2)),Cl n1 (P:=λz=>[some (V.ref d),Y,some (.str (b_ "abcdefghijklmnopqrstuvwxyz")),-p,vk,some (.str z),L]=[some (V.ref d),Y,some (.str (b_ "abcdefghijklmnopqrstuvwxyz")),-p,vk,some (.str (qw w1)),L]/\_=_) ⟨rfl,rfl⟩⟩
   .exact hR _ _ ⟨w1,rfl,n1,by simpa using h,by simpa using h2,Z⟩
 .rintro σ H1 ⟨w1,rfl,n1,f1,f2,sm⟩
  exact ad w1 H1 n1 f1 f2 sm
abbrev Dz2:=Fn P w K mg base "_law_names" 2 ["_law_deal_here","_law_many"] (Dl)
theorem rK (T:Txt w K mg) (L:FnL K mg "_law_names" gv ["_law_deal_here","_law_many"]) (Fa : @Dz0 P w K mg base) : @Dz2 P w K mg base:=by
 ctx_has z rE <;> obtain⟨d,l,m,rfl,D,m0,m1,k⟩:=h
 .rfl
 refine⟨_,(ai (aF 2 aJ)
  (ai (aF 3 (cA af))
  (ai (bq (dS rfl T.b_range (ac (pvM 1) af)) (aA 4) (ai (aF 5 (Ex PySem.F.slot_str_join PySem.F.type_str_join DN aJ (ac (bj (N:=["_law_j","_law_letters","_law_deal_here"]) (nt:=1) (js:=[2,0]) (aI ["_law_deal_here","_law_many","_law_letters","_law_names_here","_law_k","_law_word","_law_place"] (aj gv).names) (dS rfl T.b_range (ac (aQ bf ao (aw Fa (ac (pvM 0) (ac ao af)))) af)) (aA 0) aP bx (aE CT (pvM 1) (aw Fa (ac (pvM 2) (ac ao af))))) af)))
  (ai (bF (PW.pt (xz (aO qJ (pvM 4) ao) (zk (aO bY (aw Fa (ac (pvM 0) (ac ao af))) ao)))) (ai (aF 6 (aw Fa (ac (pvM 0) (ac (aD Ab T.b_len (ac (aE jr (pvM 3) (mL iW ao)) af)) af))))
  (ak (aF 5 (aQ uO (aQ uO (cM xF (aE jr (pvM 3) (mL iW ao)) eF (de (pvM 6))) (aE CT (pvM 5) ao)) (cM xF (aE jr (pvM 3) (mL iW ao)) (de (aQ bf (pvM 6) ao)) eF))))) aR)
  (ai (vY PassesOwn.never (PW.pt (rW (aO tN (pvM 5) (pvM 3)) (nJ (aO tN (pvM 5) (cA (ac aJ (ac aJ (ac aJ (ac aJ af))))))))) (ak (aF 5 (aQ uO (aE CT (pvM 2) (aQ iM (aQ bf (Ex PySem.F.slot_str_index PySem.F.type_str_index Bu (pvM 2) (ac (aE CT (pvM 5) ao) af)) ao) ao)) (cM xF (pvM 5) (de ao) eF)))))
  (ak (cJ (kF t4 t5 dW (pvM 3) (ac (pvM 5) af))))))))
  (ak (az (pvM 3)))))),?_⟩
 ctx_has v
 refine⟨∅,λp hp=>⟨(),(),?_⟩⟩
 have Y:=D.ne hp;refine bX dn (λi σ H'=>∃(ws:List Str) (vk vw vp:Option V),σ=[-d,some (.int m),some (.str (b_ "abcdefghijklmnopqrstuvwxyz")),-p,vk,vw,vp]/\gW ws/\ws.length=i/\H' p*>(ws.map V.str)/\aL H' d l/\But d l H H')
  ⟨[],_,_,_,rfl,.nil,rfl,ae,D.new hp,(But.refl H).new hp⟩ (λ_ _ _ _=>p_) ?_ ?_
 .rintro i x σ H2 hi hx ⟨ws,vk,vw,vp,rfl,ok,hlen,h2,D2,B2⟩
  rw[aS] at hi;rw[lH hi] at hx;obtain rfl:=ge hx
  ctx_has v
  refine bp D2 ∅ ∅ λr H3 r0 r1 D3 B3=>?_
  ctx_has v
  refine⟨(),(),λq hq=>?_⟩
  have h3:=B3 p _ Y.1 Y.2 h2;have nq:=D3.ne hq;have ax:p≠q:=ap h3 hq
  refine dG dn (λj ys H4=>∃cs:List Nat,ys=cs.map (λc=>V.str ⟨#[c]⟩)/\cs.length=j/\(∀c∈cs,er c=true)/\H4 q*>ys/\H4 p*>(ws.map V.str)/\aL H4 d l/\But d l H H4)
   ⟨[],rfl,rfl,by simp,ae,by rw[ag ax];exact h3,D3.new hq,(B2.trans B3).new hq⟩ (λ_ _ _ _=>p_) ?_ ?_
  .rintro j x ys H4 hj hx ⟨cs,rfl,hcl,hcs,h4,h4p,D4,B4⟩
   ctx_has v
   rw[aS] at hj;refine bp D4 ∅ ∅ λr5 H5 ar am D5 B5=>?_
   have h5:=B5 q _ nq.1 nq.2 h4;have a0:=B5 p _ Y.1 Y.2 h4p;refine⟨r5,rfl,oN,_,qL ar am,h5,by simp;exact aK (),cs++[97+r5.toNat],by simp,by simp;omega,λc hc=>?_,ae,by rw[ag ax];exact a0,D5.put nq.1 nq.2,(B4.trans B5).put (B2.free D2 ((B3.free D3 hq)))⟩
   rcases j9.mp hc with z | z
   .exact hcs c z
   .rw[gr.mp z]
    unfold er;rw[l_,decide_eq_true_eq,decide_eq_true_eq];omega
  .rintro ys H4 ⟨cs,rfl,hcl,hcs,h4,h4p,D4,B4⟩
   rw[aS] at hcl;ctx_has v
   refine⟨cs.map λc=>⟨#[c]⟩,by rw[h4];simp,by rw[CH,show(b_ "").length=0 by decide+kernel];omega,?_⟩
   have hj:=wL cs;generalize Txt.join (b_ "") (cs.map λc=>Str.mk #[c])=wd at hj ⊢
   obtain⟨c0,an,rfl⟩ : ∃c0 an,cs=c0 :: an:=by
    cases cs with
    | nil=>simp at hcl;omega
    | cons a b=>exact⟨a,b,rfl⟩
   have aa:fK wd:=.of hj (hcs c0 (by simp)) (λx hx=>hcs x (by simp[hx])) (by simp at hcl;omega)
   have Z : ∀{w:Str},fK w->w.length<=hB:=λh=>Jc (aK (i8 h.le ∅))
   have ad:ws.length<=20:=()
   have ab : ∀(B:Str) (H5 H6:Hp),aL H5 d l->But d l H H5->au H5 H6->fK B->B∉ws->B∉fT->∃ah,gW ah/\ah.length=i+1/\upd H6 p (HO.lst (ws.map V.str++[V.str B])) p=some (HO.lst (ah.map V.str))/\aL (upd H6 p (HO.lst (ws.map V.str++[V.str B]))) d l/\But d l H (upd H6 p (HO.lst (ws.map V.str++[V.str B]))) :=
    λB H5 H6 D5 B5 sm n f1 f2=>⟨ws++[B],ok.snoc n f1 f2,by simp[hlen],by rw[ae];simp,(D5.same sm).put Y.1 Y.2,(B5.same sm).put hp⟩
   refine ft (λh=>?_) (λh=>?_)
   .refine bp D4 ∅ ∅ λr5 H5 ar am D5 B5=>?_
    ctx_has v
    have h5:=B5 p _ Y.1 Y.2 h4p;refine ft (λh6=>?_) (λh6=>?_)
    .rcases Ki ws with rfl | ⟨ws0,z,rfl⟩
     .simp at hlen;omega
     have nz:fK z:=ok.nm z (by simp)
     refine⟨_,h5,_,by rw[Jx,t6];exact qQ _ _,z,rfl,Z nz,?_⟩
     refine bp D5 (by have:=nz.pos;omega) (by have:=nz.le;omega) λr7 H7 ay a1 D7 B7=>?_
     have h7:=B7 p _ Y.1 Y.2 h5;ctx_has v h7
     have aq:atI (List.map V.str (ws0.concat z)) (-1)=some (V.str z):=by rw[Jx,t6];exact qQ _ _
     have l1:=Kd z none (some r7);have l2:=Kd z (some (r7+1)) none;have l3:=nz.le;refine⟨_,aq,z,rfl,Z nz,Z aa,c0,by rw[hj];exact vM _ _,Jc (aK (by show _+1<=1000;omega)),_,aq,z,rfl,Z nz,Jc (aK (by rw[pU];show _+1+_<=1000;omega)),?_⟩
     refine jE (DW nz (hcs c0 (by simp)) ay a1) ad h7 λB H8 n f1 f2 sm=>?_
     have h8:=sm _ _ h7;ctx_has v h8
     exact⟨by simp only[d_];exact aK (),ab B H7 H8 D7 ((B4.trans B5).trans B7) sm n f1 f2⟩
    .refine jE aa ad h5 λB H6 n f1 f2 sm=>?_
     have h6:=sm _ _ h5;ctx_has v h6
     exact⟨by simp;exact aK (),ab B H5 H6 D5 (B4.trans B5) sm n f1 f2⟩
   .refine jE aa ad h4p λB H6 n f1 f2 sm=>?_
    have h6:=sm _ _ h4p;ctx_has v h6
    exact⟨by simp;exact aK (),ab B H4 H6 D4 B4 sm n f1 f2⟩
 .rintro σ H2 ⟨ws,vk,vw,vp,rfl,ok,hlen,h2,D2,B2⟩
  ctx_has v
  rw[aS] at hlen;exact k p ws H2 hp ok hlen h2 D2 B2
def gK (p:Addr) (H H':Hp):Prop:=∀b o,b≠p->H b=some o->H' b=some o
def aY (H:Hp) (kvs:List (Key × V)) (cs:List Str) (rm:Str->List Int):Prop:=∀c∈cs,∃a,bJ kvs (i9 c)=some (.ref a)/\H a>>((rm c).map V.int)
structure fk (H H':Hp):Prop where
 tup : ∀a vs,H a>>vs->H' a>>vs
 ins : ∀a C dx fs,H a=some (.ins C dx fs)->H' a=some (.ins C dx fs)
 dt : ∀a ks,H a=some (.dT ks)->H' a=some (.dT ks)
theorem au.keepTI (s:au H H'):fk H H':=⟨λa vs e=>s _ _ e,λa C dx fs e=>s _ _ e,λa ks e=>s _ _ e⟩
theorem But.keepTI (B:But d l H H') (D:aL H d l):fk H H':=by
 obtain⟨m,L,n,xs,F,hl,_⟩:=D.ex;exact⟨λa vs e=>B a _ (aX e F (by intro z;cases z)) (aX e hl (by intro z;cases z)) e,λa C dx fs e=>B a _ (aX e F (by intro z;cases z)) (aX e hl (by intro z;cases z)) e,λa ks e=>B a _ (aX e F (by intro z;cases z)) (aX e hl (by intro z;cases z)) e⟩
theorem kb {k:Key} {v:V} (h : ∀x∈kvs,eP x.2=true) (F:eP v=true) : ∀x∈bv kvs k v,eP x.2=true:=by
 intro x B;unfold bv at B
 split at B
 .obtain⟨y,hy,rfl⟩:=i4.mp B
  split
  .exact F
  .exact h y hy
 .rcases j9.mp B with q | q
  .exact h x q
  .rw[gr.mp q];exact F
theorem aY.same (h:aY H kvs cs rm) (s : ∀a vs,H a>>vs->H' a>>vs):aY H' kvs cs rm:=λc B=>by
 obtain⟨a,e1,e2⟩:=h c B;exact⟨a,e1,s _ _ e2⟩
def cy {α:Type} (f:Str->α) (c:Str) (v:α):Str->α:=λx=>if x=c then v else f x
def okF (rm:Str->List Int) (cs:List Str) (g:Str->Int):Prop:=∀c∈cs,g c∈rm c
def cD (H:Hp) (x:V) (cs:List Str) (g:Str->Int):Prop:=∃a kvs,x = .ref a/\H a<*kvs/\(∀c∈cs,bJ kvs (i9 c)=some (.int (g c)))/\kvs.length<=cs.length/\∀x∈kvs,eP x.2=true
theorem cD.keep {x:V} (h:cD H x cs g) (k : ∀a kvs,H a<*kvs->H' a<*kvs):cD H' x cs g:=by
 obtain⟨a,kvs,e,h1,h2⟩:=h;exact⟨a,kvs,e,k _ _ h1,h2⟩
structure yE (H:Hp) (xs:List V) (cs:List Str) (rm:Str->List Int):Prop where
 sound : ∀x∈xs,∃g,okF rm cs g/\cD H x cs g
 comp : ∀g,okF rm cs g->∃x∈xs,cD H x cs g
def DZ:Sp:=λvs H Q _=>∃(a r:Addr) (cs:List Str) (kvs:List (Key × V)) (rm:Str->List Int),vs=[.ref a,.ref r]/\H a*>(cs.map V.str)/\H r<*kvs/\aY H kvs cs rm/\cs.Nodup/\cs.length<=5/\(∀c∈cs,(rm c).length<=4) /\
 ∀(p:Addr) (xs:List V) (H':Hp),H p=none->H' p*>xs->yE H' xs cs rm->xs.length<=1024->au H H'->Q (.ref p) H'
theorem Hs (h:i<=5):4 ^ i<=1024:=i8 (Nat.pow_le_pow_right ∅ h) ∅
theorem bm (g:Str->α) (c:Str) (v:α):cy g c v c=v:=by unfold cy;rw[if_pos rfl]
theorem cG (g:Str->α) {c x:Str} (v:α) (h:x≠c):cy g c v x=g x:=by unfold cy;rw[if_neg h]
theorem zE (g:Str->α) (c:Str):cy g c (g c)=g:=by
 funext x
 by_cases h:x=c
 .subst h;rw[bm]
 .rw[cG _ _ h]
theorem cD.put {q:Addr} (h : ∀x∈cs,bJ kvs (i9 x)=some (.int (g x))) (B:kvs.length<=cs.length/\∀x∈kvs,eP x.2=true) (Y:c∉cs) (F:H' q<*(bv kvs (i9 c) (.int v))):cD H' (.ref q) (cs++[c]) (cy g c v):=by
 refine⟨q,_,rfl,F,λx L=>?_,i8 (cF _ _ _) (by have:=B.1;simp;omega),kb B.2 rfl⟩
 rw[jX]
 by_cases e:x=c
 .subst e;rw[if_pos rfl,bm]
 .rw[if_neg (λz=>e (Sum.inr.inj z)),cG _ _ e]
  rcases j9.mp L with z | z
  .exact h x z
  .exact absurd (gr.mp z) e
def yB:Sp:=λvs H Q _=>∃(d l:Addr),vs=[.ref d]/\aL H d l/\∀(p:Addr) (ns:List Int) (H':Hp),H p=none->ns.length=5->ns.Pairwise (· < ·)->(∀x∈ns,-1000000<=x/\x<=1000000)->H' p*>(ns.map V.int)->aL H' d l->But d l H H'->Q (.ref p) H'
def Bh:Sp:=λvs H Q _=>∃(d l a p:Addr) (ws:List Str) (ns:List Int) (m:Int),vs=[.ref d,.ref a,.ref p,.int m]/\aL H d l/\(a≠d/\a≠l)/\(p≠d/\p≠l)/\H a*>(ws.map V.str)/\ws.length<=45/\H p*>(ns.map V.int)/\ns.length=5/\ns.Pairwise (· < ·)/\1<=m/\m<=20 /\
 ∀(r:Addr) (kvs:List (Key × V)) (rm:Str->List Int) (H':Hp),H r=none->H' r<*kvs->aY H' kvs ws rm->(∀c∈ws,rm c≠[]/\((rm c).length:Int)<=m/\(rm c).Pairwise (· < ·)/\∀v∈rm c,v∈ns)->(∀x∈kvs,eP x.2=true)->kvs.length<=2 * ws.length->aL H' d l->But d l H H'->Q (.ref r) H'
def E1:Sp:=λvs H Q _=>∃(d l a:Addr) (m:Int) (xs:List V),vs=[.ref d,.ref a,.int m]/\aL H d l/\G9 H a xs/\0<=m/\m<=xs.length/\xs.length<=60 /\
 ∀(p:Addr) (B rest:List V) (H':Hp),H p=none->(B++rest).Perm xs->m<=B.length->H' p>>B->aL H' d l->But d l H H'->Q (.ref p) H'
theorem lay_ints : ∀ns:List Int,w9 (ns.map G2)=true
 | []=>rfl
 | n :: ns=>by
  rw[i_];unfold w9;rw[lay_ints ns];rfl
theorem depth_ints : ∀ns:List Int,Jj (ns.map G2)=0
 | []=>rfl
 | n :: ns=>by
  rw[i_];unfold Jj;rw[depth_ints ns];rfl
theorem vU (ns:List Int):z_ (.list (ns.map G2)) (.list [])=decide (ns=[]):=by
 cases ns with
 | nil=>rfl
 | cons n ns=>simp[z_,Ja]
theorem aY.putG {B:List Str} {t:Addr} (h:aY H kvs cs rm) (s : ∀a vs,H a>>vs->H' a>>vs) (F:H' t>>(ns.map V.int)) (sub : ∀x∈B,x=c\/x∈cs) :
  aY H' (bv kvs (i9 c) (.ref t)) B (cy rm c ns):=λx L=>by
 by_cases e:x=c
 .subst e
  exact⟨t,by rw[jX,if_pos rfl],by unfold cy;rw[if_pos rfl];exact F⟩
 .obtain⟨a,e1,e2⟩:=h x ((sub x L).resolve_left e)
  exact⟨a,by rw[jX,if_neg (λz=>e (Sum.inr.inj z))];exact e1,by unfold cy;rw[if_neg e];exact s _ _ e2⟩
theorem lZ (f:α->V) (B:V->α) (hi : ∀x,B (f x)=x) {F rest:List V} {xs:List α} (h:(F++rest).Perm (xs.map f)) : ∃ys zs:List α,F=ys.map f/\(ys++zs).Perm xs:=by
 refine⟨F.map B,rest.map B,?_,?_⟩
 .rw[m6]
  have : ∀v∈F,f (B v)=v:=λv L=>by
   obtain⟨x,_,rfl⟩:=i4.mp (h.mem_iff.mp (k9 _ L));rw[hi]
  conv=>lhs;rw[<- map_id F]
  exact q_ λv L=>(this v L).symm
 .have:=h.map B
  rw[t6,m6] at this;have e:xs.map (B ∘ f)=xs:=by
   conv=>rhs;rw[<- map_id xs]
   exact q_ λx _=>hi x
  rw[e] at this;exact this
def Iz:V->Str | .str s=>s | _ => ""
def BS:V->Int | .int i=>i | _=>0
theorem uo (T:Txt w K mg) (L:FnL K mg "_law_pool" jz ["_law_deal_here"]) (Fa : @Dz0 P w K mg base):Fn P w K mg base "_law_pool" 2 ["_law_deal_here"] (yB):=by
 ctx_has z uk <;> obtain⟨d,l,rfl,D,k⟩:=h
 .rfl
 refine⟨_,(ai (aF 1 (aQ jw (aw Fa (ac (pvM 0) (ac ao af))) ao))
  (ai (bF (aO bY (aw Fa (ac (pvM 0) (ac ao af))) ao) (ak (aF 1 (aQ jw (aw Fa (ac (pvM 0) (ac ao af))) ao))) aR)
  (ai (aF 2 (cA af))
  (ai (bq (dS rfl T.b_range (ac ao af)) (aA 3) (ai (cJ (kF t4 t5 dW (pvM 2) (ac (pvM 1) af)))
  (ak (aF 1 (aQ bf (aQ bf (pvM 1) ao) (aE jr (cA (ac ao (ac (aw Fa (ac (pvM 0) (ac ao af))) (ac ao af)))) (aw Fa (ac (pvM 0) (ac ao af)))))))))
  (ak (az (pvM 2))))))),?_⟩
 ctx_has v
 refine bp D ∅ ∅ λr H1 r0 r1 D1 B1=>?_
 ctx_has v
 refine bp D1 ∅ ∅ λr2 H2 am aj D2 Z=>?_
 ctx_has v
 refine ft (λh=>?_) (λh=>?_)
 .refine bp D2 ∅ ∅ λr3 H3 aa ag D3 B3=>?_
  have B3:=(B1.trans Z).trans B3;refine⟨_,rfl,∅,λp hp=>?_⟩
  have Y:=D3.ne hp;have fp:H p=none:=B3.free D3 hp
  refine⟨∅,∅,?_⟩
  refine bX dn (λi σ H'=>∃(ns:List Int) (B:Int) (vk:Option V),σ=[-d,some (.int B),-p,vk]/\ns.length=i/\ns.Pairwise (· < ·)/\(∀x∈ns,x < B/\-1000000<=x/\x<=1000000)/\-999500<=B/\B<=999500+98 * (i:Int)/\H' p*>(ns.map V.int)/\aL H' d l/\But d l H H')
   ⟨[],_,_,rfl,rfl,.nil,by simp,(),(),ae,D3.new hp,B3.new hp⟩ (λ_ _ _ _=>p_) ?_ ?_
  .rintro i x σ H2 hi hx ⟨ns,B,vk,rfl,hlen,hpw,hall,lo0,lo1,h2,D2,Z⟩
   rw[aS] at hi;have ah:i < 5:=hi
   ctx_has v h2
   refine⟨by rw[d_];exact aK (),?_⟩
   refine bp (D2.put Y.1 Y.2) ∅ ∅ λr3 H3 aa ag D3 B3=>?_
   refine⟨∅,λp2 ad=>?_⟩
   refine mf D3 ad ∅ ∅ rfl λr5 v H5 hv ha D5 B5 h5=>?_
   have ab:=B5 p _ Y.1 Y.2 (B3 p _ Y.1 Y.2 ae);obtain⟨y,rfl,y0,y1⟩ : ∃y:Int,v = .int y/\0<=y/\y<=97:=by
    simp only[i7,n6,or_false] at hv;rcases hv with rfl | rfl | rfl
    .exact⟨0,rfl,∅,∅⟩
    .exact⟨r3,rfl,aa,()⟩
    .exact⟨97,rfl,∅,∅⟩
   ctx_has v h5 ha
   refine⟨ns++[B],by simp;omega,?_,λz hz=>?_,(),(),by rw[ab];simp,D5,((Z.put fp).trans B3).trans B5⟩
   .rw[List.pairwise_append]
    exact⟨hpw,List.pairwise_singleton _ _,λx hx y hy=>by rw[gr.mp hy];exact(hall x hx).1⟩
   .rcases j9.mp hz with q | q
    .have:=hall z q;omega
    .rw[gr.mp q];omega
  .rintro σ H2 ⟨ns,B,vk,rfl,hlen,hpw,hall,lo0,lo1,h2,D2,Z⟩
   rw[aS] at hlen;ctx_has v
   exact k p ns H2 fp hlen hpw (λx hx=>(hall x hx).2) h2 D2 Z
 .have Z:=B1.trans Z
  refine⟨∅,λp hp=>?_⟩
  have Y:=D2.ne hp;have fp:H p=none:=Z.free D2 hp
  refine⟨∅,∅,?_⟩
  refine bX dn (λi σ H'=>∃(ns:List Int) (B:Int) (vk:Option V),σ=[-d,some (.int B),-p,vk]/\ns.length=i/\ns.Pairwise (· < ·)/\(∀x∈ns,x < B/\-1000000<=x/\x<=1000000)/\-999500<=B/\B<=999500+98 * (i:Int)/\H' p*>(ns.map V.int)/\aL H' d l/\But d l H H')
   ⟨[],_,_,rfl,rfl,.nil,by simp,(),(),ae,D2.new hp,Z.new hp⟩ (λ_ _ _ _=>p_) ?_ ?_
  .rintro i x σ H2 hi hx ⟨ns,B,vk,rfl,hlen,hpw,hall,lo0,lo1,h2,D2,Z⟩
   rw[aS] at hi;have ah:i < 5:=hi
   ctx_has v h2
   refine⟨by rw[d_];exact aK (),?_⟩
   refine bp (D2.put Y.1 Y.2) ∅ ∅ λr3 H3 aa ag D3 B3=>?_
   refine⟨∅,λp2 ad=>?_⟩
   refine mf D3 ad ∅ ∅ rfl λr5 v H5 hv ha D5 B5 h5=>?_
   have ab:=B5 p _ Y.1 Y.2 (B3 p _ Y.1 Y.2 ae);obtain⟨y,rfl,y0,y1⟩ : ∃y:Int,v = .int y/\0<=y/\y<=97:=by
    simp only[i7,n6,or_false] at hv;rcases hv with rfl | rfl | rfl
    .exact⟨0,rfl,∅,∅⟩
    .exact⟨r3,rfl,aa,()⟩
    .exact⟨97,rfl,∅,∅⟩
   ctx_has v h5 ha
   refine⟨ns++[B],by simp;omega,?_,λz hz=>?_,(),(),by rw[ab];simp,D5,((Z.put fp).trans B3).trans B5⟩
   .rw[List.pairwise_append]
    exact⟨hpw,List.pairwise_singleton _ _,λx hx y hy=>by rw[gr.mp hy];exact(hall x hx).1⟩
   .rcases j9.mp hz with q | q
    .have:=hall z q;omega
    .rw[gr.mp q];omega
  .rintro σ H2 ⟨ns,B,vk,rfl,hlen,hpw,hall,lo0,lo1,h2,D2,Z⟩
   rw[aS] at hlen;ctx_has v
   exact k p ns H2 fp hlen hpw (λx hx=>(hall x hx).2) h2 D2 Z
abbrev Dz3:=Fn P w K mg base "_law_rooms" 2 ["_law_deal_here","_law_names_here","_law_pool_here","_law_most"] (Bh)
theorem rB (T : Txt w K mg) (L:FnL K mg "_law_rooms" gw ["_law_deal_here","_law_names_here","_law_pool_here","_law_most"]) (Fa : @Dz0 P w K mg base) : @Dz3 P w K mg base:=by
  ctx_has z rD <;> obtain⟨d,l,a,p,ws,ns,m,rfl,D,na,np,ha,bh,hp,bn,aT,m0,m1,k⟩:=h
  . rfl
  refine⟨_,(ai (aF 4 ff)
    (ai (bq (gG K (pvM 1)) (aA 5) (ai (dP 6 (N:=["_law_value","_law_deal_here"]) (nt:=1) (js:=[0]) (aI ["_law_deal_here","_law_names_here","_law_pool_here","_law_most","_law_rooms_here","_law_name","_law_some_here"] (aj gw).names) (gG K (pvM 2)) (aA 0) aP (fH (aO bY (aw Fa (ac (pvM 1) (ac ao af))) ao)) (pvM 0))
    (ai (ia hu (pvM 4) (pvM 5) (be cS T.b_tuple (ac (cM Ik (pvM 6) eF (de (pvM 3))) af)) rfl)
    (ak (bF (aO (pR (wr hr)) (pvM 6) (cA af)) (ak (ia hu (pvM 4) (pvM 5) (cq (ac (aE jr (pvM 2) (aw Fa (ac (pvM 0) (ac ao af)))) af)) rfl)) aR)))))
    (ak (az (pvM 4))))),?_⟩
  ctx_has v
  intro q hq;have nq:=D.ne hq;have aq:a≠q:=ap ha hq
  have pq:p≠q:=ap hp hq
  refine⟨_,by rw[ag aq];exact ha,?_⟩
  refine bX cm (λi σ H'=>∃(kvs:List (Key × V)) (rm:Str->List Int) (v5 v6:Option V),σ=[-d,-a,-p,some (.int m),-q,v5,v6]/\H' q<*kvs/\aY H' kvs (ws.take i) rm /\
      (∀c∈ws.take i,rm c≠[]/\((rm c).length:Int)<=m/\(rm c).Pairwise (· < ·)/\∀v∈rm c,v∈ns)/\(∀x∈kvs,eP x.2=true)/\kvs.length<=2 * i/\H' a*>(ws.map V.str)/\H' p*>(ns.map V.int)/\aL H' d l/\But d l H H')
    ⟨[],λ_=>[],_,_,rfl,ae,λc hc=>by simp at hc,λc hc=>by simp at hc,by simp,y6 _,by rw[ag aq];exact ha,by rw[ag pq];exact hp,D.new hq,(But.refl H).new hq⟩ (λi σ H' aD=>by obtain⟨_,_,_,_,_,_,_,_,_,_,h,_⟩:=aD;exact(.of h)) ?_ ?_
  . rintro i x σ H2 hi hx ⟨kvs,rm,v5,v6,rfl,h2,ax,ah,a6,a5,aM,aa,D2,B2⟩
    rw[d_] at hi;obtain⟨c,bc,rfl⟩ : ∃c,ws[i]? = some c/\V.str c=x:=by
      rw[fx] at hx;cases e:ws[i]? with
      | none=>rw[e] at hx;cases hx
      | some nm=>rw[e] at hx;exact⟨nm,rfl,ge hx⟩
    have aW:ws.take (i+1)=ws.take i++[c]:=by rw[ki,bc];rfl
    have ad : ∀x∈ws.take (i+1),x=c\/x∈ws.take i:=λx hx=>by
      rw[aW] at hx;rcases j9.mp hx with z | z
      . exact .inr z
      . exact .inl (gr.mp z)
    ctx_has v aa
    intro g hg;have ng:=D2.ne hg;have fg:H g=none:=B2.free D2 hg
    refine dG cm (λj ys Y=>∃B:List Int,ys=B.map V.int/\B.Sublist (ns.take j)/\Y g*>ys/\Y p*>(ns.map V.int)/\(∀b o,b≠d->b≠l->H2 b=some o->Y b=some o)/\aL Y d l)
      ⟨[],rfl,by simp,ae,by rw[ag (ap aa hg)];exact aa,λb o _ _ e=>by rw[ag (ap e hg)];exact e,D2.new hg⟩ (λj ys Y aG=>by obtain⟨_,_,_,_,h,_⟩:=aG;exact(.of h)) ?_ ?_
    . rintro j y ys Y hj hy ⟨B,rfl,F,an,a0,k5,D5⟩
      rw[d_] at hj;obtain⟨z,hz,rfl⟩ : ∃z,ns[j]? = some z/\V.int z=y:=by
        rw[fx] at hy;cases e:ns[j]? with
        | none=>rw[e] at hy;cases hy
        | some nm=>rw[e] at hy;exact⟨nm,rfl,ge hy⟩
      have en:ns.take (j+1)=ns.take j++[z]:=by rw[ki,hz];rfl
      have bi:B.length<=5:=i8 F.length_le (by simp;omega)
      ctx_has v
      refine bp D5 ∅ ∅ λr6 H6 bg bj D6 B6=>?_
      have ab:=B6 g _ ng.1 ng.2 an;have Z:=B6 p _ np.1 np.2 a0;ctx_has v
      refine ft (λaZ=>?_) (λaZ=>?_)
      . refine⟨ab,by rw[d_];exact aK (),B++[z],by simp,by rw[en];exact F.append_right [z],ae,by rw[ag (ap aa hg)];exact Z,λb o h1 h2 e=>by rw[ag (ap e hg)];exact B6 b o h1 h2 (k5 b o h1 h2 e),D6.put ng.1 ng.2⟩
      . exact⟨B,rfl,by rw[en];exact F.trans (List.sublist_append_left _ _),ab,Z,λb o h1 h2 e=>B6 b o h1 h2 (k5 b o h1 h2 e),D6⟩
    . rintro ys Y ⟨B,rfl,F,an,a0,k5,D5⟩
      rw[d_] at F;rw[m_] at F;ctx_has v an
      intro u aU;refine⟨_,ae,λt ht=>?_⟩
      obtain⟨mn,rfl⟩:=A_ (show 0<=m by omega)
      rw[yp] at ht ⊢;have ut:u≠t:=by rintro rfl;rw[ae] at ht;cases ht
      have aS:Y t=none:=by rwa [ag ut.symm] at ht
      have s5:au Y (upd (upd Y u (.lst ((B.take mn).map V.int))) t (.tup ((B.take mn).map V.int))):=(au.upd0 aU).upd_new ht
      have aH:=k5 q _ nq.1 nq.2 h2;have aV:=k5 a _ na.1 na.2 aM;refine⟨kvs,s5 _ _ aH,aK (),?_⟩
      have tq:t≠q:=(ap aH aS).symm
      have aN : ∀b vs,H2 b>>vs->upd (upd (upd Y u (.lst ((B.take mn).map V.int))) t (.tup ((B.take mn).map V.int))) q (.dK (bv kvs (i9 c) (.ref t))) b>>vs:=λb vs e=>by
        obtain⟨m',sd,n',bd,ay,a4,_⟩:=D2.ex;rw[ag (aX e h2 (by intro z;cases z))]
        exact s5 _ _ (k5 b _ (aX e ay (by intro z;cases z)) (aX e a4 (by intro z;cases z)) e)
      have a7 : ∀b o,b≠q->Y b=some o->upd (upd (upd Y u (.lst ((B.take mn).map V.int))) t (.tup ((B.take mn).map V.int))) q (.dK (bv kvs (i9 c) (.ref t))) b=some o:=λb o hb e=>by rw[ag hb];exact s5 _ _ e
      have gq:g≠q:=(ap h2 hg).symm
      have ab:=a7 g _ gq an;have a3:=a7 a _ aq aV;have Z:=a7 p _ pq a0;have D6:=(D5.same s5).put (o:=.dK (bv kvs (i9 c) (.ref t))) nq.1 nq.2;have B5:But d l H Y:=λb o h1 h2 e=>k5 b o h1 h2 (B2 b o h1 h2 e)
      have B6:=(B5.same s5).put (o:=.dK (bv kvs (i9 c) (.ref t))) hq;have r6:aY (upd (upd (upd Y u (.lst ((B.take mn).map V.int))) t (.tup ((B.take mn).map V.int))) q (.dK (bv kvs (i9 c) (.ref t)))) (bv kvs (i9 c) (.ref t)) (ws.take (i+1)) (cy rm c (B.take mn)):=ax.putG aN (by rw[ag tq];exact ae) ad
      have am:upd (upd (upd Y u (.lst ((B.take mn).map V.int))) t (.tup ((B.take mn).map V.int))) q (.dK (bv kvs (i9 c) (.ref t))) q<*(bv kvs (i9 c) (.ref t)):=ae
      have ba:=cF kvs (i9 c) (.ref t);have a2:=kb (k:=i9 c) (v:=V.ref t) a6 rfl;generalize bk:upd (upd (upd Y u (.lst ((B.take mn).map V.int))) t (.tup ((B.take mn).map V.int))) q (.dK (bv kvs (i9 c) (.ref t)))=H6 at ab a3 Z D6 B6 r6 am ⊢;generalize bv kvs (i9 c) (.ref t)=aB at r6 am ba a2 ⊢;refine⟨∅,λe0 a1=>?_⟩
      have s7:au H6 (upd H6 e0 (.lst [])):=au.upd0 a1
      refine⟨.list (B.map G2),.list [],.lst (.of (s7 _ _ ab)) (gT.ints B),.lst (.of ae) .nil,by unfold PyData.canLay0;exact lay_ints B,rfl,by unfold KH;rw[depth_ints];decide,?_⟩
      rw[vU];have D7:=D6.new (o:=.lst []) a1;have B7:=B6.new (o:=.lst []) a1;refine⟨_,rfl,ft (λa9=>?_) (λa9=>?_)⟩
      . refine bp D7 ∅ ∅ λr8 H8 a8 bm D8 B8=>?_
        obtain⟨z,aJ,bb⟩:=yP (xs:=ns) a8 ()
        have bf:atI (ns.map V.int) r8=some (V.int z):=by
          obtain⟨n,rfl⟩:=A_ a8;have hn:n < ns.length:=()
          have e1:ns[n]? = some z:=by
            have:=cE (xs:=ns) (j:=n) (v:=ns[n]) (by simp)
            rw[this] at aJ;rw[<- aJ];simp
          exact cE (by rw[fx,e1];rfl)
        refine⟨r8,rfl,_,B8 p _ np.1 np.2 (s7 _ _ Z),_,bf,∅,λt2 ar=>?_⟩
        have aC:=B8 q _ nq.1 nq.2 (s7 _ _ am);have q2:t2≠q:=(ap aC ar).symm
        have s9:au H8 (upd H8 t2 (.tup [V.int z])):=au.upd0 ar
        refine⟨aB,s9 _ _ aC,aK (),?_⟩
        have kt : ∀b vs,H6 b>>vs->upd (upd H8 t2 (.tup [V.int z])) q (.dK (bv aB (i9 c) (.ref t2))) b>>vs:=λb vs e=>by
          rw[ag (aX e am (by intro z;cases z))]
          obtain⟨m',sd,n',bd,ay,a4,_⟩:=D6.ex;exact s9 _ _ (B8 b _ (aX e ay (by intro z;cases z)) (aX e a4 (by intro z;cases z)) (s7 _ _ e))
        refine⟨_,ae,cy (cy rm c (B.take mn)) c [z],r6.putG (ns:=[z]) kt (by rw[ag q2];exact ae) (λx hx=>.inr hx),λx hx=>?_,kb a2 rfl,i8 (cF _ _ _) (),?_,?_,(D8.new ar).put nq.1 nq.2,((B7.trans B8).new ar).put hq⟩
        . by_cases e:x=c
          . subst e
            unfold cy;rw[if_pos rfl];exact⟨by simp,by simp;omega,by simp,λv hv=>by rw[gr.mp hv];exact bb⟩
          . unfold cy
            rw[if_neg e,if_neg e];exact ah x ((ad x hx).resolve_left e)
        . rw[ag aq];exact s9 _ _ (B8 a _ na.1 na.2 (s7 _ _ a3))
        . rw[ag pq];exact s9 _ _ (B8 p _ np.1 np.2 (s7 _ _ Z))
      . refine⟨_,s7 _ _ am,cy rm c (B.take mn),r6.same (λa vs e=>s7 _ _ e),λx hx=>?_,a2,(),s7 _ _ a3,s7 _ _ Z,D7,B7⟩
        by_cases e:x=c
        . subst e
          unfold cy;rw[if_pos rfl];have aQ:B≠[]:=by simpa using a9
          refine⟨?_,by simp;omega,?_,λv hv=>F.subset (JK hv)⟩
          . cases B with
            | nil=>exact absurd rfl aQ
            | cons y ys =>
              obtain⟨k',rfl⟩ : ∃k',mn=k'+1:=⟨mn - 1,()⟩
              simp
          . exact(aT.sublist F).sublist (Jy _ _)
        . unfold cy
          rw[if_neg e];exact ah x ((ad x hx).resolve_left e)
  . rintro σ H2 ⟨kvs,rm,v5,v6,rfl,h2,ax,ah,a6,a5,aM,aa,D2,B2⟩
    rw[d_,m_] at ax ah;rw[d_] at a5;ctx_has v
    exact k q kvs rm H2 hq h2 ax ah a6 a5 D2 B2
abbrev Dz4:=Fn P w K mg base "_law_some" 2 ["_law_deal_here","_law_things","_law_least"] (E1)
theorem uJ (T:Txt w K mg) (L:FnL K mg "_law_some" jB ["_law_deal_here","_law_things","_law_least"]) (Fa : @Dz0 P w K mg base) : @Dz4 P w K mg base:=by
 ctx_has z um <;> obtain⟨d,l,a,m,xs,rfl,D,ha,m0,m1,ap,k⟩:=h
 .rfl
 refine⟨_,(ai (aF 3 (be wZ T.b_list (ac (pvM 1) af)))
  (ai (aF 4 (cA af))
  (ai (bq (dS rfl T.b_range (ac (aQ bf (pvM 2) (aw Fa (ac (pvM 0) (ac (aQ bf (aQ jw (aD bU T.b_len (ac (pvM 3) af)) (pvM 2)) ao) af)))) af)) (aA 5) (ak (cJ (kF t4 t5 dW (pvM 4) (ac (kF PySem.F.slot_list_pop PySem.F.type_list_pop Br (pvM 3) (ac (aw Fa (ac (pvM 0) (ac (aD bU T.b_len (ac (pvM 3) af)) af))) af)) af)))))
  (ak (az (be cS T.b_tuple (ac (pvM 4) af))))))),?_⟩
 ctx_has v
 refine⟨xs,ha,λu Y=>?_⟩
 have nu:=D.ne Y;refine⟨∅,λg hg=>?_⟩
 have ug:u≠g:=by rintro rfl;rw[ae] at hg;cases hg
 have ab:H g=none:=by rwa [ag ug.symm] at hg
 have ng:=D.ne ab;have D1:=(D.new (o:=.lst xs) Y).new (o:=.lst []) hg;have Z:upd (upd H u (.lst xs)) g (.lst []) u*>xs:=by rw[ag ug];exact ae
 have aa:upd (upd H u (.lst xs)) g (.lst []) g*>[]:=ae
 have B1:But d l H (upd (upd H u (.lst xs)) g (.lst [])):=((But.refl H).new Y).new hg
 generalize upd (upd H u (.lst xs)) g (.lst [])=H1 at D1 Z aa B1 ⊢;ctx_has v Z
 refine bp D1 () () λr H2 r0 r1 D2 B2=>?_
 refine⟨_,rfl,(),(),?_⟩
 refine bX dn (λi σ H'=>∃(B rest:List V) (v5:Option V),σ=[-d,-a,some (.int m),-u,-g,v5]/\B.length=i/\(B++rest).Perm xs/\H' g*>B/\H' u*>rest/\aL H' d l/\But d l H H')
  ⟨[],xs,_,rfl,rfl,.refl _,B2 g _ ng.1 ng.2 aa,B2 u _ nu.1 nu.2 Z,D2,B1.trans B2⟩ (λ_ _ _ _=>p_) ?_ ?_
 .rintro j y σ H5 hj hy ⟨B,rest,v5,rfl,hgl,hperm,h5g,h5u,D5,B5⟩
  rw[aS] at hj;have aq:B.length+rest.length=xs.length:=by rw[<- w4];exact hperm.length_eq
  ctx_has v h5g h5u
  refine bp D5 () () λr6 H6 ah aj D6 B6=>?_
  have an:=B6 u _ nu.1 nu.2 h5u;have am:=B6 g _ ng.1 ng.2 h5g;ctx_has v an
  refine⟨ah,aj,(),λz hz=>?_⟩
  have ad:r6.toNat < rest.length:=(g_.mp hz).1
  refine⟨_,by rw[ag ug.symm];exact am,aK (),B++[z],by simp;omega,rest.eraseIdx r6.toNat,?_,ae,by rw[ag ug];exact ae,(D6.put nu.1 nu.2).put ng.1 ng.2,((B5.trans B6).put Y).put ab⟩
  refine List.Perm.trans ?_ hperm
  rw[append_assoc];refine List.Perm.append_left B ?_
  rw[(g_.mp hz).2.symm];exact qz ad
 .rintro σ H5 ⟨B,rest,v5,rfl,hgl,hperm,h5g,h5u,D5,B5⟩
  rw[aS] at hgl;ctx_has v h5g
  intro t ht;exact k t B rest _ (B5.free D5 ht) hperm () ae (D5.new ht) (B5.new ht)
def chB (gap:Int) (vs:List Int):Bool:=(zipWith (λa b=>decide (a+gap<=b)) vs (vs.drop 1)).all id
theorem gH (gap a b:Int) (r:List Int):chB gap (a :: b :: r)=(decide (a+gap<=b) && chB gap (b :: r)):=by simp[chB]
theorem wg {a B:Int} {r:List Int} (h:B<=a) (F:chB gap (a :: r)=true):chB gap (B :: r)=true:=by
 cases r with
 | nil=>rfl
 | cons b r =>
  rw[gH,l_,decide_eq_true_eq] at F ⊢;exact⟨(),F.2⟩
theorem zN (gap:Int) (vs:List Int):((range (vs.length - 1)).map λk=>decide (vs.getD k 0+gap<=vs.getD (k+1) 0)).all id=chB gap vs:=by
 unfold chB
 congr 1
 apply List.ext_getElem
 .simp
 .intro i h1 h2
  simp at h1 h2 ⊢
  have B:i < vs.length:=()
  have F:i+1 < vs.length:=()
  rw[o9 B,o9 F];simp[Nat.add_comm]
def bV:Option Int->V | none=>.non | some i=>.int i
def eC (n:Int) (lo hi:Option Int):Bool:=(match lo with | none=>true | some a=>decide (a<=n)) && (match hi with | none=>true | some b=>decide (n<=b))
structure eo (H:Hp) (f:Addr) (cs:List Str) (g:Str->Int):Prop where
 ex : ∃kvs,H f<*kvs/\(∀c∈cs,bJ kvs (i9 c)=some (.int (g c)))/\(∀x∈kvs,eP x.2=true)/\kvs.length<=40
 bd : ∀c∈cs,-2000000<=g c/\g c<=2000000
theorem eo.same (h:eo H f cs g) (s:au H H'):eo H' f cs g:=by
 obtain⟨kvs,h1,r⟩:=h.ex;exact⟨⟨kvs,s _ _ h1,r⟩,h.bd⟩
theorem eo.sub {ds:List Str} (h:eo H f cs g) (s : ∀c∈ds,c∈cs):eo H f ds g:=by
 obtain⟨kvs,h1,h2,r⟩:=h.ex;exact⟨⟨kvs,h1,λc B=>h2 c (s c B),r⟩,λc B=>h.bd c (s c B)⟩
def Et:Sp:=λvs H Q _=>∃(t:Addr) (ns:List Int),vs=[.ref t]/\H t>>(ns.map V.int)/\ns.length<=20/\∀H',au H H'->Q (.bl (decide ns.Nodup)) H'
def HK:Sp:=λvs H Q _=>∃(n:Int) (lo hi:Option Int),vs=[.int n,bV lo,bV hi]/\∀H',au H H'->Q (.bl (eC n lo hi)) H'
def hZ (H:Hp) (t:Addr) (ts:List (Int × Str)):Prop:=∃as:List (Addr × Int × Str),H t>>(as.map λx=>V.ref x.1)/\as.map (·.2)=ts/\∀x∈as,H x.1>>[.int x.2.1,.str x.2.2]
theorem hZ.keep {t:Addr} (h:hZ H t ts) (k : ∀a xs,H a>>xs->H' a>>xs):hZ H' t ts:=by
 obtain⟨as,h1,h2,B⟩:=h;exact⟨as,k _ _ h1,h2,λx F=>k _ _ (B x F)⟩
def lD (H:Hp) (vs:List V) (ps:List (Int × Int × Int)):Prop:=∃as:List (Addr × Int × Int × Int),vs=as.map (λx=>V.ref x.1)/\as.map (·.2)=ps/\∀x∈as,H x.1>>[.int x.2.1,.int x.2.2.1,.int x.2.2.2]
theorem lD.keep {ps:List (Int × Int × Int)} (h:lD H vs ps) (k : ∀a xs,H a>>xs->H' a>>xs):lD H' vs ps:=by
 obtain⟨as,h1,h2,B⟩:=h;exact⟨as,h1,h2,λx F=>k _ _ (B x F)⟩
def gs (ps:List (Int × Int × Int)) (st:Option Int) (vs:List Int):Option Int:=vs.foldl (λst v=>jI ps st v) st
def tX (es:List Int):Option Int->Bool | none=>false | some s=>decide (s∈es)
inductive Wi | un (cs:List Str) | mn (av:List Int) (cs:List Str) (lo hi:Int) | sm (ts:List (Int × Str)) (lo hi:Option Int) | tb (cs:List Str) (rows:List (List Int)) | wy (cs:List Str) (ps:List (Int × Int × Int)) (es:List Int) | bh (cs:List Str) (gap:Int)
inductive Wx | pl (W:Wi) | sa (c:Str) (vs:List Int) (W:Wi)
def WS (H:Hp) (w:Addr):Wi->Prop
 | .un cs=>∃c,H w>>[.str "unlike",.ref c]/\H c>>(cs.map V.str)
 | .mn av cs lo hi=>∃a c,H w>>[.str "many",.ref a,.ref c,.int lo,.int hi]/\H a>>(av.map V.int)/\H c>>(cs.map V.str)
 | .sm ts lo hi=>∃t,H w>>[.str "sum",.ref t,bV lo,bV hi]/\hZ H t ts
 | .tb cs rows=>∃c t vs,H w>>[.str "table",.ref c,.ref t]/\H c>>(cs.map V.str)/\H t>>vs/\eQ H vs rows
 | .wy cs ps es=>∃c t e vs,H w>>[.str "way",.ref c,.ref t,.ref e]/\H c>>(cs.map V.str)/\H t>>vs/\lD H vs ps/\H e>>(es.map V.int)
 | .bh cs gap=>∃c,H w>>[.str "behind",.ref c,.int gap]/\H c>>(cs.map V.str)
def WX (H:Hp) (w:Addr):Wx->Prop
 | .pl W=>WS H w W
 | .sa c vs W=>∃t u,H w>>[.str "same",.str c,.ref t,.ref u]/\H t>>(vs.map V.int)/\WS H u W
theorem cL {w:Addr} {W:Wi} (h:WS H w W) (k : ∀a xs,H a>>xs->H' a>>xs):WS H' w W:=by
 cases W with
 | un cs=>obtain⟨c,h1,h2⟩:=h;exact⟨c,k _ _ h1,k _ _ h2⟩
 | mn av cs lo hi=>obtain⟨a,c,h1,h2,B⟩:=h;exact⟨a,c,k _ _ h1,k _ _ h2,k _ _ B⟩
 | sm ts lo hi=>obtain⟨t,h1,h2⟩:=h;exact⟨t,k _ _ h1,h2.keep k⟩
 | tb cs rows=>obtain⟨c,t,vs,h1,h2,B,F⟩:=h;exact⟨c,t,vs,k _ _ h1,k _ _ h2,k _ _ B,F.keep k⟩
 | wy cs ps es=>obtain⟨c,t,e,vs,h1,h2,B,F,L⟩:=h;exact⟨c,t,e,vs,k _ _ h1,k _ _ h2,k _ _ B,F.keep k,k _ _ L⟩
 | bh cs gap=>obtain⟨c,h1,h2⟩:=h;exact⟨c,k _ _ h1,k _ _ h2⟩
theorem eI {w:Addr} {W:Wx} (h:WX H w W) (k : ∀a xs,H a>>xs->H' a>>xs):WX H' w W:=by
 cases W with
 | pl W=>exact cL h k
 | sa c vs W=>obtain⟨t,u,h1,h2,B⟩:=h;exact⟨t,u,k _ _ h1,k _ _ h2,cL B k⟩
def bN:Wi->List Str
 | .un cs=>cs
 | .mn _ cs _ _=>cs
 | .sm ts _ _=>ts.map (·.2)
 | .tb cs _=>cs
 | .wy cs _ _=>cs
 | .bh cs _=>cs
def cN:Wx->List Str
 | .pl W=>bN W
 | .sa c _ W=>c :: bN W
def szW:Wi->Prop
 | .un cs=>cs.length<=12
 | .mn av cs _ _=>av.length<=20/\cs.length<=12
 | .sm ts _ _=>ts.length<=12
 | .tb cs _=>cs.length<=12
 | .wy cs ps es=>cs.length<=12/\(ps.map λx=>(x.1,x.2.1)).Nodup/\ps.length<=60
 | .bh cs _=>cs≠[]/\cs.length<=12
def szX:Wx->Prop
 | .pl W=>szW W
 | .sa _ _ W=>szW W
def bM (W:Wi) (g:Str->Int):Bool:=match W with
 | .un cs=>decide (cs.map g).Nodup
 | .mn av cs lo hi=>eC ((cs.filter λc=>decide (g c∈av)).length:Nat) (some lo) (some hi)
 | .sm ts lo hi=>eC ((ts.map λx=>x.1 * g x.2).sum) lo hi
 | .tb cs rows=>decide (cs.map g∈rows)
 | .wy cs ps es=>tX es (gs ps (some 0) (cs.map g))
 | .bh cs gap=>chB gap (cs.map g)
def dI (W:Wx) (g:Str->Int):Bool:=match W with
 | .pl W=>bM W g
 | .sa c vs W=>decide (decide (g c∈vs)=bM W g)
def jT:Wi->Str
 | .un _ => "unlike"
 | .mn _ _ _ _ => "many"
 | .sm _ _ _ => "sum"
 | .tb _ _ => "table"
 | .wy _ _ _ => "way"
 | .bh _ _ => "behind"
def ES:Sp:=λvs H Q _=>∃(c f:Addr) (cs:List Str) (g:Str->Int),vs=[.ref c,.ref f]/\H c>>(cs.map V.str)/\cs.length<=12/\eo H f cs g/\∀p H',au H H'->H' p>>((cs.map g).map V.int)->Q (.ref p) H'
def yM:Sp:=λvs H Q _=>∃(t f:Addr) (ts:List (Int × Str)) (g:Str->Int),vs=[.ref t,.ref f]/\hZ H t ts/\ts.length<=12/\eo H f (ts.map (·.2)) g/\∀H',au H H'->Q (.int (ts.map λx=>x.1 * g x.2).sum) H'
def my (x:Str):Sp:=λvs H Q _=>∃(w f:Addr) (W:Wi) (g:Str->Int),vs=[.ref w,.ref f]/\jT W=x/\WS H w W/\szW W/\eo H f (bN W) g/\∀H',au H H'->Q (.bl (bM W g)) H'
def uh:Sp:=λvs H Q _=>∃(w f:Addr) (c:Str) (us:List Int) (W:Wi) (g:Str->Int),vs=[.ref w,.ref f]/\WX H w (.sa c us W)/\szW W/\eo H f (c :: bN W) g/\∀H',au H H'->Q (.bl (dI (.sa c us W) g)) H'
def ml:Sp:=λvs H Q _=>∃(w f:Addr) (W:Wi) (g:Str->Int),vs=[.ref w,.ref f]/\WS H w W/\szW W/\eo H f (bN W) g/\∀H',au H H'->Q (.bl (bM W g)) H'
def qB:List Str:=["unlike","many","sum","table","way","behind"]
theorem sy (W:Wi):jT W∈qB:=by cases W <;> simp[qB,jT]
theorem Ic {W:Wi} (h:jT W = "unlike") : ∃cs,W = .un cs:=by
 cases W with
 | un cs=>exact⟨_,rfl⟩
 | _=>exact absurd h (show ¬ (b_ _=b_ _) by decide+kernel)
theorem Ij {W:Wi} (h:jT W = "many") : ∃av cs lo hi,W = .mn av cs lo hi:=by
 cases W with
 | mn=>exact⟨_,_,_,_,rfl⟩
 | _=>exact absurd h (show ¬ (b_ _=b_ _) by decide+kernel)
theorem IU {W:Wi} (h:jT W = "sum") : ∃ts lo hi,W = .sm ts lo hi:=by
 cases W with
 | sm=>exact⟨_,_,_,rfl⟩
 | _=>exact absurd h (show ¬ (b_ _=b_ _) by decide+kernel)
theorem Ib {W:Wi} (h:jT W = "table") : ∃cs rows,W = .tb cs rows:=by
 cases W with
 | tb=>exact⟨_,_,rfl⟩
 | _=>exact absurd h (show ¬ (b_ _=b_ _) by decide+kernel)
theorem IS {W:Wi} (h:jT W = "way") : ∃cs ps es,W = .wy cs ps es:=by
 cases W with
 | wy=>exact⟨_,_,_,rfl⟩
 | _=>exact absurd h (show ¬ (b_ _=b_ _) by decide+kernel)
theorem Ix {W:Wi} (h:jT W = "behind") : ∃cs gap,W = .bh cs gap:=by
 cases W with
 | bh=>exact⟨_,_,rfl⟩
 | _=>exact absurd h (show ¬ (b_ _=b_ _) by decide+kernel)
theorem rF (T:Txt w K mg) (L:FnL K mg "are_unlike" jf ["things"]):Fn P w K mg base "are_unlike" 1 ["things"] (Et):=by
 ctx_has z re <;> obtain⟨t,ns,rfl,h,hl,k⟩:=h
 .rfl
 refine⟨_,(ak (az (aU bY (aD oE T.b_len (ac (be (zF rfl) T.b_set (ac (pvM 0) af)) af)) (aD kf T.b_len (ac (pvM 0) af))))),?_⟩
 ctx_has v h
 refine⟨ns,rfl,(),λq S F=>?_⟩
 have B:au H (upd H q (.set S (ic ns))):=au.upd0 F
 refine⟨S,_,ae,_,B _ _ h,?_⟩
 have:=k _ B
 rw[d_];have e:decide ((ic ns:Int)=(ns.length:Int))=decide ns.Nodup:=by
  rw[n9,decide_eq_true_eq,decide_eq_true_eq,<- si];omega
 rw[e];exact this
abbrev Dz5:=Fn P w K mg base "is_between" 1 ["number","low","high"] (HK)
theorem rQ (T:Txt w K mg) (L:FnL K mg "is_between" iF ["number","low","high"]) : @Dz5 P w K mg base:=by
 ctx_has z rR <;> obtain⟨n,lo,hi,rfl,k⟩:=h
 .rfl
 refine⟨_,(ak (az (im (kD (ox (mT (pvM 1))) (cO (aU jY (pvM 1) (pvM 0)))) (cO (kD (ox (mT (pvM 2))) (cO (aU jY (pvM 0) (pvM 2)))))))),?_⟩
 have B:=k H (au.refl _);cases lo with
 | none =>
  cases hi with
  | none=>ctx_has v xE bV decide_true decide_false h9;exact B
  | some b=>ctx_has v xE bV decide_true decide_false h9;simpa [eC] using B
 | some a =>
  cases hi with
  | none =>
   ctx_has v xE bV decide_true decide_false h9
   refine ft (λh=>?_) (λh=>?_)
   .simpa [eC,h] using B
   .simpa [eC,h] using B
  | some b =>
   ctx_has v xE bV decide_true decide_false h9
   refine ft (λh=>?_) (λh=>?_)
   .simpa [eC,h] using B
   .simpa [eC,h] using B
theorem Ar (T:Txt w K mg) (L:FnL K mg "sum_of" lF ["terms","filling"]):Fn P w K mg base "sum_of" 1 ["terms","filling"] (yM):=by
 ctx_has z Ap <;> obtain⟨t,f,ts,g,rfl,hT,hl,F,k⟩:=h
 .rfl
 refine⟨_,(ak (az (aD (kX rfl) T.b_sum (ac (bj (N:=["term","filling"]) (nt:=1) (js:=[1]) (aI ["terms","filling"] (aj lF).names) (bT K (pvM 0)) (aA 0) aP bx (aQ gC (aE ba (pvM 0) ao) (bQ hu (pvM 1) (aE ba (pvM 0) ao)))) af)))),?_⟩
 obtain⟨as,h1,rfl,Y⟩:=hT;obtain⟨kvs,f1,f2,f3,f4⟩:=F.ex;ctx_has v h1
 intro q hq;refine ci aV (λv=>match v with | .ref a=>(match H a with | some (.tup [.int i,.str c])=>.int (i * g c) | _=>.non) | _=>.non) hq (λH' s=>.of (s _ _ h1)) (by simp at hl ⊢;omega) ?_ ?_
 .intro x H2 Q2 Z sm q2
  obtain⟨y,B,rfl⟩:=i4.mp Z;have e1:=sm _ _ (Y y B);have e2:=sm _ _ f1;have e3:=f2 y.2.2 (i4.mpr ⟨y.2,i4.mpr ⟨y,B,rfl⟩,rfl⟩);simp only[Y y B] at q2;ctx_has v e1 e2 e3
  have b:=F.bd y.2.2 (i4.mpr ⟨y.2,i4.mpr ⟨y,B,rfl⟩,rfl⟩);exact⟨.inr ⟨(),()⟩,q2 H2 (au.refl _)⟩
 .intro H2 sm h2
  ctx_has v
  refine⟨(as.map (·.2)).map λx=>x.1 * g x.2,.of ?_,k H2 sm⟩
  rw[h2,m6,m6,m6]
  congr 2
  refine q_ λx Z=>?_
  simp only[Function.comp_apply,Y x Z]
abbrev Dz6:=Fn P w K mg base "values_at" 1 ["cells","filling"] (ES)
theorem tE (T:Txt w K mg) (L:FnL K mg "values_at" gY ["cells","filling"]) : @Dz6 P w K mg base:=by
 ctx_has z tO <;> obtain⟨c,f,cs,g,rfl,B,hl,F,k⟩:=h
 .rfl
 refine⟨_,(ak (az (be cS T.b_tuple (ac (bj (N:=["cell","filling"]) (nt:=1) (js:=[1]) (aI ["cells","filling"] (aj gY).names) (bT K (pvM 0)) (aA 0) aP bx (bQ hu (pvM 1) (pvM 0))) af)))),?_⟩
 obtain⟨kvs,f1,f2,f3,f4⟩:=F.ex;ctx_has v B
 intro q Y;refine ci aV (λv=>match v with | .str c=>.int (g c) | _=>.non) Y (λH' s=>.of (s _ _ B)) (by simp;omega) ?_ ?_
 .intro x H2 Q2 hx sm q2
  obtain⟨y,Z,rfl⟩:=i4.mp hx;have e2:=sm _ _ f1;have e3:=f2 y Z;ctx_has v e2 e3
  exact q2 H2 (au.refl _)
 .intro H2 sm h2
  ctx_has v h2
  intro t ht;refine k t _ (sm.upd_new ht) ?_
  rw[ae,m6,m6];rfl
abbrev Dz7:=Fn P w K mg base "unlike_kept" 2 ["wish","filling"] (my "unlike")
theorem pX (T:Txt w K mg) (L:FnL K mg "unlike_kept" ib ["wish","filling"]) (FE:Fn P w K mg base "are_unlike" 1 ["things"] (Et)) (Fb : @Dz6 P w K mg base) : @Dz7 P w K mg base:=by
 ctx_has z qI <;> obtain⟨w,f,W,g,rfl,Z,hW,Y,F,k⟩:=h
 .rfl
 refine⟨_,(ak (az (aw FE (ac (aw Fb (ac (aE ba (pvM 0) ao) (ac (pvM 1) af))) af)))),?_⟩
 obtain⟨cs,rfl⟩:=Ic Z;obtain⟨c,h1,h2⟩:=hW;have B:cs.length<=12:=Y
 ctx_has v h1
 refine⟨c,f,cs,g,rfl,h2,B,F,λp H1 s1 e1=>?_⟩
 exact⟨p,cs.map g,rfl,e1,by rw[d_];omega,λH2 s2=>k H2 (s1.trans s2)⟩
abbrev Dz8:=Fn P w K mg base "many_kept" 2 ["wish","filling"] (my "many")
theorem tL (T:Txt w K mg) (L:FnL K mg "many_kept" gX ["wish","filling"]) (Fc : @Dz5 P w K mg base) : @Dz8 P w K mg base:=by
 ctx_has z tD <;> obtain⟨w,f,W,g,rfl,hS,hW,Z,F,k⟩:=h
 .rfl
 refine⟨_,(ai (dP 2 (N:=["cell","filling","wish"]) (nt:=1) (js:=[1,0]) (aI ["wish","filling","hits"] (aj gX).names) (bT K (aE ba (pvM 0) ao)) (aA 0) aP (fH (aO gA (bQ hu (pvM 1) (pvM 0)) (aE ba (pvM 2) ao))) (pvM 0))
  (ak (az (aw Fc (ac (aD bU T.b_len (ac (pvM 2) af)) (ac (aE ba (pvM 0) ao) (ac (aE ba (pvM 0) ao) af))))))),?_⟩
 obtain⟨av,cs,lo,hi,rfl⟩:=Ij hS;obtain⟨a,c,h1,h2,B⟩:=hW;obtain⟨kvs,f1,f2,f3,f4⟩:=F.ex;ctx_has v h1 B
 intro q hq;refine db aV (λv=>match v with | .str c=>decide (g c∈av) | _=>false) id hq (λH' s=>.of (s _ _ B)) (by simp;have:=Z.2;omega) ?_ ?_ ?_
 .intro x H2 Q2 hx sm q2
  obtain⟨y,hy,rfl⟩:=i4.mp hx;have e1:=sm _ _ h1;have e2:=sm _ _ f1;have e3:=f2 y hy;have e4:=sm _ _ h2;ctx_has v e1 e2 e3 e4
  refine⟨rfl,cj _,?_⟩
  rw[df];exact q2 H2 (au.refl _)
 .intro x H2 Q2 hx _ sm q2
  ctx_has v
  exact q2 H2 (au.refl _)
 .intro H2 sm h2'
  have e1:=sm _ _ h1;ctx_has v h2' e1
  refine⟨_,some lo,some hi,rfl,λH3 Y=>?_⟩
  have:=k H3 (sm.trans Y)
  rw[d_,JI,d_];exact this
abbrev Dz9:=Fn P w K mg base "sum_kept" 2 ["wish","filling"] (my "sum")
theorem vD (T:Txt w K mg) (L:FnL K mg "sum_kept" lw ["wish","filling"]) (Fc : @Dz5 P w K mg base) (FL:Fn P w K mg base "sum_of" 1 ["terms","filling"] (yM)) : @Dz9 P w K mg base:=by
 ctx_has z vR <;> obtain⟨w,f,W,g,rfl,Z,hW,Y,F,k⟩:=h
 .rfl
 refine⟨_,(ak (az (aw Fc (ac (aw FL (ac (aE ba (pvM 0) ao) (ac (pvM 1) af))) (ac (aE ba (pvM 0) ao) (ac (aE ba (pvM 0) ao) af)))))),?_⟩
 obtain⟨ts,lo,hi,rfl⟩:=IU Z;obtain⟨t,h1,h2⟩:=hW;ctx_has v h1
 refine⟨t,f,ts,g,rfl,h2,Y,F,λH1 B=>?_⟩
 have e1:=B _ _ h1;ctx_has v e1
 exact⟨_,lo,hi,rfl,λH2 s2=>k H2 (B.trans s2)⟩
abbrev GQ:=Fn P w K mg base "table_kept" 2 ["wish","filling"] (my "table")
theorem rO (T:Txt w K mg) (L:FnL K mg "table_kept" iI ["wish","filling"]) (Fb : @Dz6 P w K mg base) : @GQ P w K mg base:=by
 ctx_has z rM <;> obtain⟨w,f,W,g,rfl,hS,hW,Z,F,k⟩:=h
 .rfl
 refine⟨_,(ak (az (aU (yI (AI hr)) (aw Fb (ac (aE ba (pvM 0) ao) (ac (pvM 1) af))) (aE ba (pvM 0) ao)))),?_⟩
 obtain⟨cs,rows,rfl⟩:=Ib hS;obtain⟨c,tr,vs,h1,h2,h3,h4⟩:=hW;ctx_has v h1
 refine⟨c,f,cs,g,rfl,h2,Z,F,λp H1 B e1=>?_⟩
 have Y:=B _ _ h1;ctx_has v Y
 exact yn e1 (B _ _ h3) (h4.keep λa xs e=>B _ _ e) (k _ B)
theorem yU {s v:Int} : ∀{ps:List (Int × Int × Int)},(∀y∈ps,(y.1,y.2.1)≠(s,v))->bJ (cP ps) [h_ s,h_ v]=none
 | [],_=>rfl
 | p :: ps,h=>by
  have F:=yU (ps:=ps) λy L=>h y (k6 _ L)
  have B:([h_ p.1,h_ p.2.1]:List Key)≠[h_ s,h_ v]:=λz=>h p (m8) (by cases z;rfl)
  unfold cP at F ⊢;rw[i_];simpa [bJ,B] using F
theorem tx (s v:Int) : ∀ps:List (Int × Int × Int),bJ (cP ps) [h_ s,h_ v]=(jI ps (some s) v).map V.int
 | []=>rfl
 | p :: ps=>by
  have F:=tx s v ps;unfold cP jI at F ⊢;dsimp only at F ⊢;rw[i_,Jr]
  by_cases h:p.1=s/\p.2.1=v
  .rw[decide_eq_true h]
   obtain⟨rfl,rfl⟩:=h;simp[bJ]
  .rw[decide_eq_false h]
   have B:([h_ p.1,h_ p.2.1]:List Key)≠[h_ s,h_ v]:=λz=>h (by cases z;exact⟨rfl,rfl⟩)
   simpa [bJ,B] using F
theorem tf (ps:List (Int × Int × Int)) : ∀l:List Int,gs ps none l=none
 | []=>rfl
 | v :: l=>tf ps l
theorem lR (ps:List (Int × Int × Int)) (st:Option Int) (a b:List Int):gs ps st (a++b)=gs ps (gs ps st a) b:=by unfold gs;rw[foldl_append]
theorem sM {ps:List (Int × Int × Int)} {l:List Int} {st:Int} (B:l[i]? = some v) (h:gs ps (some 0) (l.take i)=some st):gs ps (some 0) (l.take (i+1))=jI ps (some st) v:=by
 rw[ki,B,lR,h];rfl
theorem sf {ps:List (Int × Int × Int)} {l:List Int} (h:gs ps (some 0) (l.take i)=none):gs ps (some 0) l=none:=by
 rw[<- List.take_append_drop i l,lR,h,tf]
theorem qq {ps:List (Int × Int × Int)} {x:Int × Int × Int} (Z:(ps.map λx=>(x.1,x.2.1)).Nodup) (Y:ps[i]? = some x):bv (cP (ps.take i)) [h_ x.1,h_ x.2.1] (.int x.2.2)=cP (ps.take (i+1)):=by
 have F:ps.take (i+1)=ps.take i++[x]:=by rw[ki,Y];rfl
 have B:((ps.take i++[x]).map λx=>(x.1,x.2.1)).Nodup:=by
  rw[<- F,map_take];exact Z.sublist (Jy _ _)
 rw[t6,t_] at B;rw[fh _ (yU λy L e=>B.2.2 _ (i4.mpr ⟨y,L,rfl⟩) _ (by simp) e),F]
 unfold cP;rw[t6];rfl
abbrev HN:=Fn P w K mg base "way_kept" 2 ["wish","filling"] (my "way")
theorem uX (T:Txt w K mg) (L:FnL K mg "way_kept" kQ ["wish","filling"]) (Fb : @Dz6 P w K mg base) : @HN P w K mg base:=by
 ctx_has z vK <;> obtain⟨w,f,W,g,rfl,hS,hW,hk,F,k⟩:=h
 .rfl
 refine⟨_,(ai (aF 2 wu)
  (ai (bq (bT K (aE ba (pvM 0) ao)) (aA 3) (ak (yN hu (pvM 2) (cM qd (pvM 3) eF (de ao)) (aE ba (pvM 3) ao) rfl)))
  (ai (aF 4 ao)
  (ai (bq (bT K (aw Fb (ac (aE ba (pvM 0) ao) (ac (pvM 1) af)))) (aA 5) (ai (bF (nU (zX hu (cq (ac (pvM 4) (ac (pvM 5) af))) (pvM 2))) (ak (az cR)) aR)
  (ak (aF 4 (Dk hu (pvM 2) (cq (ac (pvM 4) (ac (pvM 5) af))))))))
  (ak (az (aU gA (pvM 4) (aE ba (pvM 0) ao)))))))),?_⟩
 obtain⟨cs,ps,es,rfl⟩:=IS hS;obtain⟨c,t,e,vs,h1,h2,h3,h4,h5⟩:=hW;obtain⟨as,rfl,rfl,a0⟩:=h4;ctx_has v xV zi h1
 intro p hp;have aq:=hk.2.1;have ax:=hk.2.2;refine⟨_,(au.upd0 hp) _ _ h1,_,rfl,t,rfl,_,(au.upd0 hp) _ _ h3,?_⟩
 refine bX aV (λi σ H'=>∃v3,σ=[-w,-f,-p,v3,none,none]/\au H H'/\H' p=some (.dT (cP ((as.map (·.2)).take i)))) ⟨_,rfl,au.upd0 hp,ae⟩ (λi σ H' aa=>by obtain⟨_,_,sm,_⟩:=aa;exact(.of (sm _ _ h3))) ?_ ?_
 .rintro i x σ H' hi hx ⟨v3,rfl,sm,hd⟩
  obtain⟨y,hy,rfl⟩ : ∃y,as[i]? = some y/\V.ref y.1=x:=by
   rw[fx] at hx;cases e:as[i]? with
   | none=>rw[e] at hx;cases hx
   | some nm=>rw[e] at hx;exact⟨nm,rfl,ge hx⟩
  have aj:=sm _ _ (a0 y (g7 hy));ctx_has v zi aj
  intro q H2 hq Z;have ay:(as.map (·.2))[i]? = some y.2:=by rw[fx,hy];rfl
  refine⟨_,xZ.t (k:=[h_ y.2.1,h_ y.2.2.1]) (Z _ _ hd) hq ?_,λb o e=>?_,by rw[ae,qq aq ay]⟩
  .unfold cP
   rw[d_];exact rb (G4 _ _) (hH (show(as.map (·.2)).length < 1000 by have:(as.map (·.2)).length<=60:=ax;omega) ∅)
  .rw[ag (ap e hp)]
   exact Z _ _ (sm b o e)
 .rintro σ H' ⟨v3,rfl,sm,hd⟩
  rw[d_,show(as.map (·.2)).take as.length=as.map (·.2) from nH (by simp)] at hd
  have ah:=sm _ _ h1;ctx_has v ah
  refine⟨c,f,cs,g,rfl,sm _ _ h2,hk.1,F.same sm,λq H2 Z hq=>⟨q,rfl,_,hq,?_⟩⟩
  refine bX aV (λi σ H3=>∃v5 st,σ=[-w,-f,-p,v3,some (.int st),v5]/\gs (as.map (·.2)) (some 0) ((cs.map g).take i)=some st/\au H2 H3) ⟨_,0,rfl,rfl,au.refl _⟩ (λi σ H' ad=>by obtain⟨_,_,_,_,B⟩:=ad;exact(.of (B _ _ hq))) ?_ ?_
  .rintro i x σ H3 hi hx ⟨v5,st,rfl,hrun,B⟩
   obtain⟨v,hv,rfl⟩ : ∃v,(cs.map g)[i]? = some v/\V.int v=x:=by
    rw[fx] at hx;cases e:(cs.map g)[i]? with
    | none=>rw[e] at hx;cases hx
    | some nm=>rw[e] at hx;exact⟨nm,rfl,ge hx⟩
   have ab:=B _ _ (Z _ _ hd);ctx_has v yr Es
   refine⟨∅,λr g1=>⟨_,kN.t (k:=[h_ st,h_ v]) ((au.upd0 g1) _ _ ab) ae,?_⟩⟩
   rw[tx];have Y:=sM hv hrun;cases eg:jI (as.map (·.2)) (some st) v with
   | none =>
    rw[eg] at Y;have ar:bM (.wy cs (as.map (·.2)) es) g=false:=by unfold bM;dsimp only;rw[show gs (as.map (·.2)) (some 0) (cs.map g)=none from sf Y];rfl
    have:=k _ (sm.trans (Z.trans (B.trans (au.upd0 (o:=.tup [.int st,.int v]) g1))))
    rw[ar] at this;exact this
   | some n =>
    rw[eg] at Y;refine⟨∅,λr2 g2=>⟨V.int n,?_,_,n,rfl,rfl,Y,B.trans ((au.upd0 g1).upd_new g2)⟩⟩
    have:=kN.t (k:=[h_ st,h_ v]) ((au.upd0 g1).upd_new (o:=.tup [.int st,.int v]) g2 _ _ ab) ae
    rw[tx,eg] at this;exact this
  .rintro σ H3 ⟨v5,st,rfl,hrun,B⟩
   have am:=B _ _ (Z _ _ ah);ctx_has v am
   rw[show(cs.map g).take ((cs.map g).map V.int).length=cs.map g from nH (by simp)] at hrun
   refine⟨_,B _ _ (Z _ _ (sm _ _ h5)),rfl,cj es,?_⟩
   have an:bM (.wy cs (as.map (·.2)) es) g=decide (st∈es):=by unfold bM;dsimp only;rw[show gs (as.map (·.2)) (some 0) (cs.map g)=some st from hrun];rfl
   rw[show inV (V.int st) (es.map V.int)=decide (st∈es) from df st es,<- an]
   exact k _ (sm.trans (Z.trans B))
abbrev GU:=Fn P w K mg base "behind_kept" 2 ["wish","filling"] (my "behind")
theorem pO (T:Txt w K mg) (L:FnL K mg "behind_kept" fF ["wish","filling"]) (Fb : @Dz6 P w K mg base) : @GU P w K mg base:=by
 ctx_has z qP <;> obtain⟨w,f,W,g,rfl,hS,hW,hk,F,k⟩:=h
 .rfl
 refine⟨_,(ai (aF 2 (aw Fb (ac (aE ba (pvM 0) ao) (ac (pvM 1) af))))
  (ak (az (aD (jZ rfl) T.b_all (ac (bj (N:=["ahead","later","wish"]) (nt:=2) (js:=[0]) (aI ["wish","filling","found"] (aj fF).names) (Bp (K:=K) rfl rfl T.b_zip (ac (pvM 2) (ac (cM qd (pvM 2) (de ao) eF) af))) (gu (n:=2) rfl (bO (aA 0) (bO (aA 1) gp))) iQ bx (aU jY (aQ bf (pvM 0) (aE ba (pvM 2) ao)) (pvM 1))) af))))),?_⟩
 obtain⟨cs,gap,rfl⟩:=Ix hS;obtain⟨c,h1,h2⟩:=hW;ctx_has v h1
 refine⟨c,f,cs,g,rfl,h2,hk.2,F,λp H1 s1 e1=>?_⟩
 ctx_has v e1
 intro p2 H2 e2 Y;rw[show gR ((cs.map g).map V.int) (some 1) none=((cs.map g).drop 1).map V.int from iO V.int (cs.map g) 1] at e2
 have B:=Y _ _ e1;have aa:=Y _ _ (s1 _ _ h1);ctx_has v B e2
 intro q hq;refine tm (λx y=>match x,y with | .int a,.int b=>.bl (decide (a+gap<=b)) | _,_=>.non) hq B e2 (by have:=hk.2;simp at this ⊢;omega) ?_ ?_
 .intro x y H3 Q3 hx hy sm q3
  obtain⟨x,_,rfl⟩:=i4.mp hx;obtain⟨y,_,rfl⟩:=i4.mp hy;have Z:=sm _ _ aa;ctx_has v Z
  exact q3 H3 (au.refl _)
 .intro H3 sm Z
  ctx_has v
  refine⟨zipWith (λa b=>decide (a+gap<=b)) (cs.map g) ((cs.map g).drop 1),?_,k H3 ((s1.trans Y).trans sm)⟩
  rw[Z,List.map_zipWith,List.zipWith_map]
theorem rj (B : ∀y∈qB,FnT P w K mg base (ah mg "KEEPERS") y 3 ["wish","filling"] (my y)) (T:Txt w K mg) (L:FnL K mg "wish_kept" hE ["wish","filling"]):Fn P w K mg base "wish_kept" 4 ["wish","filling"] (ml):=by
 ctx_has z uq <;> obtain⟨w,f,W,g,rfl,Y,Z,F,k⟩:=h
 .rfl
 refine⟨_,(ak (az (Bg T.tb_KEEPERS B T.at_KEEPERS (aE ba (pvM 0) ao) (ac (pvM 0) (ac (pvM 1) af))))),?_⟩
 cases W with
 | un cs=>obtain⟨c,h1,h2⟩:=id Y;ctx_has v kY h1;exact⟨sy (.un cs),w,f,_,g,rfl,rfl,Y,Z,F,k⟩
 | mn av cs lo hi=>obtain⟨a,c,h1,h2,h3⟩:=id Y;ctx_has v kY h1;exact⟨sy (.mn av cs lo hi),w,f,_,g,rfl,rfl,Y,Z,F,k⟩
 | sm ts lo hi=>obtain⟨t,h1,h2⟩:=id Y;ctx_has v kY h1;exact⟨sy (.sm ts lo hi),w,f,_,g,rfl,rfl,Y,Z,F,k⟩
 | tb cs rows=>obtain⟨c,t,vs,h1,h2,h3,h4⟩:=id Y;ctx_has v kY h1;exact⟨sy (.tb cs rows),w,f,_,g,rfl,rfl,Y,Z,F,k⟩
 | wy cs ps es=>obtain⟨c,t,e,vs,h1,h2,h3,h4,h5⟩:=id Y;ctx_has v kY h1;exact⟨sy (.wy cs ps es),w,f,_,g,rfl,rfl,Y,Z,F,k⟩
 | bh cs gap=>obtain⟨c,h1,h2⟩:=id Y;ctx_has v kY h1;exact⟨sy (.bh cs gap),w,f,_,g,rfl,rfl,Y,Z,F,k⟩
theorem uc (T:Txt w K mg) (L:FnL K mg "same_kept" jJ ["wish","filling"]) (FP:Fn P w K mg base "wish_kept" 4 ["wish","filling"] (ml)):Fn P w K mg base "same_kept" 5 ["wish","filling"] (uh):=by
 ctx_has z uv <;> obtain⟨w,f,c,us,W,g,rfl,Y,B,F,k⟩:=h
 .rfl
 refine⟨_,(ak (az (aU bY (aU gA (bQ hu (pvM 1) (aE ba (pvM 0) ao)) (aE ba (pvM 0) ao)) (aw FP (ac (aE ba (pvM 0) ao) (ac (pvM 1) af)))))),?_⟩
 obtain⟨t,u,h1,h2,h3⟩:=Y;obtain⟨kvs,f1,f2,f3,f4⟩:=F.ex;have e2:=f2 c m8;ctx_has v h1 f1 e2 h2
 refine⟨rfl,cj _,?_⟩
 rw[df];refine⟨u,f,W,g,rfl,h3,B,F.sub λc Z=>k6 _ Z,λH' s=>⟨rfl,by rw[show decide (V.bl (decide (g c∈us))=V.bl (bM W g))=dI (.sa c us W) g by simp[dI]];exact k H' s⟩⟩
def qm (st v:Int) (x:Int × Int × Int):Option Int:=if x.1=st/\x.2.1=v then some x.2.2 else none
theorem vN (st v:Int) : ∀ps:List (Int × Int × Int),(ps.filterMap (qm st v)).head? = jI ps (some st) v
 | []=>rfl
 | p :: ps=>by
  have B:=vN st v ps;unfold jI at B ⊢;dsimp only at B ⊢;rw[Jr]
  by_cases h:p.1=st/\p.2.1=v
  .rw[List.filterMap_cons_some (b:=p.2.2) (by simp[qm,h]),decide_eq_true h]
   rfl
  .rw[List.filterMap_cons_none (by simp[qm,h]),decide_eq_false h]
   exact B
theorem Dt {t D:Addr} {as:List (Addr × Int × Int × Int)} {st:Int} {Qf:VK} (h3:H' t>>(as.map λx=>V.ref x.1)) (Y : ∀x∈as,H' x.1>>[.int x.2.1,.int x.2.2.1,.int x.2.2.2]) (hl:as.length<=60) (Z:H' D=none)
  (hQ : ∀H1 (zs:List Int),au H' H1->H1 D*>(zs.map V.int)->zs.head? = jI (as.map (·.2)) (some st) v->Qf (.ref D) H1) :
  mt (Itt K t) [none,some (V.int st),some (V.int v)] (gi 0) (kH (tOp (Gm K) (tSl Du (dX 0) mz (vt (tC (V.int 2)))) (Ei (kE (dX 1) (kE (dX 2) xO))))) (tOp rIT (dX 0) (tC (V.int 2))) Qf H' D:=by
 refine dG aV (λj zs H1=>zs=(((as.map (·.2)).take j).filterMap (qm st v)).map V.int/\au H' H1/\H1 D*>zs) ⟨rfl,au.upd0 Z,ae⟩ (λi ys H1 h=>.of (h.2.1 _ _ h3)) ?_ ?_
 .rintro j x ys H1 hj hx ⟨rfl,sm,hd⟩
  obtain⟨y,hy,rfl⟩ : ∃y,as[j]? = some y/\V.ref y.1=x:=by
   rw[fx] at hx;cases e:as[j]? with
   | none=>rw[e] at hx;cases hx
   | some nm=>rw[e] at hx;exact⟨nm,rfl,ge hx⟩
  have hc:=sm _ _ (Y y (g7 hy));have et:(as.map (·.2)).take (j+1)=(as.map (·.2)).take j++[y.2]:=by rw[ki,fx,hy];rfl
  rw[et,List.filterMap_append,t6];have L:((((as.map (·.2)).take j).filterMap (qm st v)).map V.int).length < hB:=by
   rw[d_];refine rb (List.length_filterMap_le _ _) (rb (G4 _ _) ?_)
   exact hH (show(as.map (·.2)).length < 1000 by simp;omega) ∅
  ctx_has v hc
  intro p H2 hp s2;refine⟨∅,λp2 F=>?_⟩
  have B:=s2.trans (au.upd0 (o:=.tup [.int st,.int v]) F);refine⟨jM [y.2.1,y.2.2.1],jM [st,v],.tup (.of ((au.upd0 F) _ _ hp)) (gT.ints [y.2.1,y.2.2.1]),.tup (.of ae) (gT.ints [st,v]),lE _,lE _,i8 (mY _) ∅,?_⟩
  rw[ze];refine⟨_,rfl,?_⟩
  by_cases h:y.2.1=st/\y.2.2.1=v
  .rw[decide_eq_true (show[y.2.1,y.2.2.1]=[st,v] by rw[h.1,h.2]),if_pos rfl]
   refine⟨_,B _ _ hc,_,rfl,B _ _ hd,L,by simp[qm,h],λb o e=>?_,ae⟩
   rw[ag (ap e Z)];exact B _ _ (sm b o e)
  .rw[decide_eq_false (show ¬ [y.2.1,y.2.2.1]=[st,v] from λz=>h (by cases z;exact⟨rfl,rfl⟩)),if_neg j7]
   exact⟨by simp[qm,h],sm.trans B,B _ _ hd⟩
 .rintro zs H1 ⟨rfl,sm,hd⟩
  rw[d_,show(as.map (·.2)).take as.length=as.map (·.2) from nH (by simp)] at hd
  exact hQ H1 _ sm hd (vN st v _)
theorem iy {a rest:TS} (h : ∀R:TS,R=rest->jo a R D σ H):jo a rest D σ H:=h rest rfl
local macro_rules | `(tactic| ctx_has s $ids*) => `(tactic| (refine iy λR hR => ?_; ctx_has v $ids*; subst hR))
theorem bR {R:TS} {w:Addr} {y:Str} (L:σ[0]? = some (-w)) (F:H w>>(.str x :: vs)) (B:x≠y) (h:R D σ H):jo (yg (kH (tOp rEq (tOp rIT (dX 0) (tC (V.int 0))) (tC (V.str y)))) tb qA) R D σ H:=by
 simp only[jo,yg,kH,tOp,rEq,rIT,dX,tC,L,qA];refine⟨w,rfl,0,rfl,_,F,V.str x,ED _ _,rfl,_,rfl,?_⟩
 rw[if_neg (by simpa using B)]
 exact h
theorem kI {R:TS} {w:Addr} {y:Str} (F:σ[0]? = some (-w)) (B:H w>>(.str y :: vs)) (h : ∀R:TS,jo tb R D σ H):jo (yg (kH (tOp rEq (tOp rIT (dX 0) (tC (V.int 0))) (tC (V.str y)))) tb qA) R D σ H:=by
 simp only[jo,yg,kH,tOp,rEq,rIT,dX,tC,F,qA];refine⟨w,rfl,0,rfl,_,B,V.str y,ED _ _,rfl,_,rfl,?_⟩
 rw[if_pos (by simp)]
 exact h R
abbrev F7:=Fn P w K mg base "_law_kept" 3 ["_law_wish_here","_law_filling"] (ml)
abbrev nz0:List Str:=["_law_wish_here","_law_filling","_law_total","_law_values","_law_state","_law_value","_law_after"]
theorem rJ (T:Txt w K mg) (L:FnL K mg "_law_kept" cg ["_law_wish_here","_law_filling"]) : @F7 P w K mg base:=by
 ctx_has z mI <;> obtain⟨w,f,W,g,rfl,hW,Y,F,k⟩:=h
 .rfl
 refine⟨_,(ai (bF (aO bY (aE ba (pvM 0) ao) aJ) (ak eA) aR)
  (ai (bF (aO bY (aE ba (pvM 0) ao) aJ) (ai (aF 2 (aD (kX rfl) T.b_sum (ac (bj (N:=["_law_a","_law_name","_law_filling"]) (nt:=2) (js:=[1]) (aI nz0 (aj cg).names) (bT K (aE ba (pvM 0) ao)) (gu (n:=2) rfl (bO (aA 0) (bO (aA 1) gp))) iQ bx (aQ gC (pvM 0) (bQ hu (pvM 2) (pvM 1)))) af)))
  (ak (az (im (kD (ox (mT (aE ba (pvM 0) ao))) (cO (aU HM (pvM 2) (aE ba (pvM 0) ao)))) (cO (kD (ox (mT (aE ba (pvM 0) ao))) (cO (aU jY (pvM 2) (aE ba (pvM 0) ao))))))))) aR)
  (ai (bF (aO bY (aE ba (pvM 0) ao) aJ) (ak (az (Bv jY jY (aE ba (pvM 0) ao) (aD bU T.b_len (ac (bj (N:=["_law_name","_law_filling","_law_wish_here"]) (nt:=1) (js:=[1,0]) (aI nz0 (aj cg).names) (bT K (aE ba (pvM 0) ao)) (aA 0) aP (fH (aO gA (bQ hu (pvM 1) (pvM 0)) (aE ba (pvM 2) ao))) (pvM 0)) af)) (aE ba (pvM 0) ao)))) aR)
  (ai (aF 3 (bj (N:=["_law_name","_law_filling"]) (nt:=1) (js:=[1]) (aI nz0 (aj cg).names) (bT K (aE ba (pvM 0) ao)) (aA 0) aP bx (bQ hu (pvM 1) (pvM 0))))
  (ai (bF (aO bY (aE ba (pvM 0) ao) aJ) (ak (az (aU bY (aD oE T.b_len (ac (be (Al rfl) T.b_set (ac (pvM 3) af)) af)) (aD bU T.b_len (ac (pvM 3) af))))) aR)
  (ai (bF (aO bY (aE ba (pvM 0) ao) aJ) (ak (az (aU (yI (AI hr)) (be cS T.b_tuple (ac (pvM 3) af)) (aE ba (pvM 0) ao)))) aR)
  (ai (bF (aO bY (aE ba (pvM 0) ao) aJ) (ak (az (aD (jZ rfl) T.b_all (ac (bj (N:=["_law_k","_law_values","_law_wish_here"]) (nt:=1) (js:=[3,0]) (aI nz0 (aj cg).names) (dS rfl T.b_range (ac (aQ jw (aD bU T.b_len (ac (pvM 3) af)) ao) af)) (aA 0) aP bx (aU jY (aQ bf (aE jr (pvM 1) (pvM 0)) (aE ba (pvM 2) ao)) (aE jr (pvM 1) (aQ bf (pvM 0) ao)))) af)))) aR)
  (ai (aF 4 ao)
  (ai (bq (gG K (pvM 3)) (aA 5) (ai (dP 6 (N:=["_law_step","_law_state","_law_value"]) (nt:=1) (js:=[4,5]) (aI nz0 (aj cg).names) (bT K (aE ba (pvM 0) ao)) (aA 0) aP (fH (aO (Dr (K:=K) rfl (wr hr)) (cM qd (pvM 0) eF (de ao)) (cq (ac (pvM 1) (ac (pvM 2) af))))) (aE ba (pvM 0) ao))
  (ai (bF (aO (pR (wr hr)) (pvM 6) (cA af)) (ak (az cR)) aR)
  (ak (aF 4 (aE jr (pvM 6) ao))))))
  (ak (az (aU gA (pvM 4) (aE ba (pvM 0) ao))))))))))))),?_⟩
 obtain⟨kvs,f1,f2,f3,f4⟩:=F.ex;cases W with
 | un cs =>
  obtain⟨c,h1,h2⟩:=hW;have aB:cs.length<=12:=Y
  refine bR rfl h1 (by decide+kernel) (bR rfl h1 (by decide+kernel) (bR rfl h1 (by decide+kernel) (iy λR hR=>?_)))
  ctx_has v h1 h2
  intro q hq;refine ci aV (λv=>match v with | .str c=>.int (g c) | _=>.non) hq (λH' s=>.of (s _ _ h2)) (by simp;omega) ?_ ?_
  .intro x H2 Q2 Z sm q2
   obtain⟨y,hy,rfl⟩:=i4.mp Z;have e2:=sm _ _ f1;have e3:=f2 y hy;ctx_has v e2 e3
   exact q2 H2 (au.refl _)
  .intro H2 sm e2
   have ab:H2 q*>((cs.map g).map V.int):=by rw[e2,m6,m6];rfl
   have B:=sm _ _ h1;subst hR;refine kI rfl B λR=>?_
   ctx_has v B
   refine⟨cs.map g,ab,by simp;omega,λy S hy=>?_⟩
   refine⟨S,_,ae,_,by rw[ag (ap ab hy)];exact ab,?_⟩
   have Y:=k _ (sm.upd_new (o:=.set S (ic (cs.map g))) hy);have e3:bM (.un cs) g=decide ((ic (cs.map g):Int)=(((cs.map g).map V.int).length:Int)):=by
    unfold bM;dsimp only;rw[n9,decide_eq_true_eq,decide_eq_true_eq,<- si,d_ (as:=cs.map g)];omega
   rw[e3] at Y;exact Y
 | mn av cs lo hi =>
  obtain⟨am,ce,aa,a6,ay⟩:=hW;have a9:cs.length<=12:=Y.2
  refine bR rfl aa (by decide+kernel) (bR rfl aa (by decide+kernel) (kI rfl aa λR=>?_))
  ctx_has v aa ay
  intro q hq;refine db aV (λv=>match v with | .str c=>decide (g c∈av) | _=>false) id hq (λH' s=>.of (s _ _ ay)) (by simp;omega) ?_ ?_ ?_
  .intro x H2 Q2 Z sm q2
   obtain⟨c,aC,rfl⟩:=i4.mp Z;have ad:=sm _ _ aa;have a7:=sm _ _ f1;have a8:=sm _ _ a6;have hv:=f2 c aC;ctx_has v a7 hv ad a8
   refine⟨rfl,cj _,?_⟩
   rw[df];exact q2 H2 (au.refl _)
  .intro x H2 Q2 Z _ sm q2
   ctx_has v
   exact q2 H2 (au.refl _)
  .intro H2 sm h2
   have ad:=sm _ _ aa;ctx_has v h2 ad
   have Y:=k H2 sm;unfold bM eC at Y;dsimp only at Y;have el:(List.map id (List.filter (λv=>match v with | .str c=>decide (g c∈av) | _=>false) (cs.map V.str))).length=(cs.filter λc=>decide (g c∈av)).length:=by
    rw[d_,JI,d_];rfl
   rw[el];refine ft (λh=>?_) (λh=>?_)
   .rw[decide_eq_true h,Bool.true_and] at Y;exact Y
   .rw[decide_eq_false h,Bool.false_and] at Y;exact Y
 | sm ts lo hi =>
  obtain⟨t,aa,as,a0,rfl,ar⟩:=hW;have a9:as.length<=12:=by have:(as.map (·.2)).length<=12:=Y;simpa using this
  refine bR rfl aa (by decide+kernel) (kI rfl aa λR=>?_)
  ctx_has v aa a0
  intro q hq;refine dG aV (λj ys H2=>ys=((as.take j).map λx=>x.2.1 * g x.2.2).map V.int/\H2 q*>ys/\au H H2) ⟨by simp,ae,au.upd0 hq⟩ (λj ys H2 a3=>by obtain⟨_,_,sm⟩:=a3;exact(.of (sm _ _ a0))) ?_ ?_
  .rintro j x ys H2 hj Z ⟨rfl,h2,sm⟩
   rw[d_] at hj;obtain⟨y,hy,rfl⟩ : ∃y,as[j]? = some y/\V.ref y.1=x:=by
    rw[fx] at Z;cases e:as[j]? with
    | none=>rw[e] at Z;cases Z
    | some nm=>rw[e] at Z;exact⟨nm,rfl,ge Z⟩
   have an:y∈as:=g7 hy
   have e3:=sm _ _ (ar y an);have e4:=sm _ _ f1;have e5:=f2 y.2.2 (i4.mpr ⟨y.2,i4.mpr ⟨y,an,rfl⟩,rfl⟩);have e6:=F.bd y.2.2 (i4.mpr ⟨y.2,i4.mpr ⟨y,an,rfl⟩,rfl⟩);ctx_has v e3 e4 e5
   refine⟨.inr ⟨(),()⟩,h2,by simp;exact aK (),?_,ae,λb o e=>?_⟩
   .rw[ki,hy];simp
   .rw[ag (ap e hq)];exact sm _ _ e
  .rintro ys H2 ⟨rfl,h2,sm⟩
   rw[d_,m_] at h2;have ad:=sm _ _ aa;have ek:(((as.map (·.2)).map λx=>x.1 * g x.2).sum)=(as.map λx=>x.2.1 * g x.2.2).sum:=by rw[m6];rfl
   have Y:=k H2 sm;unfold bM at Y;dsimp only at Y;rw[ek] at Y;ctx_has v
   refine⟨as.map λx=>x.2.1 * g x.2.2,.of h2,?_⟩
   generalize (as.map λx=>x.2.1 * g x.2.2).sum=aT at Y ⊢
   cases lo with
   | none =>
    cases hi with
    | none=>ctx_has v ad bV decide_true decide_false h9;exact Y
    | some b=>ctx_has v ad bV decide_true decide_false h9;simpa [eC] using Y
   | some a =>
    cases hi with
    | none =>
     ctx_has v ad bV decide_true decide_false h9
     refine ft (λh=>?_) (λh=>?_)
     .simpa [eC,h] using Y
     .simpa [eC,h] using Y
    | some b =>
     ctx_has v ad bV decide_true decide_false h9
     refine ft (λh=>?_) (λh=>?_)
     .simpa [eC,h] using Y
     .simpa [eC,h] using Y
 | tb cs rows =>
  obtain⟨c,tr,vs,h1,h2,h3,h4⟩:=hW;have aB:cs.length<=12:=Y
  refine bR rfl h1 (by decide+kernel) (bR rfl h1 (by decide+kernel) (bR rfl h1 (by decide+kernel) (iy λR hR=>?_)))
  ctx_has v h1 h2
  intro q hq;refine ci aV (λv=>match v with | .str c=>.int (g c) | _=>.non) hq (λH' s=>.of (s _ _ h2)) (by simp;omega) ?_ ?_
  .intro x H2 Q2 Z sm q2
   obtain⟨y,hy,rfl⟩:=i4.mp Z;have e2:=sm _ _ f1;have e3:=f2 y hy;ctx_has v e2 e3
   exact q2 H2 (au.refl _)
  .intro H2 sm e2
   have ab:H2 q*>((cs.map g).map V.int):=by rw[e2,m6,m6];rfl
   have B:=sm _ _ h1;subst hR;refine bR rfl B (by decide+kernel) (kI rfl B λR=>?_)
   ctx_has v ab B
   intro tt aN;have s3:au H2 (upd H2 tt (.tup ((cs.map g).map V.int))):=au.upd0 aN
   refine⟨_,s3 _ _ B,?_⟩
   ctx_has v
   exact yn ae (s3 _ _ (sm _ _ h3)) (h4.keep λa xs e=>s3 _ _ (sm _ _ e)) (k _ (sm.trans s3))
 | wy cs ps es =>
  obtain⟨c,t,e,vs,h1,h2,h3,h4,h5⟩:=hW;obtain⟨as,rfl,rfl,ar⟩:=h4;refine bR rfl h1 (by decide+kernel) (bR rfl h1 (by decide+kernel) (bR rfl h1 (by decide+kernel) (iy λR hR=>?_)))
  ctx_has v h1 h2
  intro q hq;refine ci aV (λv=>match v with | .str c=>.int (g c) | _=>.non) hq (λH' s=>.of (s _ _ h2)) (by have:=Y.1;simp;omega) ?_ ?_
  .intro x H2 Q2 Z sm q2
   obtain⟨y,hy,rfl⟩:=i4.mp Z;have e2:=sm _ _ f1;have e3:=f2 y hy;ctx_has v e2 e3
   exact q2 H2 (au.refl _)
  .intro H2 sm e2
   have ab:H2 q*>((cs.map g).map V.int):=by rw[e2,m6,m6];rfl
   have B:=sm _ _ h1;subst hR;refine bR rfl B (by decide+kernel) (bR rfl B (by decide+kernel) (bR rfl B (by decide+kernel) ?_))
   ctx_has v ab B
   have a5:=Y.2.2;refine bX cm (λi σ H3=>∃v5 v6 st,σ=[-w,-f,none,-q,some (.int st),v5,v6]/\gs (as.map (·.2)) (some 0) ((cs.map g).take i)=some st/\au H2 H3) ⟨_,_,0,rfl,rfl,au.refl _⟩ (λi σ H' aw=>by obtain⟨_,_,_,_,_,s3⟩:=aw;exact(.of (s3 _ _ ab))) ?_ ?_
   .rintro i x σ H3 hi Z ⟨v5,v6,st,rfl,hrun,s3⟩
    obtain⟨v,hv,rfl⟩ : ∃v,(cs.map g)[i]? = some v/\V.int v=x:=by
     rw[fx] at Z;cases e:(cs.map g)[i]? with
     | none=>rw[e] at Z;cases Z
     | some nm=>rw[e] at Z;exact⟨nm,rfl,ge Z⟩
    have aq:=s3 _ _ B;have ax:=s3 _ _ (sm _ _ h3);ctx_has v aq ax
    intro D hD;refine Dt ax (λx Z=>s3 _ _ (sm _ _ (ar x Z))) (by simpa using a5) hD λH4 zs s4 hz hh=>?_
    have ah:=sM hv hrun;refine⟨∅,λp5 aM=>?_⟩
    have s5:=au.upd0 (o:=.lst []) aM;refine⟨.list (zs.map G2),.list [],.lst (.of (s5 _ _ hz)) (gT.ints zs),.lst (.of ae) .nil,by unfold PyData.canLay0;exact lay_ints zs,rfl,by unfold KH;rw[depth_ints];decide,_,rfl,?_⟩
    cases zs with
    | nil =>
     rw[show z_ (.list (([]:List Int).map G2)) (.list [])=true by rfl,if_pos rfl]
     rw[<- hh] at ah;have aL:bM (.wy cs (as.map (·.2)) es) g=false:=by unfold bM;dsimp only;rw[show gs (as.map (·.2)) (some 0) (cs.map g)=none from sf ah];rfl
     have:=k _ (sm.trans (s3.trans (s4.trans s5)))
     rw[aL] at this;exact this
    | cons n zs =>
     rw[show z_ (.list ((n :: zs).map G2)) (.list [])=false by simp[z_,Ja],if_neg j7]
     rw[<- hh] at ah;exact⟨D,rfl,_,s5 _ _ hz,V.int n,cE (j:=0) (by simp),_,_,n,rfl,rfl,rfl,ah,s3.trans (s4.trans s5)⟩
   .rintro σ H3 ⟨v5,v6,st,rfl,hrun,s3⟩
    have aq:=s3 _ _ B;ctx_has v aq
    rw[show(cs.map g).take ((cs.map g).map V.int).length=cs.map g from nH (by simp)] at hrun
    refine⟨_,s3 _ _ (sm _ _ h5),rfl,cj es,?_⟩
    have aH:bM (.wy cs (as.map (·.2)) es) g=decide (st∈es):=by unfold bM;dsimp only;rw[show gs (as.map (·.2)) (some 0) (cs.map g)=some st from hrun];rfl
    rw[show inV (V.int st) (es.map V.int)=decide (st∈es) from df st es,<- aH]
    exact k _ (sm.trans s3)
 | bh cs gap =>
  obtain⟨c,h1,h2⟩:=hW;have hl:cs≠[]/\cs.length<=12:=Y
  refine bR rfl h1 (by decide+kernel) (bR rfl h1 (by decide+kernel) (bR rfl h1 (by decide+kernel) (iy λR hR=>?_)))
  ctx_has v h1 h2
  intro q hq;refine ci aV (λv=>match v with | .str c=>.int (g c) | _=>.non) hq (λH' s=>.of (s _ _ h2)) (by have:=hl.2;simp;omega) ?_ ?_
  .intro x H2 Q2 Z sm q2
   obtain⟨y,hy,rfl⟩:=i4.mp Z;have e2:=sm _ _ f1;have e3:=f2 y hy;ctx_has v e2 e3
   exact q2 H2 (au.refl _)
  .intro H2 sm e2
   have ab:H2 q*>((cs.map g).map V.int):=by rw[e2,m6,m6];rfl
   have B:=sm _ _ h1;have lp:=J2.mpr hl.1;subst hR;refine bR rfl B (by decide+kernel) (bR rfl B (by decide+kernel) (kI rfl B λR=>?_))
   ctx_has v ab B
   refine⟨by simp;omega,by simp;omega,λq2 aG=>?_⟩
   refine ci dn (λv=>match v with | .int i=>.bl (decide ((cs.map g).getD i.toNat 0+gap<=(cs.map g).getD (i.toNat+1) 0)) | _=>.non) aG (λ_ _=>p_) (by rw[aS];simp;omega) ?_ ?_
   .intro x H3 Q3 Z sm3 q3
    obtain⟨i,hi,rfl⟩ : ∃i:Nat,i < cs.length - 1/\x=V.int i:=by
     simp only[xJ,i4,Kf] at Z;obtain⟨i,hi,e⟩:=Z;refine⟨i,by simp at hi;omega,by rw[<- e];simp⟩
    have h3:=sm3 _ _ ab;have a4:=sm3 _ _ B;have a1:atI ((cs.map g).map V.int) (i:Int)=some (.int ((cs.map g).getD i 0)):=cE (by simp[show i < cs.length by omega])
    have a2:atI ((cs.map g).map V.int) ((i:Int)+1)=some (.int ((cs.map g).getD (i+1) 0)):=cE (j:=i+1) (by simp[show i+1 < cs.length by omega])
    ctx_has v h3 a4 a1 a2
    exact q3 H3 (au.refl _)
   .intro H3 sm3 h3
    ctx_has v
    refine⟨(range ((cs.map g).length - 1)).map λk=>decide ((cs.map g).getD k 0+gap<=(cs.map g).getD (k+1) 0),?_,?_⟩
    .rw[h3]
     congr 2
     simp only[xJ,m6];rw[show(((cs.map (V.int ∘ g)).length:Int) - 1).toNat=(cs.map g).length - 1 by simp]
     refine q_ λi _=>?_
     simp
    .rw[zN]
     exact k H3 (sm.trans sm3)
section
variable {k2:Nat} {ps2:List Str} {sp2:Sp} {p:Pos} {t:TA}
theorem zL (F:Fn X.prog X.w X.K X.mg X.base x k ps sp) (G:Fn X.prog X.w X.K X.mg X.base x k2 ps2 sp2) (ha:PA X (e :: es) t) (hr:dg k X.A:=by exact dg.mono (by assumption) (by ctx_has m)) (Y:dg k2 X.A:=by exact dg.mono (by assumption) (by ctx_has m)) (hg:Gl X x:=by exact rfl) (B:(x ==("__debug__" : Str))=false:=by decide)
  (he:j8 (e :: es) X.env=(false,eval e X.env) :: j8 es X.env:=by rfl) (L:(y8 pos (j8 es X.env)).any (·.1)=false:=by rfl) :
  PE X (.Call (.Name x p) (e :: es) [] pos) (rX (λvs H Q E=>sp vs H Q E\/sp2 vs H Q E) [] E0 t):=by
 obtain⟨f,fd,F,m,kp,b⟩:=F;obtain⟨f2,aa,G,Z,ab,b2⟩:=G;have ef:f2=f:=by rw[m] at Z;cases Z;rfl
 subst ef;intro pins s σ H Q I h;refine x5 (lT I hg m ?_ B)
 refine Kj (h₀:=X.base) I.ok.mod.kin kp (thn (ha pos pins s σ H _ I h) λus s1 ⟨vs,H1,I1,r,q⟩=>⟨I1.kIn,?_⟩) he L
 rcases q with q | q
 .exact kT F hr b .nil pb I1 r q
 .exact kT G Y b2 .nil pb I1 r q
theorem AN (L:FnL K mg x st ps):Fn P w K mg base x k ps (λ_ _ _ _=>False):=by
 obtain⟨f,fd,F,m,b⟩:=L;exact⟨f,fd,⟨λ_ _ _ _ h=>h.elim,λ_ _ _ _ _ _ _ _ _ _ _ _ _ h=>h.elim⟩,m,F.kp,b⟩
end
abbrev HR:=Fn P w K mg base "_law_kept" 4 ["_law_wish_here","_law_filling"] (uh)
theorem ro (T:Txt w K mg) (L:FnL K mg "_law_kept" cg ["_law_wish_here","_law_filling"]) (FO : @F7 P w K mg base) : @HR P w K mg base:=by
 ctx_has z mI <;> obtain⟨w,f,c,us,W,g,rfl,Y,B,F,k⟩:=h
 .rfl
 refine⟨_,(ai (bF (aO bY (aE ba (pvM 0) ao) aJ) (ak (az (aU bY (aU gA (bQ hu (pvM 1) (aE ba (pvM 0) ao)) (aE ba (pvM 0) ao)) (aw FO (ac (aE ba (pvM 0) ao) (ac (pvM 1) af)))))) aR)
  (ai eA
  (ai eA
  (ai eA
  (ai eA
  (ai eA
  (ai eA
  (ai eA
  (ai eA
  (ak eA)))))))))),?_⟩
 obtain⟨t,u,h1,h2,h3⟩:=Y;obtain⟨kvs,f1,f2,f3,f4⟩:=F.ex;have e2:=f2 c m8;ctx_has v h1 f1 e2 h2
 refine⟨rfl,cj _,?_⟩
 rw[df];refine⟨u,f,W,g,rfl,h3,B,F.sub λc Z=>k6 _ Z,λH' s=>⟨rfl,by rw[show decide (V.bl (decide (g c∈us))=V.bl (bM W g))=dI (.sa c us W) g by simp[dI]];exact k H' s⟩⟩
def BW:Sp:=λvs H Q _=>∃(d l:Addr) (lo hi:Int),vs=[.ref d,.int lo,.int hi]/\aL H d l/\lo<=hi/\-10000000000000<=lo/\hi<=10000000000000/\∀(p:Addr) (a b:Option Int) (H':Hp),H p=none->H' p>>[bV a,bV b]->aL H' d l->But d l H H'->Q (.ref p) H'
theorem CY {a:Int} (F : -1000000<=a) (B:a<=1000000) (L : -1000000<=v) (Z:v<=1000000) : -1000000000000<=a * v:=by
 have h1:a.natAbs<=1000000:=()
 have h2:v.natAbs<=1000000:=()
 have Y:(a * v).natAbs<=1000000 * 1000000:=by rw[Int.natAbs_mul];exact Nat.mul_le_mul h1 h2
 omega
theorem BL {a:Int} (F : -1000000<=a) (B:a<=1000000) (L : -1000000<=v) (Z:v<=1000000):a * v<=1000000000000:=by
 have h1:a.natAbs<=1000000:=()
 have h2:v.natAbs<=1000000:=()
 have Y:(a * v).natAbs<=1000000 * 1000000:=by rw[Int.natAbs_mul];exact Nat.mul_le_mul h1 h2
 omega
theorem qG {D:Addr} {x:Int} {Q:VK} (h:H a>>(ns.map V.int)) (F : -1000000<=x) (L:x<=1000000) (hl:ns.length<=20) (B:H D=none) (q : ∀H',au H H'->H' D*>((ns.map λv=>x * v).map V.int)->Q (.ref D) H') :
  mt (Itt K a) [none,some (V.int x)] (gi 0) wD (tOp (rI Aq λi j=>V.int (i * j)) (dX 1) (dX 0)) Q H D:=by
 refine ci aV (λv=>match v with | .int i=>.int (x * i) | _=>.non) B (λH' s=>.of (s _ _ h)) (by simp;omega) ?_ ?_
 .intro y H2 Q2 hy sm q2
  obtain⟨z,Y,rfl⟩:=i4.mp hy;ctx_has v
  exact⟨.inl ⟨(),()⟩,q2 H2 (au.refl _)⟩
 .intro H2 sm e2
  refine q H2 sm ?_
  rw[e2,m6,m6];rfl
def Gd:Sp:=λvs H Q _=>∃(d l sa ra:Addr) (cs:List Str) (kvs:List (Key × V)) (rm:Str->List Int),vs=[.ref d,.ref sa,.ref ra]/\aL H d l/\(ra≠d/\ra≠l)/\H sa>>(cs.map V.str)/\H ra<*kvs/\aY H kvs cs rm/\cs.length<=12/\(∀c∈cs,rm c≠[]/\(rm c).length<=20/\∀v∈rm c,-1000000<=v/\v<=1000000) /\
 ∀(w:Addr) (ts:List (Int × Str)) (lo hi:Option Int) (H':Hp),H w=none->WS H' w (.sm ts lo hi)->ts.map (·.2)=cs.take 4->(∀x∈ts,-1000000<=x.1/\x.1<=1000000/\x.1≠0)->aL H' d l->But d l H H'->Q (.ref w) H'
theorem aL.tupN (D:aL H d l) (h:H a>>vs):a≠d/\a≠l:=by
 obtain⟨Y,Z,n',L,B,F,_⟩:=D.ex;exact⟨aX h B (by intro z;cases z),aX h F (by intro z;cases z)⟩
theorem But.tup {H H':Hp} {d l a:Addr} {vs:List V} (B:But d l H H') (D:aL H d l) (h:H a>>vs):H' a>>vs:=B a _ (D.tupN h).1 (D.tupN h).2 h
abbrev HP:=Fn P w K mg base "_law_bounds" 2 ["_law_deal_here","_law_low","_law_high"] (BW)
theorem qi (T:Txt w K mg) (L:FnL K mg "_law_bounds" il ["_law_deal_here","_law_low","_law_high"]) (Fa : @Dz0 P w K mg base) : @HP P w K mg base:=by
 ctx_has z qT <;> obtain⟨d,l,lo,hi,rfl,D,a0,aq,a1,k⟩:=h
 .rfl
 refine⟨_,(ai (aF 3 (aQ bf (pvM 1) (aw Fa (ac (pvM 0) (ac (aQ bf (aQ jw (pvM 2) (pvM 1)) ao) af)))))
  (ai (aF 4 (aQ bf (pvM 3) (aw Fa (ac (pvM 0) (ac (aQ bf (aQ jw (pvM 2) (pvM 3)) ao) af)))))
  (ak (az (aE jr (cA (ac (cq (ac (pvM 3) (ac (pvM 4) af))) (ac (cq (ac (pvM 3) (ac (pvM 3) af))) (ac (cq (ac (pvM 3) (ac CL af))) (ac (cq (ac CL (ac (pvM 4) af))) af))))) (aw Fa (ac (pvM 0) (ac ao af)))))))),?_⟩
 ctx_has v
 refine bp D () () λB H1 ar ay D1 B1=>?_
 ctx_has v
 refine bp D1 () () λF H2 ax ap D2 B2=>?_
 ctx_has v
 refine⟨∅,λp1 g1=>⟨∅,λp2 g2=>⟨∅,λY g3=>⟨∅,λZ g4=>⟨∅,λq gq=>?_⟩⟩⟩⟩⟩
 have s4:=(((au.upd0 (o:=.tup [.int (lo+B),.int (lo+B+F)]) g1).upd_new (o:=.tup [.int (lo+B),.int (lo+B)]) g2).upd_new (o:=.tup [.int (lo+B),.non]) g3).upd_new (o:=.tup [.non,.int (lo+B+F)]) g4;have ab:p1≠p2:=λz=>by rw[z,ae] at g2;cases g2
 have ad:p1≠Y:=λz=>by rw[<- z,ag ab,ae] at g3;cases g3
 have ah:p2≠Y:=λz=>by rw[<- z,ae] at g3;cases g3
 have an:p1≠Z:=λz=>by rw[<- z,ag ad,ag ab,ae] at g4;cases g4
 have aj:p2≠Z:=λz=>by rw[<- z,ag ah,ae] at g4;cases g4
 have am:Y≠Z:=λz=>by rw[<- z,ae] at g4;cases g4
 have h1:upd (upd (upd (upd H2 p1 (.tup [.int (lo+B),.int (lo+B+F)])) p2 (.tup [.int (lo+B),.int (lo+B)])) Y (.tup [.int (lo+B),.non])) Z (.tup [.non,.int (lo+B+F)]) p1>>[.int (lo+B),.int (lo+B+F)]:=by rw[ag an,ag ad,ag ab,ae]
 have h2:upd (upd (upd (upd H2 p1 (.tup [.int (lo+B),.int (lo+B+F)])) p2 (.tup [.int (lo+B),.int (lo+B)])) Y (.tup [.int (lo+B),.non])) Z (.tup [.non,.int (lo+B+F)]) p2>>[.int (lo+B),.int (lo+B)]:=by rw[ag aj,ag ah,ae]
 have h3:upd (upd (upd (upd H2 p1 (.tup [.int (lo+B),.int (lo+B+F)])) p2 (.tup [.int (lo+B),.int (lo+B)])) Y (.tup [.int (lo+B),.non])) Z (.tup [.non,.int (lo+B+F)]) Y>>[.int (lo+B),.non]:=by rw[ag am,ae]
 have h4:upd (upd (upd (upd H2 p1 (.tup [.int (lo+B),.int (lo+B+F)])) p2 (.tup [.int (lo+B),.int (lo+B)])) Y (.tup [.int (lo+B),.non])) Z (.tup [.non,.int (lo+B+F)]) Z>>[.non,.int (lo+B+F)]:=ae
 have f1:H p1=none:=(B1.trans B2).free D2 g1
 have f2:H p2=none:=((B1.trans B2).new g1).free (D2.new g1) g2
 have f3:H Y=none:=(((B1.trans B2).new g1).new g2).free ((D2.new g1).new g2) g3
 have f4:H Z=none:=((((B1.trans B2).new g1).new g2).new g3).free (((D2.new g1).new g2).new g3) g4
 have D4:=D2.same s4;have B4:=(B1.trans B2).same s4;generalize upd (upd (upd (upd H2 p1 (.tup [.int (lo+B),.int (lo+B+F)])) p2 (.tup [.int (lo+B),.int (lo+B)])) Y (.tup [.int (lo+B),.non])) Z (.tup [.non,.int (lo+B+F)])=H4 at gq h1 h2 h3 h4 D4 B4 ⊢;refine mf D4 gq ∅ ∅ rfl λr5 v H5 hv ha D5 B5 h5=>?_
 ctx_has v h5 ha
 have nt : ∀{p:Addr} {vs:List V},H4 p>>vs->H5 p>>vs:=λh=>B5 _ _ (D4.tupN h).1 (D4.tupN h).2 h
 have aa:=B4.trans B5;simp only[i7,n6,or_false] at hv;rcases hv with rfl | rfl | rfl | rfl
 .exact k p1 (some _) (some _) H5 f1 (nt h1) D5 aa
 .exact k p2 (some _) (some _) H5 f2 (nt h2) D5 aa
 .exact k Y (some _) none H5 f3 (nt h3) D5 aa
 .exact k Z none (some _) H5 f4 (nt h4) D5 aa
abbrev HD:=Fn P w K mg base "_law_sum" 3 ["_law_deal_here","_law_some_here","_law_rooms_here"] (Gd)
abbrev nz1:List Str:=["_law_deal_here","_law_some_here","_law_rooms_here","_law_terms","_law_low","_law_high","_law_name","_law_a"]
theorem wm (T:Txt w K mg) (L:FnL K mg "_law_sum" gB ["_law_deal_here","_law_some_here","_law_rooms_here"]) (Fa : @Dz0 P w K mg base) (Fw : @HP P w K mg base) : @HD P w K mg base:=by
  ctx_has z wp <;> obtain⟨d,l,sa,ra,cs,kvs,rm,rfl,D,aC,a4,aM,aT,bh,aW,k⟩:=h
  . rfl
  refine⟨_,(ai (aF 3 (cA af))
    (ai (aF 4 ao)
    (ai (aF 5 ao)
    (ai (bq (bT K (cM qd (pvM 1) eF (de ao))) (aA 6) (ai (aF 7 (aE jr (cA (ac ao (ac ao (ac (mL iW ao) (ac ao (ac (mL iW ao) (ac ao af))))))) (aw Fa (ac (pvM 0) (ac ao af)))))
    (ai (cJ (kF t4 t5 dW (pvM 3) (ac (cq (ac (pvM 7) (ac (pvM 6) af))) af)))
    (ai (aF 4 (aQ bf (pvM 4) (aD (nw rfl) T.b_min (ac (bj (N:=["_law_value","_law_a"]) (nt:=1) (js:=[7]) (aI nz1 (aj gB).names) (bT K (bQ hu (pvM 2) (pvM 6))) (aA 0) aP bx (aQ gC (pvM 1) (pvM 0))) af))))
    (ak (aF 5 (aQ bf (pvM 5) (aD (sQ rfl) T.b_max (ac (bj (N:=["_law_value","_law_a"]) (nt:=1) (js:=[7]) (aI nz1 (aj gB).names) (bT K (bQ hu (pvM 2) (pvM 6))) (aA 0) aP bx (aQ gC (pvM 1) (pvM 0))) af)))))))))
    (ai (Cy (aw Fw (ac (pvM 0) (ac (pvM 4) (ac (pvM 5) af)))) (gu (n:=2) rfl (bO (aA 4) (bO (aA 5) gp))))
    (ak (az (cq (ac aJ (ac (be cS T.b_tuple (ac (pvM 3) af)) (ac (pvM 4) (ac (pvM 5) af)))))))))))),?_⟩
  ctx_has v
  refine⟨∅,λp hp=>?_⟩
  have np:=D.ne hp;refine⟨_,by rw[ag (ap a4 hp)];exact a4,λq H1 hq s1=>⟨_,hq,?_⟩⟩
  rw[show gR (cs.map V.str) none (some 4)=(cs.take 4).map V.str from yp V.str cs 4] at hq
  have a7:=(au.upd0 (o:=.lst []) hp).trans s1;have D1:=D.same a7;refine bX aV (λi σ H'=>∃(as:List (Addr × Int × Str)) (lo hi:Int) (v6 v7:Option V),σ=[-d,-sa,-ra,-p,some (.int lo),some (.int hi),v6,v7]/\H' p*>(as.map λx=>V.ref x.1)/\(∀x∈as,H' x.1>>[.int x.2.1,.str x.2.2])/\as.map (·.2.2)=(cs.take 4).take i/\(∀x∈as,-1000000<=x.2.1/\x.2.1<=1000000/\x.2.1≠0)/\lo<=hi/\-(1000000000000 * (i:Int))<=lo/\hi<=1000000000000 * (i:Int)/\H' q>>((cs.take 4).map V.str)/\aL H' d l/\But d l H H')
    ⟨[],0,0,_,_,rfl,s1 _ _ ae,by simp,by simp,by simp,∅,∅,∅,hq,D1,(But.refl H).same a7⟩ (λi σ H' a5=>by obtain⟨_,_,_,_,_,_,_,_,_,_,_,_,_,h,_⟩:=a5;exact(.of h)) ?_ ?_
  . rintro i x σ H2 hi hx ⟨as,lo,a6,v6,v7,rfl,am,ay,ah,ax,a9,aS,aO,aG,D2,B2⟩
    rw[d_] at hi;obtain⟨c,aH,rfl⟩ : ∃c,(cs.take 4)[i]? = some c/\V.str c=x:=by
      rw[fx] at hx;cases e:(cs.take 4)[i]? with
      | none=>rw[e] at hx;cases hx
      | some nm=>rw[e] at hx;exact⟨nm,rfl,ge hx⟩
    have aB:c∈cs:=JK (g7 aH)
    have bi  : i < 4 := by have:(cs.take 4).length<=4:=by simp;omega
                           omega
    have bg:as.length<=i:=by
      have:=congrArg List.length ah
      rw[d_] at this;rw[this];exact List.length_take_le _ _
    ctx_has v
    refine⟨∅,λt ht=>?_⟩
    refine mf D2 ht ∅ ∅ rfl λr v H3 hv ha D3 B3 h3=>?_
    obtain⟨a,rfl,a0,a1,an⟩ : ∃a:Int,v = .int a/\-1000000<=a/\a<=1000000/\a≠0:=by
      simp only[i7,n6,or_false] at hv;rcases hv with rfl | rfl | rfl | rfl | rfl | rfl
      . exact⟨1,rfl,∅,∅,∅⟩
      . exact⟨1,rfl,∅,∅,∅⟩
      . exact⟨-1,rfl,∅,∅,∅⟩
      . exact⟨2,rfl,∅,∅,∅⟩
      . exact⟨-3,rfl,∅,∅,∅⟩
      . exact⟨1000000,rfl,∅,∅,∅⟩
    have ad:=B3 p _ np.1 np.2 am;ctx_has v h3 ha
    obtain⟨ar,a3,aR⟩:=aT c aB;have hg:=aW c aB;have rp:ra≠p:=ap aM hp
    refine⟨⟨_,ad⟩,∅,λY aa=>⟨_,(au.upd0 aa) _ _ ad,by rw[d_];exact aK (),?_⟩⟩
    have pt:p≠Y:=ap ad aa
    have aU:=(B2.trans B3).new (o:=.tup [.int a,.str c]) aa;have B4:=aU.put (o:=.lst (as.map (λx=>V.ref x.1)++[.ref Y])) hp
    have D4:=(D3.new (o:=.tup [.int a,.str c]) aa).put (o:=.lst (as.map (λx=>V.ref x.1)++[.ref Y])) np.1 np.2
    have kt : ∀b xs,H2 b>>xs->upd (upd H3 Y (.tup [.int a,.str c])) p (.lst (as.map (λx=>V.ref x.1)++[.ref Y])) b>>xs:=λb xs e=>by
      rw[ag (aX e am (by intro z;cases z))]
      exact(au.upd0 aa) _ _ (B3.tup D2 e)
    have aq:upd (upd H3 Y (.tup [.int a,.str c])) p (.lst (as.map (λx=>V.ref x.1)++[.ref Y])) Y>>[.int a,.str c]:=by rw[ag pt.symm];exact ae
    have aN:upd (upd H3 Y (.tup [.int a,.str c])) p (.lst (as.map (λx=>V.ref x.1)++[.ref Y])) p*>(as.map (λx=>V.ref x.1)++[.ref Y]):=ae
    have ab:=B4 ra _ aC.1 aC.2 aM;have B:=B4.tup D aR;generalize upd (upd H3 Y (.tup [.int a,.str c])) p (.lst (as.map (λx=>V.ref x.1)++[.ref Y]))=H4 at B4 D4 kt aq aN ab B ⊢
    have a2:(rm c).map (λv=>a * v)≠[]:=by simp;exact hg.1
    refine⟨kvs,ab,_,a3,ar,rfl,_,B,λD5 g5=>qG B a0 a1 hg.2.1 g5 λH5 s5 e5=>⟨D5,rfl,_,e5,a2,λm hm a8=>⟨kvs,s5 _ _ ab,_,a3,ar,rfl,_,s5 _ _ B,λD6 g6=>qG (s5 _ _ B) a0 a1 hg.2.1 g6 λH6 s6 e6=>⟨D6,rfl,_,e6,a2,λM hM bb=>?_⟩⟩⟩⟩
    have Z:=s5.trans s6;obtain⟨v1,aY,em⟩:=i4.mp hm;obtain⟨v2,aZ,eM⟩:=i4.mp hM;have b1:=hg.2.2 v1 aY;have b2:=hg.2.2 v2 aZ;have bd : -1000000000000<=m:=by rw[<- em];exact CY a0 a1 b1.1 b1.2
    have bk:M<=1000000000000:=by rw[<- eM];exact BL a0 a1 b2.1 b2.2
    have bc:=a8 M hM;refine⟨as++[(Y,a,c)],by rw[Z _ _ aN];simp,λx hx=>?_,?_,λx hx=>?_,(),by push_cast;omega,by push_cast;omega,Z _ _ (kt _ _ aG),D4.same Z,B4.same Z⟩
    . rcases j9.mp hx with z | z
      . exact Z _ _ (kt _ _ (ay x z))
      . rw[gr.mp z];exact Z _ _ aq
    . rw[ki,aH,t6,ah];rfl
    . rcases j9.mp hx with z | z
      . exact ax x z
      . rw[gr.mp z];exact⟨a0,a1,an⟩
  . rintro σ H2 ⟨as,lo,a6,v6,v7,rfl,am,ay,ah,ax,a9,aS,aO,aG,D2,B2⟩
    have bm:((cs.take 4).map V.str).length<=4:=by simp;omega
    rw[nH (Jz (by simp):(cs.take 4).length<=((cs.take 4).map V.str).length)] at ah
    ctx_has v
    refine⟨d,l,lo,a6,rfl,D2,a9,(),(),λu b1 b2 H3 fu ba D3 B3=>?_⟩
    have ad:=B3 p _ np.1 np.2 am;ctx_has v ba ad
    intro t ht;have s4:=au.upd0 (o:=.tup (as.map λx=>V.ref x.1)) ht
    refine⟨∅,λw hw=>?_⟩
    have s5:=s4.upd_new (o:=.tup [.str "sum",.ref t,bV b1,bV b2]) hw;have tw:t≠w:=λz=>by rw[<- z,ae] at hw;cases hw
    refine k w (as.map (·.2)) b1 b2 _ ?_ ⟨t,ae,as,by rw[ag tw,ae],rfl,λx hx=>s5 _ _ (B3.tup D2 (ay x hx))⟩ ?_ (λx hx=>?_) (D3.same s5) ((B2.trans B3).same s5)
    . exact((B2.trans B3).same s4).free (D3.same s4) hw
    . rw[m6];exact ah
    . obtain⟨y,hy,rfl⟩:=i4.mp hx
      exact ax y hy
def Dh:Sp:=λvs H Q _=>∃(d l sa B:Addr) (cs:List Str) (ns:List Int),vs=[.ref d,.ref sa,.ref B]/\aL H d l/\(B≠d/\B≠l)/\H sa>>(cs.map V.str)/\H B*>(ns.map V.int)/\ns.length=5/\cs.length<=12 /\
 ∀(p:Addr) (us:List V) (rows:List (List Int)) (H':Hp),H p=none->H' p>>us->eQ H' us rows->rows.Nodup->(∀r∈rows,r.length=cs.length)->rows.length<=7->aL H' d l->But d l H H'->Q (.ref p) H'
theorem zu {xs:List α} {r:Int} (F:0<=r) (L:r < (xs.length:Int)) (f:α->V) : ∃x∈xs,atI (xs.map f) r=some (f x):=by
 obtain⟨n,rfl⟩:=A_ F;have B:n < xs.length:=()
 exact⟨xs[n],JC B,cE (by simp[B])⟩
abbrev G7:=Fn P w K mg base "_law_rows" 2 ["_law_deal_here","_law_some_here","_law_pool_here"] (Dh)
theorem uI (T:Txt w K mg) (L:FnL K mg "_law_rows" gV ["_law_deal_here","_law_some_here","_law_pool_here"]) (Fa : @Dz0 P w K mg base) : @G7 P w K mg base:=by
 ctx_has z tZ <;> obtain⟨d,l,sa,pa,cs,ns,rfl,D,B,aq,ah,a3,a0,k⟩:=h
 .rfl
 refine⟨_,(ai (aF 3 (cA af))
  (ai (bq (dS rfl T.b_range (ac (aw Fa (ac (pvM 0) (ac ao af))) af)) (aA 4) (ai (aF 5 (be cS T.b_tuple (ac (bj (N:=["_law_name","_law_pool_here","_law_deal_here"]) (nt:=1) (js:=[2,0]) (aI ["_law_deal_here","_law_some_here","_law_pool_here","_law_rows_here","_law_k","_law_row"] (aj gV).names) (bT K (pvM 1)) (aA 0) aP bx (aE jr (pvM 1) (aw Fa (ac (pvM 2) (ac ao af))))) af)))
  (ak (bF (aO (yc (AI hr)) (pvM 5) (pvM 3)) (ak (cJ (kF t4 t5 dW (pvM 3) (ac (pvM 5) af)))) aR))))
  (ak (az (be cS T.b_tuple (ac (pvM 3) af)))))),?_⟩
 ctx_has v
 refine⟨∅,λg hg=>?_⟩
 have ng:=D.ne hg;refine bp (D.new hg) ∅ ∅ λn H1 n0 n1 D1 B1=>⟨_,rfl,(),(),?_⟩
 have ax:=((But.refl H).new (o:=.lst []) hg).trans B1;refine bX dn (λi σ H'=>∃(us:List V) (rows:List (List Int)) (v4 v5:Option V),σ=[-d,-sa,-pa,-g,v4,v5]/\H' g*>us/\eQ H' us rows/\rows.Nodup/\(∀r∈rows,r.length=cs.length)/\rows.length<=i/\aL H' d l/\But d l H H')
  ⟨[],[],_,_,rfl,B1 g _ ng.1 ng.2 ae,eQ.nil,by simp,by simp,by simp,D1,ax⟩ (λ_ _ _ _=>p_) ?_ ?_
 .rintro i x σ H2 hi hx ⟨us,rows,v4,v5,rfl,h2,hrv,hnd,hrl,hlen,D2,B2⟩
  rw[aS] at hi;have Y:=(But.keepTI B2 D).tup _ _ aq;ctx_has v Y
  intro q hq;have nq:=D2.ne hq;refine dG aV (λj ys H3=>∃vs:List Int,ys=vs.map V.int/\vs.length=j/\H3 q*>ys/\(∀b o,b≠d->b≠l->b≠q->H2 b=some o->H3 b=some o)/\aL H3 d l)
   ⟨[],rfl,rfl,ae,λb o _ _ hb e=>by rw[ag hb];exact e,D2.new hq⟩ (λj ys H3 ⟨_,_,_,h,kk,_⟩=>.of (by
    obtain⟨m',sd,n',a2,am,ar,_⟩:=D2.ex;exact kk sa _ (aX Y am (by intro z;cases z)) (aX Y ar (by intro z;cases z)) (ap Y hq) Y)) ?_ ?_
  .rintro j y ys H3 hj hy ⟨vs,rfl,hvl,h3,k3,D3⟩
   rw[d_] at hj;ctx_has v
   refine bp D3 ∅ ∅ λr4 H4 an a1 D4 B4=>?_
   have ay:=B4 pa _ B.1 B.2 (k3 pa _ B.1 B.2 (ap (B2 pa _ B.1 B.2 ah) hq) (B2 pa _ B.1 B.2 ah));obtain⟨z,_,hz⟩:=zu (xs:=ns) an () V.int
   refine⟨r4,rfl,_,ay,_,hz,B4 q _ nq.1 nq.2 h3,by rw[d_];exact aK (),vs++[z],by simp,by simp;omega,ae,λb o h1 h2 h3 e=>by rw[ag h3];exact B4 b o h1 h2 (k3 b o h1 h2 h3 e),D4.put nq.1 nq.2⟩
  .rintro ys H3 ⟨vs,rfl,hvl,h3,k3,D3⟩
   rw[d_] at hvl;ctx_has v h3
   intro t ht;have s4:au H3 (upd H3 t (.tup (vs.map V.int))):=au.upd0 ht
   have B3:But d l H2 H3:=λb o h1 h2 e=>k3 b o h1 h2 (ap e hq) e
   have ad:=(B2.trans B3).same s4;have D4:=D3.same s4;have aa:=s4 _ _ (B3 g _ ng.1 ng.2 h2);have Z:=hrv.keep λa xs e=>s4 _ _ ((But.keepTI B3 D2).tup _ _ e)
   refine xP ae aa Z ⟨_,rfl,?_⟩
   refine ft (λab=>?_) (λab=>?_)
   .have hni:vs∉rows:=by simpa using ab
    have hk : ∀a xs,upd H3 t (.tup (vs.map V.int)) a>>xs->upd (upd H3 t (.tup (vs.map V.int))) g (.lst (us++[.ref t])) a>>xs:=λa xs e=>by rw[ag (aX e aa (by intro z;cases z))];exact e
    refine⟨⟨_,aa⟩,us,aa,by rw[hrv.length];exact aK (),us++[.ref t],ae,rows++[vs],(Z.keep hk).snoc (hk _ _ ae),t_.mpr ⟨hnd,by simp,λa ha b hb e=>hni (by rw[gr.mp hb] at e;exact e ▸ ha)⟩,λr hr=>?_,by simp;omega,D4.put ng.1 ng.2,ad.put hg⟩
    rcases j9.mp hr with z | z
    .exact hrl r z
    .rw[gr.mp z];exact hvl
   .exact⟨us,aa,rows,Z,hnd,hrl,(),D4,ad⟩
 .rintro σ H2 ⟨us,rows,v4,v5,rfl,h2,hrv,hnd,hrl,hlen,D2,B2⟩
  rw[aS] at hlen;ctx_has v h2
  intro t ht;have s3:au H2 (upd H2 t (.tup us)):=au.upd0 ht
  exact k t us rows _ (B2.free D2 ht) ae (hrv.keep λa xs e=>s3 _ _ e) hnd hrl () (D2.same s3) (B2.same s3)
def jN (pool:List Int) (n:Nat):List (Int × Int):=List.flatMap (λs:Nat=>pool.map λv=>((s:Int),v)) (range n)
theorem ld (pool:List Int) (n:Nat):jN pool (n+1)=jN pool n++pool.map λv=>((n:Int),v):=by
 unfold jN;rw[List.range_succ,List.flatMap_append];simp
theorem AX {x:Int × Int} (h:x∈jN pool n):x.1 < (n:Int):=by
 unfold jN at h;obtain⟨s,B,F⟩:=mem_flatMap.mp h;obtain⟨v,_,rfl⟩:=i4.mp F;have:=Kf.mp B
 show(s:Int) < n
 omega
theorem oI {pool:List Int} (h:pool.Nodup) : ∀n,(jN pool n).Nodup
 | 0=>by simp[jN]
 | n+1=>by
  rw[ld,t_];refine⟨oI h n,G5.mpr (h.imp λB z=>B (by cases z;rfl)),λa ha b F e=>?_⟩
  subst e;obtain⟨v,_,rfl⟩:=i4.mp F;have:=AX ha
  simp at this
theorem mN (pool:List Int) : ∀n,(jN pool n).length=n * pool.length
 | 0=>by simp[jN]
 | n+1=>by rw[ld,w4,mN pool n,d_,Nat.succ_mul]
def En (x:Addr × Int × Int × Int):Int × Int:=(x.2.1,x.2.2.1)
def Bb (H:Hp) (as:List (Addr × Int × Int × Int)):Prop:=∀x∈as,H x.1>>[.int x.2.1,.int x.2.2.1,.int x.2.2.2]
def Ha:Sp:=λvs H Q _=>∃(d l sa B:Addr) (cs:List Str) (pool:List Int),vs=[.ref d,.ref sa,.ref B]/\aL H d l/\H sa>>(cs.map V.str)/\(B≠d/\B≠l)/\H B*>(pool.map V.int)/\pool.length=5/\pool.Nodup /\
 ∀(F:Addr) (ps:List (Int × Int × Int)) (es:List Int) H',H F=none->(ps.map λx=>(x.1,x.2.1)).Nodup->ps.length<=60->es.length<=60->WS H' F (.wy cs ps es)->aL H' d l->But d l H H'->Q (.ref F) H'
abbrev GL:=Fn P w K mg base "_law_way" 2 ["_law_deal_here","_law_some_here","_law_pool_here"] (Ha)
theorem wI (T:Txt w K mg) (L:FnL K mg "_law_way" iU ["_law_deal_here","_law_some_here","_law_pool_here"]) (Fa : @Dz0 P w K mg base) : @GL P w K mg base:=by
  ctx_has z uT <;> obtain⟨d,l,sa,pa,cs,pool,rfl,D,aG,ax,aB,a0,aK,k⟩:=h
  . rfl
  refine⟨_,(ai (aF 3 (aQ bf ao (aw Fa (ac (pvM 0) (ac ao af)))))
    (ai (aF 4 (cA af))
    (ai (bq (dS rfl T.b_range (ac (pvM 3) af)) (aA 5) (ak (bq (gG K (pvM 2)) (aA 6) (ak (bF (aO qJ (aw Fa (ac (pvM 0) (ac ao af))) ao) (ak (cJ (kF t4 t5 dW (pvM 4) (ac (cq (ac (pvM 5) (ac (pvM 6) (ac (aw Fa (ac (pvM 0) (ac (pvM 3) af))) af)))) af)))) aR)))))
    (ai (dP 7 (N:=["_law_state","_law_deal_here"]) (nt:=1) (js:=[0]) (aI ["_law_deal_here","_law_some_here","_law_pool_here","_law_many","_law_steps","_law_state","_law_value","_law_ends"] (aj iU).names) (dS rfl T.b_range (ac (pvM 3) af)) (aA 0) aP (fH (aO bY (aw Fa (ac (pvM 1) (ac ao af))) ao)) (pvM 0))
    (ak (az (cq (ac aJ (ac (pvM 1) (ac (be cS T.b_tuple (ac (pvM 4) af)) (ac (be cS T.b_tuple (ac (pvM 7) af)) af))))))))))),?_⟩
  ctx_has v
  refine bp D ∅ ∅ λr1 H1 ba aV D1 B1=>?_
  ctx_has v
  refine⟨∅,λp hp=>⟨(),(),?_⟩⟩
  have np:=D1.ne hp;have a5:H p=none:=by
    cases e:H p with
    | none=>rfl
    | some o=>rw[B1 p o np.1 np.2 e] at hp;cases hp
  obtain⟨n,hn⟩ : ∃n:Nat,(1+r1).toNat=n:=⟨_,rfl⟩;have aY:n<=3:=()
  rw[hn];refine bX dn (λi σ H2=>∃as v5 v6,σ=[-d,-sa,-pa,some (.int (1+r1)),-p,v5,v6,none]/\aL H2 d l/\But d l H H2/\H2 p*>(as.map λx=>V.ref x.1)/\Bb H2 as/\(as.map En).Sublist (jN pool i)) ⟨[],_,_,rfl,D1.put np.1 np.2,B1.put a5,ae,(λx Y=>by simp at Y),by simp⟩ (λi σ H' h=>p_) ?_ ?_
  . rintro i x σ H2 hi Y ⟨as,v5,v6,rfl,D2,B2,aq,hA,ah⟩
    rw[aS] at hi;rw[lH hi] at Y;cases Y;have a9:=B2 pa _ ax.1 ax.2 aB;ctx_has v a9
    refine bX cm (λj σ H3=>∃as v6,σ=[-d,-sa,-pa,some (.int (1+r1)),-p,some (.int (0+(i:Int))),v6,none]/\aL H3 d l/\But d l H H3/\H3 p*>(as.map λx=>V.ref x.1)/\Bb H3 as/\(as.map En).Sublist (jN pool i++(pool.take j).map λv=>((i:Int),v))) ⟨as,_,rfl,D2,B2,aq,hA,by simpa using ah⟩ (λj σ H' a8=>by obtain⟨_,_,_,_,B,_⟩:=a8;exact(.of (B pa _ ax.1 ax.2 aB))) ?_ ?_
    . rintro j x σ H3 hj Y ⟨as,v6,rfl,D3,B3,am,ad,Z⟩
      obtain⟨v,hv,rfl⟩ : ∃v,pool[j]? = some v/\V.int v=x:=by
        rw[fx] at Y;cases e:pool[j]? with
        | none=>rw[e] at Y;cases Y
        | some nm=>rw[e] at Y;exact⟨nm,rfl,ge Y⟩
      ctx_has v
      refine bp D3 ∅ ∅ λr4 H4 aE aN D4 B4=>?_
      ctx_has v
      have an:=B4 p _ np.1 np.2 am;have a1:Bb H4 as:=λx Y=>(But.keepTI B4 D3).tup _ _ (ad x Y)
      have ek:pool.take (j+1)=pool.take j++[v]:=by rw[ki,hv];rfl
      have aM:(as.map λx=>V.ref x.1).length < hB:=by
        have h1:=Z.length_le;rw[d_,w4,mN,a0,d_] at h1;have h2:(pool.take j).length<=5:=by rw[<- a0];exact G4 _ _
        exact hH (show(as.map λx=>V.ref x.1).length < 1000 by rw[d_];omega) ∅
      refine ft (λh=>?_) (λh=>?_)
      . refine⟨⟨_,an⟩,bp D4 () () λr5 H5 aZ aW D5 B5=>⟨∅,λtp ab=>?_⟩⟩
        have aa:=B5 p _ np.1 np.2 an;have a4:Bb H5 as:=λx Y=>(But.keepTI B5 D4).tup _ _ (a1 x Y)
        refine⟨_,(au.upd0 ab) _ _ aa,aM,(D5.new ab).put np.1 np.2,(((B3.trans B4).trans B5).new ab).put a5,as++[(tp,(i:Int),v,r5)],by rw[ae];simp,λx Y=>?_,?_⟩
        . rcases j9.mp Y with Y | Y
          . rw[ag (aX (a4 x Y) aa (by intro z;cases z))]
            exact(au.upd0 ab) _ _ (a4 x Y)
          . rw[gr.mp Y]
            show upd (upd H5 tp _) p _ tp=_
            rw[ag (k_ (ap aa ab)),ae,Int.zero_add]
        . rw[ek,t6,t6,<- append_assoc]
          exact Z.append (List.Sublist.refl _)
      . refine⟨D4,B3.trans B4,as,an,a1,Z.trans ?_⟩
        rw[ek,t6,<- append_assoc];exact List.sublist_append_left _ _
    . rintro σ H3 ⟨as,v6,rfl,D3,B3,am,ad,Z⟩
      rw[d_,m_] at Z;exact⟨as,_,_,rfl,D3,B3,am,ad,by rw[ld];exact Z⟩
  . rintro σ H2 ⟨as,v5,v6,rfl,D2,B2,aq,hA,ah⟩
    rw[aS] at ah;ctx_has v
    refine⟨(),(),λDd ar=>?_⟩
    have nD:=D2.ne ar;rw[hn];refine dG dn (λi ys H'=>∃zs:List Int,ys=zs.map V.int/\zs.length<=i/\aL H' d l/\But d l H2 H'/\H' Dd*>ys) ⟨[],rfl,by simp,D2.new ar,(But.refl H2).new ar,ae⟩ (λi ys H' h=>p_) ?_ ?_
    . rintro i x ys H3 hi Y ⟨zs,rfl,aC,D3,B3,ay⟩
      rw[aS] at hi;rw[lH hi] at Y;cases Y;ctx_has v
      refine bp D3 ∅ ∅ λr4 H4 aE aN D4 B4=>?_
      ctx_has v
      have a7:=B4 Dd _ nD.1 nD.2 ay;refine ft (λh=>?_) (λh=>?_)
      . exact⟨a7,hH (show(zs.map V.int).length < 1000 by rw[d_];omega) ∅,zs++[0+(i:Int)],by simp,by simp;omega,D4.put nD.1 nD.2,(B3.trans B4).put ar,ae⟩
      . exact⟨zs,rfl,(),D4,B3.trans B4,a7⟩
    . rintro ys H3 ⟨zs,rfl,aC,D3,B3,ay⟩
      rw[aS] at aC;have aD:=B3 p _ np.1 np.2 aq;refine⟨_,aD,λl1 g1=>⟨Dd,rfl,_,(au.upd0 g1) _ _ ay,λl2 g2=>⟨∅,λwa g3=>?_⟩⟩⟩
      have s4:au H3 (upd (upd (upd H3 l1 (.tup (as.map λx=>V.ref x.1))) l2 (.tup (zs.map V.int))) wa (.tup [.str "way",.ref sa,.ref l1,.ref l2])):=((au.upd0 g1).upd_new g2).upd_new g3
      have B4:=(B2.trans B3).same s4;have a2:=((D3.new g1).new g2).ne g3;have a6:=B2.trans B3;have aH:=ah.length_le;rw[d_,mN,a0] at aH;have a3:l1≠l2:=λz=>by rw[z,ae] at g2;cases g2
      have aT:l1≠wa:=λz=>by rw[<- z,ag a3,ae] at g3;cases g3
      have aU:l2≠wa:=λz=>by rw[<- z,ae] at g3;cases g3
      have ad:Bb H3 as:=λx Y=>(But.keepTI B3 D2).tup _ _ (hA x Y)
      refine k wa (as.map (·.2)) zs _ ?_ ?_ (by show(as.map (·.2)).length<=60;rw[d_];omega) (by show zs.length<=60;omega) ⟨sa,l1,l2,_,ae,s4 _ _ ((But.keepTI a6 D).tup _ _ aG),by rw[ag aT,ag a3];exact ae,⟨as,rfl,rfl,λx Y=>s4 _ _ (ad x Y)⟩,by rw[ag aU];exact ae⟩ (D3.same s4) B4
      . cases e:H wa with
        | none=>rfl
        | some o =>
          have z:=((au.upd0 (o:=.tup (as.map λx=>V.ref x.1)) g1).upd_new (o:=.tup (zs.map V.int)) g2) _ _ (a6 wa o a2.1 a2.2 e)
          rw[z] at g3;cases g3
      . show((as.map (·.2)).map λx=>(x.1,x.2.1)).Nodup
        rw[m6];exact(oI aK n).sublist ah
def ju (h:Bool):List Str:=("unlike" : Str) :: "many" :: "sum" :: "table" :: "way" :: "behind" ::(if h then[("same" : Str)] else[])
theorem yd (h:Bool):6<=(ju h).length/\(ju h).length<=7:=by cases h <;> exact⟨∅,∅⟩
theorem vG (ns:List Str):z_ (.list (ns.map PyData.str)) (.list [])=decide (ns=[]):=by
 cases ns with
 | nil=>rfl
 | cons n ns=>simp[z_,Ja]
def okC (ws cs:List Str):Prop:=cs≠[]/\cs.Nodup/\(∀c∈cs,c∈ws)/\cs.length<=12
def okV (ns vs:List Int):Prop:=vs.Nodup/\(∀v∈vs,v∈ns)/\vs.length<=20
def okW (ws:List Str) (ns:List Int):Wi->Prop
 | .un cs=>okC ws cs
 | .mn av cs _ _=>okC ws cs/\okV ns av
 | .sm ts _ _=>okC ws (ts.map (·.2))/\∀x∈ts,-1000000<=x.1/\x.1<=1000000/\x.1≠0
 | .tb cs rows=>okC ws cs/\rows.Nodup/\(∀r∈rows,r.length=cs.length)/\rows.length<=7
 | .wy cs ps es=>okC ws cs/\(ps.map λx=>(x.1,x.2.1)).Nodup/\ps.length<=60/\es.length<=60
 | .bh cs _=>okC ws cs
def okX (ws:List Str) (ns:List Int):Wx->Prop
 | .pl W=>okW ws ns W
 | .sa c vs W=>c∈ws/\okV ns vs/\okW ws ns W/\c∉bN W
theorem Bx {F:List Str} (h : ∀c∈ws,c∈F) : ∀{W:Wi},okW ws ns W->okW F ns W
 | .un _,⟨a,b,c,d⟩=>⟨a,b,λx B=>h x (c x B),d⟩
 | .mn _ _ _ _,⟨⟨a,b,c,d⟩,r⟩=>⟨⟨a,b,λx B=>h x (c x B),d⟩,r⟩
 | .sm _ _ _,⟨⟨a,b,c,d⟩,r⟩=>⟨⟨a,b,λx B=>h x (c x B),d⟩,r⟩
 | .tb _ _,⟨⟨a,b,c,d⟩,r⟩=>⟨⟨a,b,λx B=>h x (c x B),d⟩,r⟩
 | .wy _ _ _,⟨⟨a,b,c,d⟩,r⟩=>⟨⟨a,b,λx B=>h x (c x B),d⟩,r⟩
 | .bh _ _,⟨a,b,c,d⟩=>⟨a,b,λx B=>h x (c x B),d⟩
theorem nO : ∀{W:Wi},okW ws ns W->∀c∈bN W,c∈ws
 | .un _,⟨_,_,c,_⟩=>c
 | .mn _ _ _ _,⟨⟨_,_,c,_⟩,_⟩=>c
 | .sm _ _ _,⟨⟨_,_,c,_⟩,_⟩=>c
 | .tb _ _,⟨⟨_,_,c,_⟩,_⟩=>c
 | .wy _ _ _,⟨⟨_,_,c,_⟩,_⟩=>c
 | .bh _ _,⟨_,_,c,_⟩=>c
theorem A2 : ∀{W:Wi},okW ws ns W->szW W
 | .un _,⟨_,_,_,d⟩=>d
 | .mn _ _ _ _,⟨⟨_,_,_,d⟩,_,_,e⟩=>⟨e,d⟩
 | .sm ts _ _,⟨⟨_,_,_,d⟩,_⟩=>by simpa [szW] using d
 | .tb _ _,⟨⟨_,_,_,d⟩,_⟩=>d
 | .wy _ _ _,⟨⟨_,_,_,d⟩,e,f,_⟩=>⟨d,e,f⟩
 | .bh _ _,⟨a,_,_,d⟩=>⟨a,d⟩
theorem Ak : ∀{W:Wx},okX ws ns W->∀c∈cN W,c∈ws
 | .pl _,h=>nO h
 | .sa _ _ _,h=>λc B=>by
  rcases i7.mp B with rfl | z
  .exact h.1
  .exact nO h.2.2.1 c z
structure jq (H:Hp) (d l a ra pa:Addr) (ws:List Str) (ns:List Int) (kvs:List (Key × V)) (rm:Str->List Int):Prop where
 D:aL H d l
 na:a≠d/\a≠l
 nr:ra≠d/\ra≠l
 np:pa≠d/\pa≠l
 ha:H a*>(ws.map V.str)
 hr:H ra<*kvs
 hp:H pa*>(ns.map V.int)
 rf:aY H kvs ws rm
 wn:ws≠[]
 nd:ws.Nodup
 wl:ws.length<=12
 n5:ns.length=5
 nn:ns.Nodup
 nm : ∀c∈ws,fK c
 gd : ∀c∈ws,rm c≠[]/\(rm c).length<=20/\∀v∈rm c,-1000000<=v/\v<=1000000
theorem jq.but {L:Addr} (F:jq H d l a ra L ws ns kvs rm) (D:aL H' d l) (B:But d l H H'):jq H' d l a ra L ws ns kvs rm :=
 ⟨D,F.na,F.nr,F.np,B _ _ F.na.1 F.na.2 F.ha,B _ _ F.nr.1 F.nr.2 F.hr,B _ _ F.np.1 F.np.2 F.hp,F.rf.same λx vs e=>B.tup F.D e,F.wn,F.nd,F.wl,F.n5,F.nn,F.nm,F.gd⟩
theorem jq.same {H H':Hp} {d l a ra B:Addr} {ws:List Str} {ns:List Int} {kvs:List (Key × V)} {rm:Str->List Int} (F:jq H d l a ra B ws ns kvs rm) (s:au H H'):jq H' d l a ra B ws ns kvs rm :=
 F.but (F.D.same s) ((But.refl H).same s)
def pH (h:Bool):Sp:=λvs H Q _=>∃(d l a ra F B:Addr) (ws:List Str) (ns:List Int) (kvs:List (Key × V)) (rm:Str->List Int),vs=[.ref d,.ref a,.ref ra,.ref F,.ref B]/\jq H d l a ra F ws ns kvs rm/\(B≠d/\B≠l)/\H B*>((ju h).map V.str) /\
 ∀(w:Addr) (W:Wx) (H':Hp),WX H' w W->okX ws ns W->(h=false->∃L,W = .pl L)->aL H' d l->But d l H H'->Q (.ref w) H'
def pG (h:Bool):Sp:=if h then pH false else λ_ _ _ _=>False
theorem vS {h:Bool} {s:Str} (B:s∈ju h):s = "unlike" \/ s = "many" \/ s = "sum" \/ s = "table" \/ s = "way" \/ s = "behind" \/(h=true/\s = "same"):=by
 unfold ju at B;cases h
 .simpa using B
 .simpa using B
theorem FU {zs:List Str} (hp:(cs++zs).Perm ws) (h1:1<=cs.length) (L:ws.Nodup) (Y:ws.length<=12):okC ws cs:=by
 have F:=hp.nodup_iff.mpr L;refine⟨λe=>by rw[e] at h1;simp at h1,(t_.mp F).1,λc B=>hp.mem_iff.mp (k9 _ B),?_⟩
 have:=hp.length_eq
 rw[w4] at this;omega
theorem BR {vs zs:List Int} (hp:(vs++zs).Perm ns) (L:ns.Nodup) (Y:ns.length=5):okV ns vs:=by
 have F:=hp.nodup_iff.mpr L;refine⟨(t_.mp F).1,λc B=>hp.mem_iff.mp (k9 _ B),?_⟩
 have:=hp.length_eq
 rw[w4] at this;omega
theorem ma {h:Bool} (T:Txt w K mg) (L:FnL K mg "_law_wish" fN ["_law_deal_here","_law_names_here","_law_rooms_here","_law_pool_here","_law_sorts"]) (Fa : @Dz0 P w K mg base) (Fe : @Dz4 P w K mg base) (Fy : @HD P w K mg base) (Fu : @G7 P w K mg base) (FA : @GL P w K mg base) (FN:Fn P w K mg base "_law_wish" (n+1) ["_law_deal_here","_law_names_here","_law_rooms_here","_law_pool_here","_law_sorts"] (pG h)):Fn P w K mg base "_law_wish" (n+5) ["_law_deal_here","_law_names_here","_law_rooms_here","_law_pool_here","_law_sorts"] (pH h):=by
 ctx_has z uu <;> obtain⟨d,l,a,ra,pa,so,ws,ns,kvs,rm,rfl,M,a0,a3,k⟩:=h
 .rfl
 refine⟨_,(ai (aF 5 (aE jr (pvM 4) (aw Fa (ac (pvM 0) (ac (aD bU T.b_len (ac (pvM 4) af)) af)))))
  (ai (aF 6 (aw Fe (ac (pvM 0) (ac (pvM 1) (ac (aD (sS rfl) T.b_min (ac (aD bU T.b_len (ac (pvM 1) af)) (ac (aQ bf ao (be zy T.b_int (ac (aU bY (pvM 5) aJ) af))) af))) af)))))
  (ai (bF (aO bY (pvM 5) aJ) (ak (az (cq (ac aJ (ac (pvM 6) af))))) aR)
  (ai (bF (aO bY (pvM 5) aJ) (ai (aF 7 (aw Fa (ac (pvM 0) (ac (aQ bf (aD kf T.b_len (ac (pvM 6) af)) ao) af))))
  (ak (az (cq (ac aJ (ac (aw Fe (ac (pvM 0) (ac (pvM 3) (ac ao af)))) (ac (pvM 6) (ac (pvM 7) (ac (aQ bf (pvM 7) (aw Fa (ac (pvM 0) (ac (aQ bf (aQ jw (aD kf T.b_len (ac (pvM 6) af)) (pvM 7)) ao) af)))) af))))))))) aR)
  (ai (bF (aO bY (pvM 5) aJ) (ak (az (aw Fy (ac (pvM 0) (ac (pvM 6) (ac (pvM 2) af)))))) aR)
  (ai (bF (aO bY (pvM 5) aJ) (ak (az (cq (ac aJ (ac (pvM 6) (ac (aw Fu (ac (pvM 0) (ac (pvM 6) (ac (pvM 3) af)))) af)))))) aR)
  (ai (bF (aO bY (pvM 5) aJ) (ak (az (aw FA (ac (pvM 0) (ac (pvM 6) (ac (pvM 3) af)))))) aR)
  (ai (bF (aO bY (pvM 5) aJ) (ak (az (cq (ac aJ (ac (pvM 6) (ac (aE jr (cA (ac ao (ac ao (ac (mL iW ao) (ac ao (ac ao af)))))) (aw Fa (ac (pvM 0) (ac ao af)))) af)))))) aR)
  (ai (dP 8 (N:=["_law_name","_law_some_here"]) (nt:=1) (js:=[6]) (aI ["_law_deal_here","_law_names_here","_law_rooms_here","_law_pool_here","_law_sorts","_law_sort","_law_some_here","_law_low","_law_rest","_law_inner"] (aj fN).names) (gG K (pvM 1)) (aA 0) aP (fH (aO Bs (pvM 0) (aE ba (pvM 1) ao))) (pvM 0))
  (ai (bF (aO (pR (wr hr)) (pvM 8) (cA af)) (ak (az (cq (ac aJ (ac (pvM 6) af))))) aR)
  (ai (aF 9 (aw FN (ac (pvM 0) (ac (pvM 8) (ac (pvM 2) (ac (pvM 3) (ac (cA (ac aJ (ac aJ (ac aJ (ac aJ (ac aJ (ac aJ af))))))) af)))))))
  (ak (az (cq (ac aJ (ac (aE ba (pvM 6) ao) (ac (aw Fe (ac (pvM 0) (ac (pvM 3) (ac ao af)))) (ac (pvM 9) af)))))))))))))))))),?_⟩
 ctx_has v a3
 have bn:=yd h;refine bp M.D (by rw[d_];omega) (by rw[d_];omega) λr H1 r0 r1 D1 B1=>?_
 rw[d_] at r1;obtain⟨s,hs,bb⟩:=zu (xs:=ju h) r0 r1 V.str;have a9:=B1 so _ a0.1 a0.2 a3;have M1:=M.but D1 B1;have a6:=M1.ha;have w1:=J2.mpr M.wn;have wl:=M.wl;have n5:=M.n5;ctx_has v a9 bb a6
 obtain⟨m,hm,m1,m2⟩ : ∃m:Int,(if (1+if s=b_ "unlike" then 1 else 0) < ((ws.map V.str).length:Int) then 1+(if s=b_ "unlike" then 1 else 0) else((ws.map V.str).length:Int))=m/\1<=m/\m<=ws.length:=by
  refine⟨_,rfl,?_⟩
  rw[d_]
  split <;> split <;> constructor <;> omega
 rw[hm];refine⟨d,l,a,m,ws.map V.str,rfl,D1,.inl a6,(),by rw[d_];omega,by rw[d_];omega,λsa a2 rest H2 bj aM aN B D2 B2=>?_⟩
 obtain⟨cs,zs,rfl,aq⟩:=lZ V.str Iz (λ_=>rfl) aM
 rw[d_] at aN;have F:okC ws cs:=FU aq () M.nd M.wl
 have M2:=M1.but D2 B2;have aa:=B1.trans B2;have cl:=F.2.2.2;rcases vS hs with rfl | rfl | rfl | rfl | rfl | rfl | ⟨rfl,rfl⟩
 .ctx_has v
  refine⟨∅,λw Z=>k w (.pl (.un cs)) _ ⟨sa,ae,(au.upd0 Z) _ _ B⟩ F (λ_=>⟨_,rfl⟩) (D2.new Z) (aa.new Z)⟩
 .ctx_has v B
  rw[d_];refine bp D2 () () λr3 H3 bk bm D3 B3=>?_
  have M3:=M2.but D3 B3;refine⟨d,l,pa,0,ns.map V.int,rfl,D3,.inl M3.hp,∅,by rw[d_];omega,by rw[d_];omega,λq a2 rest H4 fq ay _ aY D4 B4=>?_⟩
  obtain⟨av,zv,rfl,ar⟩:=lZ V.int BS (λ_=>rfl) ay
  have ab:=B4.tup D3 (B3.tup D2 B);ctx_has v ab
  rw[d_];refine bp D4 () () λr5 H5 bo bi D5 B5=>?_
  ctx_has v
  refine⟨∅,λw Z=>k w (.pl (.mn av cs r3 (r3+r5))) _ ⟨q,sa,ae,(au.upd0 Z) _ _ (B5.tup D4 aY),(au.upd0 Z) _ _ (B5.tup D4 ab)⟩ ⟨F,BR ar M.nn M.n5⟩ (λ_=>⟨_,rfl⟩) (D5.new Z) ((((aa.trans B3).trans B4).trans B5).new Z)⟩
 .ctx_has v
  refine⟨d,l,sa,ra,cs,kvs,rm,rfl,D2,M.nr,B,M2.hr,λc Y=>M2.rf c (F.2.2.1 c Y),cl,λc Y=>M.gd c (F.2.2.1 c Y),λw ts lo hi H3 fw hW aZ hb D3 B3=>?_⟩
  refine k w (.pl (.sm ts lo hi)) H3 hW ⟨?_,hb⟩ (λ_=>⟨_,rfl⟩) D3 (aa.trans B3)
  rw[aZ];refine⟨?_,F.2.1.sublist (Jy _ _),λc Y=>F.2.2.1 c (JK Y),by simp;omega⟩
  intro e;have:=F.1
  cases cs with
  | nil=>exact this rfl
  | cons x xs=>simp at e
 .ctx_has v
  refine⟨d,l,sa,pa,cs,ns,rfl,D2,M.np,B,M2.hp,M.n5,cl,λp us rows H3 fp bc bd ap aV a1 D3 B3=>⟨∅,λw Z=>?_⟩⟩
  have s4:=au.upd0 (o:=.tup [.str "table",.ref sa,.ref p]) Z;exact k w (.pl (.tb cs rows)) _ ⟨sa,p,us,ae,s4 _ _ (B3.tup D2 B),s4 _ _ bc,bd.keep λb xs e=>s4 _ _ e⟩ ⟨F,ap,aV,a1⟩ (λ_=>⟨_,rfl⟩) (D3.same s4) ((aa.trans B3).same s4)
 .ctx_has v
  exact⟨d,l,sa,pa,cs,ns,rfl,D2,B,M.np,M2.hp,M.n5,M.nn,λwa ps es H3 fw ap ax aS hW D3 B3=>k wa (.pl (.wy cs ps es)) H3 hW ⟨F,ap,ax,aS⟩ (λ_=>⟨_,rfl⟩) D3 (aa.trans B3)⟩
 .ctx_has v
  refine⟨∅,λt ht=>mf D2 ht ∅ ∅ rfl λr3 v H3 hv aW D3 B3 h3=>?_⟩
  obtain⟨gap,rfl⟩ : ∃gap:Int,v = .int gap:=by
   simp only[i7,n6,or_false] at hv;rcases hv with rfl | rfl | rfl | rfl | rfl
   .exact⟨_,rfl⟩
   .exact⟨_,rfl⟩
   .exact⟨_,rfl⟩
   .exact⟨_,rfl⟩
   .exact⟨_,rfl⟩
  ctx_has v h3 aW
  refine⟨∅,λw Z=>?_⟩
  have s4:=au.upd0 (o:=.tup [.str "behind",.ref sa,.int gap]) Z;exact k w (.pl (.bh cs gap)) _ ⟨sa,ae,s4 _ _ (B3.tup D2 B)⟩ F (λ_=>⟨_,rfl⟩) (D3.same s4) ((aa.trans B3).same s4)
 .have h2a:=M2.ha
  obtain⟨c0,cr,a5⟩ : ∃c0 cr,cs=c0 :: cr:=by
   cases cs with
   | nil=>exact absurd rfl F.1
   | cons x xs=>exact⟨x,xs,rfl⟩
  have e0:atI (cs.map V.str) 0=some (.str c0):=by rw[a5];exact cE (j:=0) (by simp)
  have aL:c0∈cs:=by rw[a5];exact m8
  ctx_has v h2a
  intro R hR;have nR:=D2.ne hR;refine db cm (λv=>match v with | .str c=>!decide (c=c0) | _=>false) id hR (λH' s=>.of (s _ _ h2a)) (by simp;omega) ?_ ?_ ?_
  .intro x H3 Q3 hx sm q3
   obtain⟨y,hy,rfl⟩:=i4.mp hx;have e1:=sm _ _ B;ctx_has v e1 e0
   exact q3 H3 (au.refl _)
  .intro x H3 Q3 hx _ sm q3
   ctx_has v
   exact q3 H3 (au.refl _)
  .intro H3 sm h3
   obtain⟨rs,ag⟩ : ∃rs,ws.filter (λc=>!decide (c=c0))=rs:=⟨_,rfl⟩
   have a8:H3 R*>(rs.map V.str):=by rw[h3,map_id,JI,<- ag];rfl
   have ad : ∀c∈rs,c∈ws/\c≠c0:=λc Y=>by
    rw[<- ag] at Y;have:=E_.mp Y
    exact⟨this.1,by simpa using this.2⟩
   have aK:rs.length<=12:=by rw[<- ag];exact i8 (List.length_filter_le _ _) M.wl
   have bg:rs.Nodup:=by rw[<- ag];exact M.nd.sublist List.filter_sublist
   refine⟨∅,λe he=>?_⟩
   have s4:=au.upd0 (o:=.lst []) he;refine⟨.list (rs.map PyData.str),.list [],.lst (.of (s4 _ _ a8)) (gT.strs rs),.lst (.of ae) .nil,by unfold PyData.canLay0;exact vi λc Y=>M.nm c (ad c Y).1,rfl,by unfold KH;rw[qC];decide,_,rfl,?_⟩
   rw[vG];have an:=sm.trans s4;have D4:=D2.same an;have B4:=aa.same an;have ab:=an _ _ B;refine ft (λh0=>?_) (λh0=>?_)
   .exact⟨∅,λw Z=>k w (.pl (.un cs)) _ ⟨sa,ae,(au.upd0 Z) _ _ ab⟩ F (λ_=>⟨_,rfl⟩) (D4.new Z) (B4.new Z)⟩
   .refine⟨∅,λaX am=>?_⟩
    have aB:=D4.ne am;have aC:rs≠[]:=by simpa using h0
    have s5:=s4.upd_new (o:=.lst ((ju false).map V.str)) am;have M5:=(M2.same sm).same s5;unfold pG;rw[if_pos rfl];refine⟨d,l,R,ra,pa,aX,rs,ns,kvs,rm,rfl,⟨M5.D,nR,M.nr,M.np,s5 _ _ a8,M5.hr,M5.hp,λc Y=>M5.rf c (ad c Y).1,aC,bg,aK,M.n5,M.nn,λc Y=>M.nm c (ad c Y).1,λc Y=>M.gd c (ad c Y).1⟩,aB,ae,λu W H6 hW aT ax D6 B6=>?_⟩
    obtain⟨W0,rfl⟩:=ax rfl;have a4:=B6.tup M5.D (s5 _ _ (sm _ _ B));have aH:=(aa.same (sm.trans s5)).trans B6;have M6:=M5.but D6 B6;refine⟨_,a4,_,e0,d,l,pa,0,ns.map V.int,rfl,D6,.inl M6.hp,∅,by rw[d_];omega,by rw[d_];omega,λq a2 rest H7 fq a7 _ aG D7 B7=>⟨∅,λw Z=>?_⟩⟩
    obtain⟨vs,zv,rfl,ar⟩:=lZ V.int BS (λ_=>rfl) a7
    have s8:=au.upd0 (o:=.tup [.str "same",.str c0,.ref q,.ref u]) Z;have ah:okW rs ns W0:=aT
    refine k w (.sa c0 vs W0) _ ⟨q,u,ae,s8 _ _ aG,cL hW λb xs e=>s8 _ _ (B7.tup D6 e)⟩ ⟨F.2.2.1 c0 aL,BR ar M.nn M.n5,Bx (λc Y=>(ad c Y).1) ah,λY=>(ad c0 (nO ah c0 Y)).2 rfl⟩ (λz=>by cases z) (D7.same s8) ((aH.trans B7).same s8)
abbrev GN:=Fn P w K mg base "_law_fillings" 1 ["_law_names_here","_law_rooms_here"] (DZ)
theorem nL (T : Txt w K mg) (L:FnL K mg "_law_fillings" gb ["_law_names_here","_law_rooms_here"]) : @GN P w K mg base:=by
  ctx_has z og <;> obtain⟨a,r,cs,kvs,rm,rfl,ha,aL,aM,aJ,aP,aB,k⟩:=h
  . rfl
  refine⟨_,(ai (aF 2 (cA (ac ff af)))
    (ai (bq (gG K (pvM 0)) (aA 3) (ai (aF 4 (cA af))
    (ai (bq (gG K (pvM 2)) (aA 5) (ak (bq (bT K (bQ hu (pvM 1) (pvM 3))) (aA 6) (ai (aF 7 (be kL T.b_dict (ac (pvM 5) af)))
    (ai (ia hu (pvM 7) (pvM 3) (pvM 6) rfl)
    (ak (cJ (kF t4 t5 dW (pvM 4) (ac (pvM 7) af)))))))))
    (ak (aF 2 (pvM 4))))))
    (ak (az (pvM 2))))),?_⟩
  ctx_has v
  intro p0 a9;refine⟨∅,λp1 aw=>?_⟩
  have s1:au H (upd (upd H p0 (HO.dK [])) p1 (HO.lst [V.ref p0])):=(au.upd0 a9).upd_new aw
  have aH:p0≠p1:=by rintro rfl;rw[ae] at aw;cases aw
  refine⟨_,s1 _ _ ha,?_⟩
  refine bX cm (λi σ H'=>∃(p:Addr) (xs:List V) (v3 v4 v5 v6 v7:Option V),σ=[-a,-r,-p,v3,v4,v5,v6,v7]/\H p=none/\H' p*>xs/\yE H' xs (cs.take i) rm/\xs.length<=4 ^ i/\au H H')
    ⟨p1,[.ref p0],_,_,_,_,_,rfl,(au.upd0 a9).free aw,ae,⟨λx hx=>?_,λg _=>?_⟩,by simp,s1⟩ (λi σ H' aE=>by obtain⟨_,_,_,_,_,_,_,_,_,_,_,_,sm⟩:=aE;exact(.of (sm _ _ ha))) ?_ ?_
  . rw[gr.mp hx]
    exact⟨λ_=>0,λc hc=>by simp at hc,p0,[],rfl,by rw[ag aH];exact ae,λc hc=>by simp at hc,by simp⟩
  . exact⟨.ref p0,by simp,p0,[],rfl,by rw[ag aH];exact ae,λc hc=>by simp at hc,by simp⟩
  . rintro i x σ H2 hi hx ⟨p,xs,v3,v4,v5,v6,v7,rfl,fp,h2,fa,a1,Y⟩
    rw[d_] at hi;obtain⟨c,a3,rfl⟩ : ∃c,cs[i]? = some c/\V.str c=x:=by
      rw[fx] at hx;cases e:cs[i]? with
      | none=>rw[e] at hx;cases hx
      | some nm=>rw[e] at hx;exact⟨nm,rfl,ge hx⟩
    have a2:c∈cs:=g7 a3
    have ar:cs.take (i+1)=cs.take i++[c]:=by rw[ki,a3];rfl
    have aS:c∉cs.take i:=λhm=>by
      obtain⟨j,hj,e⟩:=v9 hm;have ah:j < i:=by simp at hj;omega
      have e2:cs[j]? = some c:=by rw[<- e,List.getElem_take];simp
      have:=fM aJ e2 a3
      omega
    obtain⟨ra,aW,a8⟩:=aM c a2;have h4:=Hs (show i<=5 by omega)
    ctx_has v
    refine⟨∅,λm hm=>?_⟩
    have pm:p≠m:=ap h2 hm
    refine⟨_,by rw[ag pm];exact h2,?_⟩
    refine bX cm (λj σ H3=>∃(ys:List V) (v5 v6 v7:Option V),σ=[-a,-r,-p,some (.str c),-m,v5,v6,v7]/\H3 m*>ys/\(∀y∈ys,∃g,okF rm (cs.take (i+1)) g/\cD H3 y (cs.take (i+1)) g) /\
        (∀j',j' < j->∀z,xs[j']? = some z->∀g,cD H2 z (cs.take i) g->∀v∈rm c,∃y∈ys,cD H3 y (cs.take (i+1)) (cy g c v))/\ys.length<=4 * j/\au H2 H3)
      ⟨[],_,_,_,rfl,ae,by simp,by simp,by simp,au.upd0 hm⟩ (λj σ H' aI=>by obtain⟨_,_,_,_,_,_,_,_,_,sm⟩:=aI;exact(.of (sm _ _ h2))) ?_ ?_
    . rintro j x σ H3 hj aG ⟨ys,v5,v6,v7,rfl,h3,B,Z,ab,am⟩
      have aT:=am _ _ (Y _ _ aL);have a7:=am _ _ (Y _ _ a8);ctx_has v aT aW a7
      refine bX aV (λe σ H4=>∃(ys:List V) (v6 v7:Option V),σ=[-a,-r,-p,some (.str c),-m,some x,v6,v7]/\H4 m*>ys/\(∀y∈ys,∃g,okF rm (cs.take (i+1)) g/\cD H4 y (cs.take (i+1)) g) /\
          (∀j',j' < j->∀z,xs[j']? = some z->∀g,cD H2 z (cs.take i) g->∀v∈rm c,∃y∈ys,cD H4 y (cs.take (i+1)) (cy g c v)) /\
          (∀v∈(rm c).take e,∀g,cD H2 x (cs.take i) g->∃y∈ys,cD H4 y (cs.take (i+1)) (cy g c v))/\ys.length<=4 * j+e/\au H2 H4)
        ⟨ys,_,_,rfl,h3,B,Z,by simp,ab,am⟩ (λe σ H' a5=>by obtain⟨_,_,_,_,_,_,_,_,_,sm⟩:=a5;exact(.of (sm _ _ (Y _ _ a8)))) ?_ ?_
      . rintro e y σ H4 he aj ⟨ys,v6,v7,rfl,an,B,Z,ad,ab,ay⟩
        rw[d_] at he;obtain⟨v,a6,rfl⟩ : ∃v,(rm c)[e]? = some v/\V.int v=y:=by
          rw[fx] at aj;cases e1:(rm c)[e]? with
          | none=>rw[e1] at aj;cases aj
          | some nm=>rw[e1] at aj;exact⟨nm,rfl,ge aj⟩
        have aQ:x∈xs:=g7 aG
        obtain⟨g0,aO,ax,kx,rfl,a0,aN,a4⟩:=fa.sound x aQ;have aC:=ay _ _ a0;have aY:kx.length<=20:=by have:=a4.1;simp at this;omega
        have aR:=aB c a2;ctx_has v aC
        intro q hq;have mq:m≠q:=ap an hq
        refine⟨_,ae,aK (),?_⟩
        have hM:upd (upd H4 q (HO.dK kx)) q (HO.dK (bv kx (i9 c) (V.int v))) m=some (HO.lst ys):=by rw[ag mq,ag mq];exact an
        have kk : ∀b aa,H4 b<*aa->upd (upd (upd H4 q (HO.dK kx)) q (HO.dK (bv kx (i9 c) (V.int v)))) m (HO.lst (ys++[V.ref q])) b<*aa:=λb aa eb=>by
          rw[ag (aX eb an (by intro z;cases z)),ag (ap eb hq),ag (ap eb hq)];exact eb
        have hQ:upd (upd (upd H4 q (HO.dK kx)) q (HO.dK (bv kx (i9 c) (V.int v)))) m (HO.lst (ys++[V.ref q])) q<*(bv kx (i9 c) (V.int v)):=by rw[ag mq.symm];exact ae
        have nf : ∀g,cD H2 (V.ref ax) (cs.take i) g->cD (upd (upd (upd H4 q (HO.dK kx)) q (HO.dK (bv kx (i9 c) (V.int v)))) m (HO.lst (ys++[V.ref q]))) (.ref q) (cs.take (i+1)) (cy g c v):=λg ⟨a',k',e1,e2,e3,_⟩=>by
          cases e1;rw[a0] at e2;cases e2;rw[ar];exact cD.put e3 a4 aS hQ
        refine⟨⟨_,hM⟩,ys,hM,rb (show ys.length<=5000 by omega) ∅,ys++[V.ref q],ae,λy hy=>?_,λj' ah z hz g hg v' aq=>?_,λv' aq g hg=>?_,by simp;omega,?_⟩
        . rcases j9.mp hy with z | z
          . obtain⟨g,h5,h6⟩:=B y z
            exact⟨g,h5,h6.keep kk⟩
          . rw[gr.mp z]
            refine⟨cy g0 c v,λc' ao=>?_,nf g0 ⟨ax,kx,rfl,a0,aN,a4⟩⟩
            rw[ar] at ao
            by_cases ec:c'=c
            . subst ec;rw[bm];exact g7 a6
            . rw[cG _ _ ec]
              rcases j9.mp ao with z | z
              . exact aO c' z
              . exact absurd (gr.mp z) ec
        . obtain⟨y,hy,hf⟩:=Z j' ah z hz g hg v' aq
          exact⟨y,k9 _ hy,hf.keep kk⟩
        . rw[ki,a6] at aq
          rcases j9.mp aq with z | z
          . obtain⟨y,hy,hf⟩:=ad v' z g hg
            exact⟨y,k9 _ hy,hf.keep kk⟩
          . have ev:v'=v:=by simpa using z
            subst ev;exact⟨.ref q,by simp,nf g hg⟩
        . intro b o eb
          have e4:=ay b o eb;rw[ag (ap eb hm),ag (ap e4 hq),ag (ap e4 hq)];exact e4
      . rintro σ H4 ⟨ys,v6,v7,rfl,an,B,Z,ad,ab,ay⟩
        rw[d_] at ad ab;rw[m_] at ad;have aR:=aB c a2;refine⟨ys,_,_,_,rfl,an,B,λj' ah z hz g hg v hv=>?_,(),ay⟩
        by_cases ej:j'=j
        . subst ej
          rw[aG] at hz;cases hz;exact ad v hv g hg
        . exact Z j' () z hz g hg v hv
    . rintro σ H3 ⟨ys,v5,v6,v7,rfl,h3,B,Z,ab,am⟩
      ctx_has v
      refine⟨(Y.free hm),ys,h3,⟨B,λg hg=>?_⟩,by rw[Nat.pow_succ];omega,Y.trans am⟩
      obtain⟨x,hx,aU⟩:=fa.comp g (λc' ao=>hg c' (by rw[ar];exact k9 _ ao))
      obtain⟨j',ah,e'⟩:=v9 hx;obtain⟨y,hy,aD⟩:=Z j' ah x (by rw[<- e'];simp) g aU (g c) (hg c (by rw[ar];simp))
      rw[zE] at aD;exact⟨y,hy,aD⟩
  . rintro σ H2 ⟨p,xs,v3,v4,v5,v6,v7,rfl,fp,h2,fa,a1,Y⟩
    rw[d_,m_] at fa;rw[d_] at a1;ctx_has v
    exact k p xs H2 fp h2 fa (i8 a1 (Hs aP)) Y
def pK (H:Hp) (vs:List V) (as:List (Addr × Str × Addr)) (rm:Str->List Int):Prop:=vs=as.map (λx=>V.ref x.1)/\∀x∈as,H x.1>>[.str x.2.1,.ref x.2.2]/\H x.2.2>>((rm x.2.1).map V.int)
theorem pK.keep (h:pK H vs as rm) (k : ∀a xs,H a>>xs->H' a>>xs):pK H' vs as rm :=
 ⟨h.1,λx B=>⟨k _ _ (h.2 x B).1,k _ _ (h.2 x B).2⟩⟩
def dY (as:List (Addr × Str × Addr)):List (Key × V):=as.map λx=>(i9 x.2.1,.ref x.2.2)
def lQ (H:Hp) (us:List V) (Ws:List Wx):Prop:=∃bs:List (Addr × Wx),us=bs.map (λx=>V.ref x.1)/\bs.map (·.2)=Ws/\∀x∈bs,WX H x.1 x.2
theorem lQ.keep {us:List V} {Ws:List Wx} (h:lQ H us Ws) (k : ∀a xs,H a>>xs->H' a>>xs):lQ H' us Ws:=by
 obtain⟨bs,h1,h2,B⟩:=h;exact⟨bs,h1,h2,λx F=>eI (B x F) k⟩
structure gf (H:Hp) (p:Addr) (c t:Addr) (vs us:List V) (as:List (Addr × Str × Addr)) (rm:Str->List Int) (Ws:List Wx):Prop where
 hp:H p>>[.ref c,.ref t]
 hc:ZTup H c vs
 ca:pK H vs as rm
 ht:H t>>us
 wa:lQ H us Ws
structure FR (as:List (Addr × Str × Addr)) (ws:List Str) (ns:List Int) (rm:Str->List Int) (Ws:List Wx):Prop where
 eq:as.map (·.2.1)=ws
 wn:ws≠[]
 nd:ws.Nodup
 wl:ws.length<=12
 nm : ∀c∈ws,fK c
 n5:ns.length=5
 ps:ns.Pairwise (· < ·)
 nb : ∀x∈ns,-1000000<=x/\x<=1000000
 gd : ∀c∈ws,rm c≠[]/\(rm c).length<=20/\(rm c).Pairwise (· < ·)/\∀v∈rm c,v∈ns
 ok : ∀W∈Ws,okX ws ns W
 wk:Ws.length<=40
theorem But.frz {H H':Hp} {d l a:Addr} {o:Obj} {u:HO} (B:But d l H H') (D:aL H d l) (h:H a=some (.frz o u)):H' a=some (.frz o u):=by
 obtain⟨Z,sd,n',Y,F,L,_⟩:=D.ex;exact B a _ (aX h F (by intro z;cases z)) (aX h L (by intro z;cases z)) h
theorem gf.but {c t:Addr} {us:List V} {Ws:List Wx} (h:gf H p c t vs us as rm Ws) (B:But d l H H') (D:aL H d l):gf H' p c t vs us as rm Ws :=
 ⟨B.tup D h.hp,h.hc.keep λo u e=>B.frz D e,h.ca.keep λa xs e=>B.tup D e,B.tup D h.ht,h.wa.keep λa xs e=>B.tup D e⟩
theorem gf.same {c t:Addr} {us:List V} {Ws:List Wx} (h:gf H p c t vs us as rm Ws) (s:au H H'):gf H' p c t vs us as rm Ws :=
 ⟨s _ _ h.hp,h.hc.keep λo u e=>s _ _ e,h.ca.keep λa xs e=>s _ _ e,s _ _ h.ht,h.wa.keep λa xs e=>s _ _ e⟩
def EL:Sp:=λvs H Q _=>∃(d l:Addr) (F B L:Int),vs=[.ref d,.int F,.int B,.int L]/\aL H d l/\1<=F/\F<=12/\1<=B/\B<=20/\0<=L/\L<=40 /\
 ∀(p c t:Addr) (ys us:List V) (as:List (Addr × Str × Addr)) (ws:List Str) (ns:List Int) (rm:Str->List Int) (Ws:List Wx) (H':Hp),gf H' p c t ys us as rm Ws->FR as ws ns rm Ws->((ws.length:Int)<=F/\∀c∈ws,((rm c).length:Int)<=B)->aL H' d l->But d l H H'->Q (.ref p) H'
abbrev Hw:=Fn P w K mg base "_law_hall" 20 ["_law_deal_here","_law_most_cells","_law_most_room","_law_most_wishes"] (EL)
abbrev nz2:List Str:=["_law_deal_here","_law_most_cells","_law_most_room","_law_most_wishes","_law_names_here","_law_pool_here","_law_rooms_here","_law_sorts","_law_wishes"]
theorem tI (T:Txt w K mg) (L:FnL K mg "_law_hall" fQ ["_law_deal_here","_law_most_cells","_law_most_room","_law_most_wishes"]) (Fa : @Dz0 P w K mg base) (FC : @Dz2 P w K mg base) (FJ:Fn P w K mg base "_law_pool" 2 ["_law_deal_here"] (yB)) (FD : @Dz3 P w K mg base) (FB:Fn P w K mg base "_law_wish" 15 ["_law_deal_here","_law_names_here","_law_rooms_here","_law_pool_here","_law_sorts"] (pH true)) : @Hw P w K mg base:=by
 ctx_has z tP <;> obtain⟨d,l,mc,mr,mw,rfl,D,c0,c1,r0,r1,w0,w1,k⟩:=h
 .rfl
 refine⟨_,(ai (aF 4 (aw FC (ac (pvM 0) (ac (aQ bf ao (aw Fa (ac (pvM 0) (ac (pvM 1) af)))) af))))
  (ai (aF 5 (aw FJ (ac (pvM 0) af)))
  (ai (aF 6 (aw FD (ac (pvM 0) (ac (pvM 4) (ac (pvM 5) (ac (pvM 2) af))))))
  (ai (aF 7 (cA (ac aJ (ac aJ (ac aJ (ac aJ (ac aJ (ac aJ (ac aJ af)))))))))
  (ai (dP 8 (N:=["_law_k","_law_deal_here","_law_names_here","_law_rooms_here","_law_pool_here","_law_sorts"]) (nt:=1) (js:=[0,4,6,5,7]) (aI nz2 (aj fQ).names) (dS rfl T.b_range (ac (aw Fa (ac (pvM 0) (ac (aQ bf (pvM 3) ao) af))) af)) (aA 0) aP bx (aw FB (ac (pvM 1) (ac (pvM 2) (ac (pvM 3) (ac (pvM 4) (ac (pvM 5) af)))))))
  (ak (az (cq (ac (be zP T.b_tuple (ac (bj (N:=["_law_name","_law_rooms_here"]) (nt:=1) (js:=[6]) (aI nz2 (aj fQ).names) (gG K (pvM 4)) (aA 0) aP bx (cq (ac (pvM 0) (ac (bQ hu (pvM 1) (pvM 0)) af)))) af)) (ac (be cS T.b_tuple (ac (pvM 8) af)) af)))))))))),?_⟩
 ctx_has v
 refine bp D () () λx1 H1 bb ba D1 B1=>?_
 ctx_has v
 refine⟨d,l,_,rfl,D1,(),(),λca ws H2 aY ok aC h2 D2 B2=>?_⟩
 have B:=D1.ne aY;ctx_has v
 refine⟨d,l,rfl,D2,λpa ns H3 aM a2 an aG aE D3 B3=>?_⟩
 have Y:=D2.ne aM;have h3:=B3 ca _ B.1 B.2 h2;ctx_has v
 refine⟨d,l,ca,pa,ws,ns,mr,rfl,D3,B,Y,h3,(),aE,a2,an,r0,r1,λra kvs rm H4 aN aT aO a0 bh bg D4 B4=>?_⟩
 have ay:=D3.ne aN;ctx_has v El
 refine⟨∅,λso ax=>?_⟩
 have aa:=D4.ne ax;refine bp (D4.new ax) () () λx5 H5 bd bc D5 B5=>⟨_,rfl,(),(),λWd ah=>?_⟩
 have nW:=D5.ne ah;have ab:=((But.refl H4).new ax).trans B5;have a9:H5 so*>((ju true).map V.str):=B5 so _ aa.1 aa.2 ae
 have aB:ws≠[]:=λe=>by rw[e] at aC;simp at aC;omega
 have M5:jq H5 d l ca ra pa ws ns kvs rm:=⟨D5,B,ay,Y,ab _ _ B.1 B.2 (B4 _ _ B.1 B.2 h3),ab _ _ ay.1 ay.2 aT,ab _ _ Y.1 Y.2 (B4 _ _ Y.1 Y.2 aE),aO.same λx vs e=>ab.tup D4 e,aB,ok.nd,(),a2,an.imp λh=>by omega,ok.nm,λc hc=>by
  obtain⟨g1,g2,g3,g4⟩:=a0 c hc;exact⟨g1,(),λv hv=>aG v (g4 v hv)⟩⟩
 refine dG dn (λj ys H'=>∃bs:List (Addr × Wx),ys=bs.map (λx=>V.ref x.1)/\bs.length=j/\H' Wd*>ys/\(∀x∈bs,WX H' x.1 x.2/\okX ws ns x.2)/\aL H' d l/\But d l H5 H')
  ⟨[],rfl,rfl,ae,by simp,D5.new ah,(But.refl H5).new ah⟩ (λ_ _ _ _=>p_) ?_ ?_
 .rintro j x ys H6 hj F ⟨bs,rfl,hbl,h6W,hbs,D6,B6⟩
  rw[aS] at hj;ctx_has v
  refine⟨d,l,ca,ra,pa,so,ws,ns,kvs,rm,rfl,M5.but D6 B6,aa,B6 so _ aa.1 aa.2 a9,λw W H7 hW aR _ D7 B7=>?_⟩
  have ad:=B7 Wd _ nW.1 nW.2 h6W;have kt : ∀b xs,H7 b>>xs->upd H7 Wd (.lst (bs.map (λx=>V.ref x.1)++[.ref w])) b>>xs:=λb xs e=>by rw[ag (aX e ad (by intro z;cases z))];exact e
  refine⟨ad,by rw[d_];exact aK (),bs++[(w,W)],by simp,by simp;omega,ae,λx F=>?_,D7.put nW.1 nW.2,(B6.trans B7).put ah⟩
  rcases j9.mp F with z | z
  .exact⟨eI (hbs x z).1 λb xs e=>kt _ _ (B7.tup D6 e),(hbs x z).2⟩
  .rw[gr.mp z];exact⟨eI hW kt,aR⟩
 .rintro ys H6 ⟨bs,rfl,hbl,h6W,hbs,D6,B6⟩
  rw[aS] at hbl;have M6:=M5.but D6 B6;refine⟨_,M6.ha,λCd Z=>?_⟩
  have am:=M6.hr;refine dG cm (λj ys H'=>∃as:List (Addr × Str × Addr),ys=as.map (λx=>V.ref x.1)/\as.map (·.2.1)=ws.take j/\(∀x∈as,H' x.1>>[.str x.2.1,.ref x.2.2]/\H' x.2.2>>((rm x.2.1).map V.int))/\H' Cd*>ys/\(∀b o,b≠Cd->H6 b=some o->H' b=some o))
   ⟨[],rfl,rfl,by simp,ae,λb o hb e=>by rw[ag hb];exact e⟩ (λj ys H' a6=>by obtain⟨_,_,_,_,_,kk⟩:=a6;exact(.of (kk _ _ (ap M6.ha Z) M6.ha))) ?_ ?_
  .rintro j x ys H7 hj F ⟨as,rfl,hnm,has,h7C,k7⟩
   rw[d_] at hj;obtain⟨c,aD,rfl⟩ : ∃c,ws[j]? = some c/\V.str c=x:=by
    rw[fx] at F;cases e:ws[j]? with
    | none=>rw[e] at F;cases F
    | some nm=>rw[e] at F;exact⟨nm,rfl,ge F⟩
   have aU:c∈ws:=g7 aD
   obtain⟨ar,aH,a5⟩:=M6.rf c aU;have a3:=k7 _ _ (ap am Z) am;have a4:=k7 _ _ (ap a5 Z) a5;have aZ:as.length<=j:=by
    have:=congrArg List.length hnm
    rw[d_] at this;rw[this];exact List.length_take_le _ _
   ctx_has v a3 aH
   refine⟨∅,λt ht=>?_⟩
   have s8:=au.upd0 (o:=.tup [.str c,.ref ar]) ht;have a8:=s8 _ _ h7C;have kt : ∀b xs,upd H7 t (.tup [.str c,.ref ar]) b>>xs->upd (upd H7 t (.tup [.str c,.ref ar])) Cd (.lst (as.map (λx=>V.ref x.1)++[.ref t])) b>>xs:=λb xs e=>by rw[ag (aX e a8 (by intro z;cases z))];exact e
   refine⟨a8,by rw[d_];exact aK (by have:=M5.wl;omega),as++[(t,c,ar)],by simp,?_,λx F=>?_,ae,λb o hb e=>by rw[ag hb];exact s8 _ _ (k7 b o hb e)⟩
   .rw[t6,hnm,ki,aD];rfl
   .rcases j9.mp F with z | z
    .exact⟨kt _ _ (s8 _ _ (has x z).1),kt _ _ (s8 _ _ (has x z).2)⟩
    .rw[gr.mp z];exact⟨kt _ _ ae,kt _ _ (s8 _ _ a4)⟩
  .rintro ys H7 ⟨as,rfl,hnm,has,h7C,k7⟩
   rw[d_,m_] at hnm;have ad:=k7 _ _ (ap h6W Z) h6W;refine⟨Cd,rfl,_,h7C,λcz o a7 aW=>⟨Wd,rfl,_,(au.upd0 a7) _ _ ad,λtz a1=>⟨∅,λp hp=>?_⟩⟩⟩
   have s8:=((au.upd0 (o:=.frz o (.tup (as.map λx=>V.ref x.1))) a7).upd_new (o:=.tup (bs.map λx=>V.ref x.1)) a1).upd_new (o:=.tup [.ref cz,.ref tz]) hp
   have aV:au H6 H7:=λb o e=>k7 b o (ap e Z) e
   have aq:=aV.trans s8;have ct:cz≠tz:=λz=>by rw[z,ae] at a1;cases a1
   have cp:cz≠p:=λz=>by rw[<- z,ag ct,ae] at hp;cases hp
   have tp:tz≠p:=λz=>by rw[<- z,ae] at hp;cases hp
   refine k p cz tz _ _ as ws ns rm (bs.map (·.2)) _ ⟨ae,⟨o,aW,by rw[ag cp,ag ct,ae]⟩,⟨rfl,λx F=>⟨s8 _ _ (has x F).1,s8 _ _ (has x F).2⟩⟩,by rw[ag tp,ae],⟨bs,rfl,rfl,λx F=>eI (hbs x F).1 λb xs e=>aq _ _ e⟩⟩
    ⟨hnm,aB,ok.nd,(),ok.nm,a2,an,aG,λc hc=>?_,λW hW=>?_,by rw[d_];omega⟩ ⟨(),λc hc=>(by obtain⟨g1,g2,g3,g4⟩:=a0 c hc;omega)⟩ (D6.same aq) ((((((B1.trans B2).trans B3).trans B4).trans ab).trans B6).same aq)
   .obtain⟨g1,g2,g3,g4⟩:=a0 c hc
    exact⟨g1,(),g3,g4⟩
   .obtain⟨x,F,rfl⟩:=i4.mp hW
    exact(hbs x F).2
def yq:Sp:=λvs H Q _=>∃(b c:Bool),vs=[.bl b,.bl c]/\Q (.bl (decide (b=c))) H
theorem vO (h:okF rm cs g) (ne : ∀c∈ws,rm c≠[]) : ∃g',okF rm ws g'/\∀c∈cs,g' c=g c:=by
 refine⟨λc=>if c∈cs then g c else(rm c).headD 0,λc B=>?_,λc B=>if_pos B⟩
 by_cases F:c∈cs
 .show(if c∈cs then g c else(rm c).headD 0)∈rm c
  rw[if_pos F];exact h c F
 .show(if c∈cs then g c else(rm c).headD 0)∈rm c
  rw[if_neg F];cases e:rm c with
  | nil=>exact absurd e (ne c B)
  | cons x xs=>simp
theorem dJ (h:n<=4):n < 1000:=()
theorem zD (a b c d:Str) (x y z u:V):(ck a x []).length<=4:=by have:=eE a x [];simp at this;omega
theorem zC (a b c d:Str) (x y z u:V):(ck b y (ck a x [])).length<=4:=by have:=eE a x [];have:=eE b y (ck a x []);simp at *;omega
theorem DG (a b c d:Str) (x y z u:V):(ck c z (ck b y (ck a x []))).length<=4:=by have:=eE a x [];have:=eE b y (ck a x []);have:=eE c z (ck b y (ck a x []));simp at *;omega
theorem Ih (a b c d:Str) (x y z u:V):(ck d u (ck c z (ck b y (ck a x [])))).length<=4:=by have:=eE a x [];have:=eE b y (ck a x []);have:=eE c z (ck b y (ck a x []));have:=eE d u (ck c z (ck b y (ck a x [])));simp at *;omega
def dA (mg:Str->Option Value) (C:Str):Sp:=λvs H Q _=>∃(p dx:Addr) (fs:List (Str × V)) (w:V),vs=[.ref p,w]/\H p=some (.ins (ah mg C) dx fs)/\fs.length < 1000/\Q .non (upd H p (.ins (ah mg C) dx (ck "wish" w fs)))
def HW (mg:Str->Option Value) (C:Str) (H:Hp) (p w:Addr):Prop:=∃dx fs,H p=some (.ins (ah mg C) dx fs)/\fs.lookup (b_ "wish")=some (.ref w)/\fs.lookup (b_ "kept")=none
abbrev ri:=List Str × Int
def ka (dat:ri):List Str:=dat.1
def ET (dat:ri):Prop:=dat.1≠[]/\dat.1.Nodup/\dat.1.length<=12
def CB (dat:ri) (g:Str->Int):Bool:=chB dat.2 (dat.1.map g)
def WSB (H:Hp) (w:Addr) (dat:ri):Prop:=∃c,H w>>[.str "behind",.ref c,.int dat.2]/\H c>>(dat.1.map V.str)
def OBB (mg:Str->Option Value) (H:Hp) (p:Addr) (dat:ri):Prop:=∃dx fs w c,H p=some (.ins (ah mg "Behind") dx fs)/\WSB H w dat/\H c>>(dat.1.map V.str)/\fs.lookup (b_ "wish")=some (.ref w)/\fs.lookup (b_ "cells")=some (.ref c)/\fs.lookup (b_ "gap")=some (.int dat.2) /\
 fs.lookup (b_ "kept")=none/\fs.lookup (b_ "may_keep")=none/\fs.lookup (b_ "may_break")=none
theorem zr {dat:ri} (h:OBB mg H p dat) : ∃dx fs,H p=some (.ins (ah mg "Behind") dx fs)/\fs.lookup (b_ "kept")=none/\fs.lookup (b_ "may_keep")=none/\fs.lookup (b_ "may_break")=none:=by
 obtain⟨dx,fs,w,c,h1,h2,B,_,_,_,r⟩:=h;exact⟨dx,fs,h1,r⟩
structure Bc (mg:Str->Option Value) (H:Hp) (p r:Addr) (dat:ri) (kvs:List (Key × V)) (rm:Str->List Int):Prop where
 ob:OBB mg H p dat
 rd:H r<*kvs
 rf:aY H kvs (ka dat) rm
 ok:ET dat
 ne : ∀c∈ka dat,rm c≠[]/\(rm c).length<=10/\(rm c).Pairwise (· < ·)
def dO (mg:Str->Option Value):Sp:=λvs H Q _=>∃(p r:Addr) (dat:ri) (kvs:List (Key × V)) (rm:Str->List Int),vs=[.ref p,.ref r]/\Bc mg H p r dat kvs rm/\∀(b:Bool) H',(b=true↔∃g,okF rm (ka dat) g/\CB dat g=true)->au H H'->Q (.bl b) H'
def cX (mg:Str->Option Value):Sp:=λvs H Q _=>∃(p r:Addr) (dat:ri) (kvs:List (Key × V)) (rm:Str->List Int),vs=[.ref p,.ref r]/\Bc mg H p r dat kvs rm/\∀(b:Bool) H',(b=true↔∃g,okF rm (ka dat) g/\CB dat g=false)->au H H'->Q (.bl b) H'
def zh (mg:Str->Option Value) (C:Str):Sp:=λvs H Q _=>∃(p dx w:Addr) (dat:ri),vs=[.ref p,.ref w]/\H p=some (.ins (ah mg C) dx [])/\WSB H w dat/\∀H',OBB mg H' p dat->gK p H H'->Q .non H'
theorem CP {L:Int} (B:(c :: cs).Nodup) (hm:m∈rm c) (Z:L+gap<=m) (F : ∀v∈rm c,L+gap<=v->m<=v) :
  (∃g,okF rm (c :: cs) g/\chB gap (L ::(c :: cs).map g)=true)↔∃g,okF rm cs g/\chB gap (m :: cs.map g)=true:=by
 rw[m7] at B
 constructor
 .rintro⟨g,h1,h2⟩
  rw[i_,gH,l_,decide_eq_true_eq] at h2;exact⟨g,λx Y=>h1 x (k6 _ Y),wg (F _ (h1 c (by simp)) h2.1) h2.2⟩
 .rintro⟨g,h1,h2⟩
  have e:cs.map (cy g c m)=cs.map g:=q_ λx Y=>cG _ _ (λz=>B.1 (z ▸ Y))
  refine⟨cy g c m,λx Y=>?_,?_⟩
  .by_cases z:x=c
   .subst z;rw[bm];exact hm
   .rw[cG _ _ z];exact h1 x ((i7.mp Y).resolve_left z)
  .rw[i_,bm,e,gH,l_,decide_eq_true_eq]
   exact⟨Z,h2⟩
theorem zA (B:(c :: cs).Nodup) (Y:m∈rm c) (F : ∀v∈rm c,m<=v) :
  (∃g,okF rm (c :: cs) g/\chB gap ((c :: cs).map g)=true)↔∃g,okF rm cs g/\chB gap (m :: cs.map g)=true:=by
 rw[m7] at B
 constructor
 .rintro⟨g,h1,h2⟩
  exact⟨g,λx L=>h1 x (k6 _ L),wg (F _ (h1 c (by simp))) h2⟩
 .rintro⟨g,h1,h2⟩
  have e:cs.map (cy g c m)=cs.map g:=q_ λx L=>cG _ _ (λz=>B.1 (z ▸ L))
  refine⟨cy g c m,λx L=>?_,?_⟩
  .by_cases z:x=c
   .subst z;rw[bm];exact Y
   .rw[cG _ _ z];exact h1 x ((i7.mp L).resolve_left z)
  .rw[i_,bm,e]
   exact h2
def Gu (rm:Str->List Int) (gap:Int) (cs:List Str) (j:Nat):Prop:=∃i,i < j/\∃c B,cs[i]? = some c/\cs[i+1]? = some B/\∃M∈rm c,∃m∈rm B,m < M+gap
theorem qh {gap:Int} : ∀{vs:List Int},chB gap vs=false->∃i,∃a b,vs[i]? = some a/\vs[i+1]? = some b/\b < a+gap
 | [],h=>by cases h
 | [a],h=>by cases h
 | a :: b :: r,h=>by
  rw[gH,Ke] at h;rcases h with h | h
  .exact⟨0,a,b,rfl,rfl,by simpa using h⟩
  .obtain⟨i,x,y,h1,h2,h3⟩:=qh h
   exact⟨i+1,x,y,by simpa using h1,by simpa using h2,h3⟩
theorem yT {gap:Int} : ∀{vs:List Int} {i:Nat} {a b:Int},vs[i]? = some a->vs[i+1]? = some b->b < a+gap->chB gap vs=false
 | [],i,a,b,h,_,_=>by simp at h
 | [x],i,a,b,_,h,_=>by simp at h
 | x :: y :: r,0,a,b,h1,h2,h3=>by
  simp at h1 h2
  subst h1;subst h2;rw[gH,Ke];exact .inl (by simpa using h3)
 | x :: y :: r,i+1,a,b,h1,h2,h3=>by
  rw[gH,Ke];exact .inr (yT (vs:=y :: r) (i:=i) (by simpa using h1) (by simpa using h2) h3)
theorem zK (Z:cs.Nodup) (Y : ∀c∈cs,rm c≠[]) :
  (∃i c B,cs[i]? = some c/\cs[i+1]? = some B/\∃M∈rm c,∃m∈rm B,m < M+gap)↔∃g,okF rm cs g/\chB gap (cs.map g)=false:=by
 constructor
 .rintro⟨i,c,B,h1,h2,M,hM,m,hm,hlt⟩
  have L:c≠B:=λe=>by
   subst e;have:=fM Z h1 h2
   omega
  obtain⟨g,F,_⟩:=vO (rm:=rm) (cs:=[]) (g:=λ_=>0) (λc hc=>by simp at hc) Y
  refine⟨cy (cy g c M) B m,λx hx=>?_,?_⟩
  .by_cases e:x=B
   .subst e;rw[bm];exact hm
   .rw[cG _ _ e]
    by_cases e2:x=c
    .subst e2;rw[bm];exact hM
    .rw[cG _ _ e2];exact F x hx
  .refine yT (i:=i) (a:=M) (b:=m) ?_ ?_ hlt
   .rw[fx,h1,Kk,cG _ _ L,bm]
   .rw[fx,h2,Kk,bm]
 .rintro⟨g,F,hb⟩
  obtain⟨i,a,b,h1,h2,h3⟩:=qh hb;rw[fx] at h1 h2;cases e1:cs[i]? with
  | none=>rw[e1] at h1;cases h1
  | some c =>
   cases e2:cs[i+1]? with
   | none=>rw[e2] at h2;cases h2
   | some B =>
    rw[e1] at h1;rw[e2] at h2;have h1:=ge h1;have h2:=ge h2;exact⟨i,c,B,e1,e2,g c,F c (g7 e1),g B,F B (g7 e2),()⟩
theorem lL (T:Txt w K mg) (L:bW K (gJ K (ah mg "Wish") "__init__") "__init__" "Wish.__init__" bz ["self","wish"]):FnR P w K mg base (gJ K (ah mg "Wish") "__init__") 1 ["self","wish"] (dA mg "Behind"):=by
 ctx_has z bP <;> obtain⟨p,dx,fs,w,rfl,hp,B,k⟩:=h
 .rfl
 refine⟨_,(ak (bA T.cl_Behind T.no_Behind_wish (pvM 0) (pvM 1) rfl)),?_⟩
 ctx_has v hp
 exact⟨B,k⟩
theorem kP (T:Txt w K mg) (L:bW K (Mk K (ah mg "Behind")) "__init__" "Behind.__init__" fb ["self","wish"]) (B:FnR P w K mg base (gJ K (ah mg "Wish") "__init__") 1 ["self","wish"] (dA mg "Behind")):FnR P w K mg base (Mk K (ah mg "Behind")) 2 ["self","wish"] (zh mg "Behind"):=by
 ctx_has z lg <;> obtain⟨p,dx,w,dat,rfl,hp,hW,k⟩:=h
 .rfl
 refine⟨_,(ai (cJ (iR B (hr.mono (by ctx_has m)) rfl T.at_Wish (ac (pvM 0) (ac (pvM 1) af))))
  (ai (bA T.cl_Behind T.no_Behind_cells (pvM 0) (aE ba (pvM 1) ao) rfl)
  (ak (bA T.cl_Behind T.no_Behind_gap (pvM 0) (aE ba (pvM 1) ao) rfl)))),?_⟩
 obtain⟨cs,gap⟩:=dat;obtain⟨c,Z,h2⟩:=hW;ctx_has v Z
 have F:w≠p:=aX Z hp (by intro z;cases z)
 have Y:c≠p:=aX h2 hp (by intro z;cases z)
 refine⟨p,dx,[],.ref w,rfl,hp,∅,?_⟩
 ctx_has v ae
 refine⟨_,by rw[ag F];exact Z,?_⟩
 ctx_has v
 refine⟨dJ (zD _ "" "" "" _ .non .non .non),_,by rw[ag F,ag F];exact Z,?_⟩
 ctx_has v
 refine⟨dJ (zC _ _ "" "" _ _ .non .non),k _ ⟨dx,_,w,c,ae,⟨c,by rw[ag F,ag F,ag F];exact Z,by rw[ag Y,ag Y,ag Y];exact h2⟩,by rw[ag Y,ag Y,ag Y];exact h2,?_⟩ ?_⟩
 .simp only[br,dB,String.reduceEq,if_true,if_false,true_and,Je,and_self]
 .intro b o hb e
  rw[ag hb,ag hb,ag hb];exact e
theorem lA (T:Txt w K mg) (L:bW K (aC K (ah mg "Behind") "may_keep") "may_keep" "Behind.may_keep" dz ["self","rooms"]):FnR P w K mg base (aC K (ah mg "Behind") "may_keep") 22 ["self","rooms"] (dO mg):=by
 ctx_has z ln <;> obtain⟨p,r,dat,kvs,rm,rfl,M,k⟩:=h
 .rfl
 refine⟨_,(ai (aF 2 (aD (su rfl) T.b_min (ac (bQ hu (pvM 1) (aE ba (aM T.cl_Behind T.no_Behind_cells (pvM 0)) ao)) af)))
  (ai (bq (bT K (cM qd (aM T.cl_Behind T.no_Behind_cells (pvM 0)) (de ao) eF)) (aA 3) (ai (dP 4 (N:=["value","least","self"]) (nt:=1) (js:=[2,0]) (aI ["self","rooms","least","cell","enough"] (aj dz).names) (bT K (bQ hu (pvM 1) (pvM 3))) (aA 0) aP (fH (aO jY (aQ bf (pvM 1) (aM T.cl_Behind T.no_Behind_gap (pvM 2))) (pvM 0))) (pvM 0))
  (ai (bF (aO bY (aD bU T.b_len (ac (pvM 4) af)) ao) (ak (az cR)) aR)
  (ak (aF 2 (aD (nw rfl) T.b_min (ac (pvM 4) af)))))))
  (ak (az cR)))),?_⟩
 obtain⟨dx,fs,w,c,h1,h2,h3,l1,l2,l3,l4⟩:=M.ob;obtain⟨cs,gap⟩:=dat;have F:=M.ok;have Y:=M.ne;have aa:=M.rf;simp only[ka,ET] at F Y aa h3 l2 l3 k;cases cs with
 | nil=>exact absurd rfl F.1
 | cons c0 cs =>
  obtain⟨a0,ax,a6⟩:=aa c0 (by simp)
  have Z:=M.rd;ctx_has v h1 l2 l3 h3 Z ax a6
  refine⟨rm c0,rfl,(Y c0 (by simp)).1,λm0 ay ad=>?_⟩
  ctx_has v h1 l2 l3 h3 Z
  intro p2 H2 e2 s2
  replace e2:H2 p2>>(cs.map V.str):=by
   rw[e2];exact congrArg (λz=>some (HO.tup z)) (iO V.str (c0 :: cs) 1)
  ctx_has v e2
  refine bX aV (λi σ H3=>∃(L:Int) (v3 v4:Option V),σ=[-p,-r,some (.int L),v3,v4]/\au H2 H3/\((∃g,okF rm (c0 :: cs) g/\chB gap ((c0 :: cs).map g)=true)↔∃g,okF rm (cs.drop i) g/\chB gap (L ::(cs.drop i).map g)=true))
   ⟨m0,_,_,rfl,au.refl _,zA F.2.1 ay ad⟩ (λi σ H' aq=>by obtain⟨_,_,_,_,sm,_⟩:=aq;exact(.of (sm _ _ e2))) ?_ ?_
  .rintro i x σ H3 hi hx ⟨L,v3,v4,rfl,sm3,hiff⟩
   rw[d_] at hi;obtain⟨B,ab,rfl⟩ : ∃B,cs[i]? = some B/\V.str B=x:=by
    rw[fx] at hx;cases e:cs[i]? with
    | none=>rw[e] at hx;cases hx
    | some nm=>rw[e] at hx;exact⟨nm,rfl,ge hx⟩
   have an:B∈c0 :: cs:=k6 _ (g7 ab)
   have ed:cs.drop i=B :: cs.drop (i+1):=by
    rw[List.drop_eq_getElem_cons hi];rw[o9 hi] at ab;rw[ge ab]
   have ag:(B :: cs.drop (i+1)).Nodup:=by rw[<- ed];exact(m7.mp F.2.1).2.sublist (List.drop_sublist _ _)
   obtain⟨a1,a2,a5⟩:=aa B an;have ar:=sm3 _ _ (s2 _ _ h1);have a7:=sm3 _ _ (s2 _ _ Z);have ap:=sm3 _ _ (s2 _ _ a5);ctx_has v a7 a2 ap
   intro q hq;refine db aV (λv=>match v with | .int v=>decide (L+gap<=v) | _=>false) id hq (λH' s=>.of (s _ _ ap)) (by have:=Y B an;simp;omega) ?_ ?_ ?_
   .intro x H4 Q4 hx sm q4
    obtain⟨y,hy,rfl⟩:=i4.mp hx;have e1:=sm _ _ ar;ctx_has v e1 l3
    exact q4 H4 (au.refl _)
   .intro x H4 Q4 hx _ sm q4
    ctx_has v
    exact q4 H4 (au.refl _)
   .intro H4 sm4 h4
    have a4:H4 q*>(((rm B).filter λv=>decide (L+gap<=v)).map V.int):=by
     rw[h4,JI,m6];rfl
    ctx_has v a4
    refine ft (λh0=>?_) (λh0=>?_)
    .refine k false H4 ?_ ((s2.trans sm3).trans sm4)
     simp only[h9,false_iff];intro hg;obtain⟨g,g1,g2⟩:=hiff.mp hg;rw[ed,i_,gH,l_,decide_eq_true_eq] at g2;have:g B∈(rm B).filter λv=>decide (L+gap<=v):=E_.mpr ⟨g1 B (by rw[ed];simp),by simpa using g2.1⟩
     have:=Jo this
     simp only[d_] at h0;omega
    .refine⟨_,rfl,λhn=>h0 (by rw[hn];rfl),λm hm am=>?_⟩
     obtain⟨a8,aw⟩:=E_.mp hm;refine⟨sm3.trans sm4,?_⟩
     refine Iff.trans hiff ?_
     rw[ed];exact CP ag a8 (by simpa using aw) λv hv a3=>am v (E_.mpr ⟨hv,by simpa using a3⟩)
  .rintro σ H3 ⟨L,v3,v4,rfl,sm3,hiff⟩
   rw[d_,List.drop_length] at hiff;ctx_has v
   refine k true H3 ?_ (s2.trans sm3)
   simp only[true_iff];exact hiff.mpr ⟨λ_=>0,λc hc=>by simp at hc,rfl⟩
theorem ku (T:Txt w K mg) (L:bW K (aC K (ah mg "Behind") "may_break") "may_break" "Behind.may_break" da ["self","rooms"]):FnR P w K mg base (aC K (ah mg "Behind") "may_break") 22 ["self","rooms"] (cX mg):=by
 ctx_has z ky <;> obtain⟨p,r,dat,kvs,rm,rfl,M,k⟩:=h
 .rfl
 refine⟨_,(ai (aF 2 (xn rfl rfl T.b_list rfl T.b_zip (ac (aM T.cl_Behind T.no_Behind_cells (pvM 0)) (ac (cM qd (aM T.cl_Behind T.no_Behind_cells (pvM 0)) (de ao) eF) af))))
  (ak (az (aD (gy rfl) T.b_any (ac (bj (N:=["ahead","later","rooms","self"]) (nt:=2) (js:=[1,0]) (aI ["self","rooms","pairs"] (aj da).names) (gG K (pvM 2)) (gu (n:=2) rfl (bO (aA 0) (bO (aA 1) gp))) iQ bx (aU qJ (aQ bf (aD (Av rfl) T.b_max (ac (bQ hu (pvM 2) (pvM 0)) af)) (aM T.cl_Behind T.no_Behind_gap (pvM 3))) (aD (su rfl) T.b_min (ac (bQ hu (pvM 2) (pvM 1)) af)))) af))))),?_⟩
 obtain⟨dx,fs,w,c,h1,h2,h3,l1,l2,l3,l4⟩:=M.ob;obtain⟨cs,gap⟩:=dat;have ar:=M.ok;have F:=M.ne;have ad:=M.rf;have a2:=M.rd;simp only[ka,ET] at ar F ad h3 l2 l3 k;ctx_has v h1 l2 h3
 intro p2 H2 e2 s2;rw[show gR (cs.map V.str) (some 1) none=(cs.drop 1).map V.str from iO V.str cs 1] at e2
 have a3:=s2 _ _ h3;ctx_has v a3 e2
 refine⟨by rw[d_];omega,λpl ts H3 s3 aO ay hp=>?_⟩
 have B:=s2.trans s3;have a1:=B _ _ h1;have aJ:=B _ _ a2;ctx_has v ay
 intro q hq;have aN:ts.length=cs.length - 1:=by rw[hp.1];simp
 refine dG cm (λj ys H4=>∃bs:List Bool,ys=bs.map V.bl/\bs.length=j/\(true∈bs↔Gu rm gap cs j)/\H4 q*>ys/\au H3 H4)
  ⟨[],rfl,rfl,⟨λh=>by simp at h,λa0=>by obtain⟨i,hi,_⟩:=a0;exact(absurd hi ())⟩,ae,au.upd0 hq⟩ (λj ys H' ax=>by obtain⟨_,_,_,_,_,sm⟩:=ax;exact(.of (sm _ _ ay))) ?_ ?_
 .rintro j x ys H4 hj hx ⟨bs,rfl,hbl,hiff,h4,sm4⟩
  rw[d_] at hj;obtain⟨t,aB,rfl⟩ : ∃t,ts[j]? = some t/\V.ref t=x:=by
   rw[fx] at hx;cases e:ts[j]? with
   | none=>rw[e] at hx;cases hx
   | some nm=>rw[e] at hx;exact⟨nm,rfl,ge hx⟩
  obtain⟨ca,Y⟩ : ∃ca,cs[j]? = some ca:=⟨cs[j]'(),by simp⟩
  obtain⟨cb,Z⟩ : ∃cb,cs[j+1]? = some cb:=⟨cs[j+1]'(),by simp⟩
  have ht:=hp.2 j t (.str ca) (.str cb) aB (by rw[fx,Y];rfl) (by rw[fx,List.getElem?_drop,Nat.add_comm,Z];rfl)
  have aE:=sm4 _ _ ht;have am:ca∈cs:=g7 Y
  have aq:cb∈cs:=g7 Z
  obtain⟨aa,aL,a5⟩:=ad ca am;obtain⟨ab,aG,a8⟩:=ad cb aq;have a7:=sm4 _ _ aJ;have a6:=sm4 _ _ (B _ _ a5);have aH:=sm4 _ _ (B _ _ a8);have a4:=sm4 _ _ a1;ctx_has v aE a7 aL aG a6 aH a4 l3
  refine⟨rm ca,rfl,(F ca am).1,λM hM aw=>⟨rm cb,rfl,(F cb aq).1,λm hm an=>?_⟩⟩
  refine⟨h4,by rw[d_];exact aK (),bs++[decide (M+gap > m)],by simp,by simp;omega,?_,ae,λb o e=>by rw[ag (ap e hq)];exact sm4 _ _ e⟩
  constructor
  .intro hb
   rcases j9.mp hb with z | z
   .obtain⟨i,hi,r⟩:=hiff.mp z
    exact⟨i,(),r⟩
   .exact⟨j,(),ca,cb,Y,Z,M,hM,m,hm,by simpa using (gr.mp z).symm⟩
  .rintro⟨i,hi,c1,c2,e1,e2,M',hM',m',hm',hlt⟩
   by_cases a9:i=j
   .subst a9
    rw[Y] at e1;rw[Z] at e2;cases e1;cases e2;have:=aw M' hM'
    have:=an m' hm'
    exact p9 _ (gr.mpr (by simp;omega))
   .exact k9 _ (hiff.mpr ⟨i,(),c1,c2,e1,e2,M',hM',m',hm',hlt⟩)
 .rintro ys H4 ⟨bs,rfl,hbl,hiff,h4,sm4⟩
  rw[d_] at hbl hiff;ctx_has v
  refine⟨bs,h4,k _ H4 ?_ (B.trans sm4)⟩
  refine Iff.trans ?_ (zK (gap:=gap) ar.2.1 λc hc=>(F c hc).1)
  have:bs.any id=true↔true∈bs:=by simp
  rw[this,hiff]
  constructor
  .rintro⟨i,hi,r⟩
   exact⟨i,r⟩
  .rintro⟨i,c1,c2,e1,e2,r⟩
   refine⟨i,?_,c1,c2,e1,e2,r⟩
   have:=(g_.mp e2).1
   omega
def dL (rm:Str->List Int) (cs:List Str):List (List Int):=cs.foldl (λps c=>ps.flatMap λp=>(rm c).map λv=>p++[v]) [[]]
theorem qN (rm:Str->List Int):dL rm []=[[]]:=rfl
theorem jO (rm:Str->List Int) (cs:List Str) (c:Str):dL rm (cs++[c])=(dL rm cs).flatMap λp=>(rm c).map λv=>p++[v]:=by simp[dL,foldl_append]
def zT (rm:Str->List Int) (cs:List Str) (p:List Int):Prop:=p.length=cs.length/\∀(i:Nat) c v,cs[i]? = some c->p[i]? = some v->v∈rm c
theorem nY {P:List α->Prop} (B:P []) (F : ∀l a,P l->P (l++[a])) (l:List α):P l:=by
 rw[<- List.reverse_reverse l]
 induction l.reverse with
 | nil=>exact B
 | cons a r L=>rw[List.reverse_cons];exact F _ _ L
theorem lx (cs:List Str) : ∀{p:List Int},p∈dL rm cs↔zT rm cs p:=by
 refine nY (P:=λcs=>∀{p:List Int},p∈dL rm cs↔zT rm cs p) ?_ ?_ cs
 .intro p
  rw[qN,gr]
  constructor
  .rintro rfl;exact⟨rfl,λi c v e=>by simp at e⟩
  .intro h;exact List.length_eq_zero_iff.mp h.1
 .intro cs c ih p
  rw[jO,mem_flatMap]
  constructor
  .rintro⟨q,hq,hp⟩
   obtain⟨v,F,rfl⟩:=i4.mp hp;obtain⟨h1,h2⟩:=ih.mp hq;refine⟨by simp[h1],λi x u e1 e2=>?_⟩
   by_cases hi:i < cs.length
   .rw[tj hi] at e1
    rw[tj (by rw[h1];exact hi)] at e2
    exact h2 i x u e1 e2
   .have hl:=(g_.mp e1).1
    have B:i=cs.length:=by simp at hl;omega
    subst B;rw[t7 (i6 _),sub_self] at e1;rw[<- h1,t7 (i6 _),sub_self] at e2;cases e1;cases e2;exact F
  .rintro⟨h1,h2⟩
   rcases Ki p with rfl | ⟨q,v,rfl⟩
   .simp at h1
   .have hql:q.length=cs.length:=by simpa using h1
    refine⟨q,ih.mpr ⟨hql,λi x u e1 e2=>h2 i x u ?_ ?_⟩,i4.mpr ⟨v,?_,by simp⟩⟩
    .rw[tj (g_.mp e1).1];exact e1
    .rw[Jx,tj (g_.mp e2).1];exact e2
    .exact h2 cs.length c v (by simp) (by rw[Jx,<- hql];simp)
theorem lY (cs:List Str):(dL rm cs).length=(cs.map λc=>(rm c).length).foldl (· * ·) 1:=by
 refine nY (P:=λcs=>(dL rm cs).length=(cs.map λc=>(rm c).length).foldl (· * ·) 1) ?_ ?_ cs
 .rfl
 .intro cs c ih
  rw[jO,t6,foldl_append,<- ih];have F : ∀ps:List (List Int),(ps.flatMap λp=>(rm c).map λv=>p++[v]).length=ps.length * (rm c).length:=λps=>by
   induction ps with
   | nil=>simp
   | cons p ps B=>rw[List.flatMap_cons,w4,d_,x4,Nat.succ_mul,B];omega
  rw[F];rfl
theorem ur (cs:List Str):(∀c∈cs,(rm c).Nodup)->(dL rm cs).Nodup:=by
 refine nY (P:=λcs=>(∀c∈cs,(rm c).Nodup)->(dL rm cs).Nodup) ?_ ?_ cs
 .intro _;rw[qN];simp
 .intro cs c ih h
  rw[jO];have h1:=ih λx hx=>h x (k9 _ hx)
  have h2:=h c (by simp)
  generalize dL rm cs=ps at h1
  induction ps with
  | nil=>simp
  | cons p ps B =>
   rw[m7] at h1;rw[List.flatMap_cons,t_];refine⟨?_,B h1.2,λa ha b F e=>?_⟩
   .clear B
    generalize rm c=vs at h2
    induction vs with
    | nil=>simp
    | cons v vs L =>
     rw[m7] at h2;rw[i_,m7];refine⟨λZ=>?_,L h2.2⟩
     obtain⟨u,hu,e⟩:=i4.mp Z;have:=List.append_inj_right' e rfl
     simp at this
     exact h2.1 (this ▸ hu)
   .obtain⟨v,_,rfl⟩:=i4.mp ha
    obtain⟨q,Y,F⟩:=mem_flatMap.mp F;obtain⟨u,_,rfl⟩:=i4.mp F;have:=List.append_inj_left' e rfl
    exact h1.1 (this ▸ Y)
theorem vg (h:okF rm cs g):zT rm cs (cs.map g):=⟨by simp,λi c v e1 e2=>by
 rw[fx,e1] at e2;cases e2;exact h c (g7 e1)⟩
theorem wG {p:List Int} (F:cs.Nodup) (h:zT rm cs p) : ∃g,okF rm cs g/\cs.map g=p:=by
 refine⟨λc=>p.getD (cs.idxOf c) 0,λc L=>?_,?_⟩
 .have hl:=List.idxOf_lt_length_iff.mpr L
  have hp:cs.idxOf c < p.length:=by rw[h.1];exact hl
  have e1:cs[cs.idxOf c]? = some c:=by rw[o9 hl];simp
  have e2:p[cs.idxOf c]? = some (p.getD (cs.idxOf c) 0):=by simp[o9 hp]
  exact h.2 _ c _ e1 e2
 .apply List.ext_getElem?
  intro i;rw[fx]
  by_cases hi:i < cs.length
  .rw[o9 hi,Kk]
   have B:cs.idxOf cs[i]=i:=by
    have hl:=List.idxOf_lt_length_iff.mpr (JC hi);have e1:cs[cs.idxOf cs[i]]? = some cs[i]:=by rw[o9 hl];simp
    exact fM F e1 (by simp)
   rw[B];have hp:i < p.length:=by rw[h.1];exact hi
   simp[o9 hp]
  .rw[List.getElem?_eq_none (),List.getElem?_eq_none (by rw[h.1];omega)]
   rfl
abbrev jp:=List Str × List (List Int)
def iY (dat:jp):List Str:=dat.1
def DJ (dat:jp):Prop:=dat.1≠[]/\dat.1.Nodup/\dat.1.length<=12/\dat.2.Nodup/\(∀r∈dat.2,r.length=dat.1.length)/\dat.2.length<=60
def jv (dat:jp) (g:Str->Int):Bool:=decide (dat.1.map g∈dat.2)
def WST (H:Hp) (w:Addr) (dat:jp):Prop:=∃c t vs,H w>>[.str "table",.ref c,.ref t]/\H c>>(dat.1.map V.str)/\H t>>vs/\eQ H vs dat.2
theorem BV {w:Addr} {dat:jp} (h:WST H w dat) (k:fk H H'):WST H' w dat:=by
 obtain⟨c,t,vs,h1,h2,B,F⟩:=h;exact⟨c,t,vs,k.tup _ _ h1,k.tup _ _ h2,k.tup _ _ B,F.keep k.tup⟩
def OBT (mg:Str->Option Value) (H:Hp) (p:Addr) (dat:jp):Prop:=∃dx fs w c t vs,H p=some (.ins (ah mg "Table") dx fs)/\WST H w dat/\H c>>(dat.1.map V.str)/\H t>>vs/\eQ H vs dat.2/\fs.lookup (b_ "wish")=some (.ref w)/\fs.lookup (b_ "cells")=some (.ref c)/\fs.lookup (b_ "rows")=some (.ref t) /\
 fs.lookup (b_ "kept")=none/\fs.lookup (b_ "may_keep")=none/\fs.lookup (b_ "may_break")=none/\fs.lookup (b_ "has_room")=none/\fs.lookup (b_ "rows_in")=none
theorem CO {dat:jp} (h:OBT mg H p dat) (k:fk H H'):OBT mg H' p dat:=by
 obtain⟨dx,fs,w,c,t,vs,h1,h2,F,L,B,r⟩:=h;exact⟨dx,fs,w,c,t,vs,k.ins _ _ _ _ h1,BV h2 k,k.tup _ _ F,k.tup _ _ L,B.keep k.tup,r⟩
theorem yw {dat:jp} (h:OBT mg H p dat) : ∃dx fs,H p=some (.ins (ah mg "Table") dx fs)/\fs.lookup (b_ "kept")=none/\fs.lookup (b_ "may_keep")=none/\fs.lookup (b_ "may_break")=none:=by
 obtain⟨dx,fs,w,c,t,vs,h1,h2,Z,h4,Y,_,_,_,B,F,L,_⟩:=h;exact⟨dx,fs,h1,B,F,L⟩
structure kM (mg:Str->Option Value) (H:Hp) (p r:Addr) (dat:jp) (kvs:List (Key × V)) (rm:Str->List Int):Prop where
 ob:OBT mg H p dat
 rd:H r<*kvs
 rf:aY H kvs (iY dat) rm
 ok:DJ dat
 ne : ∀c∈iY dat,rm c≠[]/\(rm c).length<=10/\(rm c).Pairwise (· < ·)
theorem kM.same {mg:Str->Option Value} {H H':Hp} {p r:Addr} {dat:jp} {kvs:List (Key × V)} {rm:Str->List Int} (h:kM mg H p r dat kvs rm) (s:au H H'):kM mg H' p r dat kvs rm :=
 ⟨CO h.ob (au.keepTI s),s _ _ h.rd,h.rf.same (λa vs e=>s _ _ e),h.ok,h.ne⟩
def dH (mg:Str->Option Value):Sp:=λvs H Q _=>∃(p r:Addr) (dat:jp) (kvs:List (Key × V)) (rm:Str->List Int),vs=[.ref p,.ref r]/\kM mg H p r dat kvs rm/\∀(b:Bool) H',(b=true↔∃g,okF rm (iY dat) g/\jv dat g=true)->au H H'->Q (.bl b) H'
def cY (mg:Str->Option Value):Sp:=λvs H Q _=>∃(p r:Addr) (dat:jp) (kvs:List (Key × V)) (rm:Str->List Int),vs=[.ref p,.ref r]/\kM mg H p r dat kvs rm/\∀(b:Bool) H',(b=true↔∃g,okF rm (iY dat) g/\jv dat g=false)->au H H'->Q (.bl b) H'
def yX (mg:Str->Option Value) (C:Str):Sp:=λvs H Q _=>∃(p dx w:Addr) (dat:jp),vs=[.ref p,.ref w]/\H p=some (.ins (ah mg C) dx [])/\WST H w dat/\∀H',OBT mg H' p dat->gK p H H'->Q .non H'
theorem vm (l:List Int):l.map (BS ∘ V.int)=l:=(q_ (g:=id) λ_ _=>rfl).trans (map_id l)
def gI (rm:Str->List Int) (cs:List Str) (r:List Int):Bool:=(zipWith (λc v=>decide (v∈rm c)) cs r).all id
theorem iu {rm:Str->List Int} : ∀{cs:List Str} {r:List Int},r.length=cs.length->(gI rm cs r=true↔zT rm cs r)
 | [],[],_=>by simp[gI,zT]
 | [],_ :: _,h=>by simp at h
 | _ :: _,[],h=>by simp at h
 | c :: cs,v :: r,h=>by
  have B:=iu (rm:=rm) (cs:=cs) (r:=r) (by simpa using h)
  have e:gI rm (c :: cs) (v :: r)=(decide (v∈rm c) && gI rm cs r):=by simp[gI]
  rw[e,l_,decide_eq_true_eq,B]
  constructor
  .rintro⟨h1,h2,h3⟩
   refine⟨by simp[h2],λi x u e1 e2=>?_⟩
   cases i with
   | zero=>simp at e1 e2;subst e1;subst e2;exact h1
   | succ i=>exact h3 i x u (by simpa using e1) (by simpa using e2)
  .rintro⟨h2,h3⟩
   exact⟨h3 0 c v rfl rfl,by simpa using h2,λi x u e1 e2=>h3 (i+1) x u (by simpa using e1) (by simpa using e2)⟩
def BY (mg:Str->Option Value):Sp:=λvs H Q _=>∃(p t r:Addr) (dat:jp) (kvs:List (Key × V)) (rm:Str->List Int) (B:List Int),vs=[.ref p,.ref t,.ref r]/\kM mg H p r dat kvs rm/\H t>>(B.map V.int)/\∀H',au H H'->Q (.bl (gI rm (iY dat) B)) H'
def mS (mg:Str->Option Value):Sp:=λvs H Q _=>∃(p r:Addr) (dat:jp) (kvs:List (Key × V)) (rm:Str->List Int),vs=[.ref p,.ref r]/\kM mg H p r dat kvs rm/\∀(l:Addr) (vs:List V) H',au H H'->H' l*>vs->vs.length=(dat.2.filter (gI rm dat.1)).length->Q (.ref l) H'
theorem xI {dat:jp} (B:DJ dat):0 < (dat.2.filter (gI rm dat.1)).length↔∃g,okF rm dat.1 g/\jv dat g=true:=by
 constructor
 .intro h
  obtain⟨r,Y⟩:=List.exists_mem_of_length_pos h;obtain⟨h1,h2⟩:=E_.mp Y;obtain⟨g,L,F⟩:=wG B.2.1 ((iu (B.2.2.2.2.1 r h1)).mp h2);exact⟨g,L,by unfold jv;rw[F];simpa using h1⟩
 .rintro⟨g,L,F⟩
  have Z:dat.1.map g∈dat.2:=by simpa [jv] using F
  exact Jo (E_.mpr ⟨Z,(iu (by simp)).mpr (vg L)⟩)
theorem vT {dat:jp} (F:DJ dat) (ac : ∀c∈dat.1,(rm c).Nodup):(dat.2.filter (gI rm dat.1)).length < (dL rm dat.1).length↔∃g,okF rm dat.1 g/\jv dat g=false:=by
 have af:(dat.2.filter (gI rm dat.1)).Nodup:=F.2.2.2.1.sublist List.filter_sublist
 have aa : ∀r∈dat.2.filter (gI rm dat.1),r∈dL rm dat.1:=λr Z=>by
  obtain⟨h1,h2⟩:=E_.mp Z;exact(lx dat.1).mpr ((iu (F.2.2.2.2.1 r h1)).mp h2)
 constructor
 .intro h
  have : ∃p∈dL rm dat.1,p∉dat.2.filter (gI rm dat.1):=by
   refine p6 λab=>?_
   have L : ∀p∈dL rm dat.1,p∈dat.2.filter (gI rm dat.1):=λp hp=>p6 λhn=>ab ⟨p,hp,hn⟩
   have:=fj (ur dat.1 ac) L
   omega
  obtain⟨p,hp,ad⟩:=this;have B:=(lx dat.1).mp hp;obtain⟨g,g1,g2⟩:=wG F.2.1 B;refine⟨g,g1,?_⟩
  unfold jv;rw[g2,decide_eq_false_iff_not];exact λhm=>ad (E_.mpr ⟨hm,(iu B.1).mpr B⟩)
 .rintro⟨g,g1,g2⟩
  have hm:dat.1.map g∉dat.2:=by simpa [jv] using g2
  have hp:dat.1.map g∈dL rm dat.1:=(lx dat.1).mpr (vg g1)
  have Y:(dat.1.map g :: dat.2.filter (gI rm dat.1)).Nodup:=m7.mpr ⟨λhx=>hm (E_.mp hx).1,af⟩
  have:=fj Y (λr Z=>by
   rcases i7.mp Z with rfl | Z
   .exact hp
   .exact aa r Z)
  simp at this
  omega
theorem mi (T:Txt w K mg) (L:bW K (gJ K (ah mg "Wish") "__init__") "__init__" "Wish.__init__" bz ["self","wish"]):FnR P w K mg base (gJ K (ah mg "Wish") "__init__") 1 ["self","wish"] (dA mg "Table"):=by
 ctx_has z bP <;> obtain⟨p,dx,fs,w,rfl,hp,B,k⟩:=h
 .rfl
 refine⟨_,(ak (bA T.cl_Table T.no_Table_wish (pvM 0) (pvM 1) rfl)),?_⟩
 ctx_has v hp
 exact⟨B,k⟩
theorem mK (T:Txt w K mg) (L:bW K (Mk K (ah mg "Table")) "__init__" "Table.__init__" fB ["self","wish"]) (B:FnR P w K mg base (gJ K (ah mg "Wish") "__init__") 1 ["self","wish"] (dA mg "Table")):FnR P w K mg base (Mk K (ah mg "Table")) 2 ["self","wish"] (yX mg "Table"):=by
 ctx_has z mF <;> obtain⟨p,dx,w,dat,rfl,hp,hW,k⟩:=h
 .rfl
 refine⟨_,(ai (cJ (iR B (hr.mono (by ctx_has m)) rfl T.at_Wish (ac (pvM 0) (ac (pvM 1) af))))
  (ai (bA T.cl_Table T.no_Table_cells (pvM 0) (aE ba (pvM 1) ao) rfl)
  (ak (bA T.cl_Table T.no_Table_rows (pvM 0) (aE ba (pvM 1) ao) rfl)))),?_⟩
 obtain⟨cs,rows⟩:=dat;obtain⟨c,tr,vs,Y,h2,h3,h4⟩:=hW;ctx_has v Y
 have Z:w≠p:=aX Y hp (by intro z;cases z)
 have pt : ∀b xs,H b>>xs->b≠p:=λb xs e=>aX e hp (by intro z;cases z)
 refine⟨p,dx,[],.ref w,rfl,hp,∅,?_⟩
 ctx_has v ae
 refine⟨_,by rw[ag Z];exact Y,?_⟩
 ctx_has v
 refine⟨dJ (zD _ "" "" "" _ .non .non .non),_,by rw[ag Z,ag Z];exact Y,?_⟩
 ctx_has v
 have F : ∀b xs o1 o2 o3,H b>>xs->upd (upd (upd H p o1) p o2) p o3 b>>xs:=λb xs o1 o2 o3 e=>by rw[ag (pt b xs e),ag (pt b xs e),ag (pt b xs e)];exact e
 refine⟨dJ (zC _ _ "" "" _ _ .non .non),k _ ⟨dx,_,w,c,tr,vs,ae,⟨c,tr,vs,F _ _ _ _ _ Y,F _ _ _ _ _ h2,F _ _ _ _ _ h3,h4.keep λa xs e=>F _ _ _ _ _ e⟩,F _ _ _ _ _ h2,F _ _ _ _ _ h3,h4.keep λa xs e=>F _ _ _ _ _ e,?_⟩ ?_⟩
 .simp only[br,dB,String.reduceEq,if_true,if_false,true_and,Je,and_self]
 .intro b o hb e
  rw[ag hb,ag hb,ag hb];exact e
theorem lS (T:Txt w K mg) (L:bW K (aC K (ah mg "Table") "has_room") "has_room" "Table.has_room" dQ ["self","row","rooms"]):FnR P w K mg base (aC K (ah mg "Table") "has_room") 1 ["self","row","rooms"] (BY mg):=by
 ctx_has z lX <;> obtain⟨p,t,r,dat,kvs,rm,ad,rfl,M,ht,k⟩:=h
 .rfl
 refine⟨_,(ak (az (aD (jZ rfl) T.b_all (ac (bj (N:=["cell","value","rooms"]) (nt:=2) (js:=[2]) (aI ["self","row","rooms"] (aj dQ).names) (Bp (K:=K) rfl rfl T.b_zip (ac (aM T.cl_Table T.no_Table_cells (pvM 0)) (ac (pvM 1) af))) (gu (n:=2) rfl (bO (aA 0) (bO (aA 1) gp))) iQ bx (aU gA (pvM 1) (bQ hu (pvM 2) (pvM 0)))) af)))),?_⟩
 obtain⟨dx,fs,w,c,tr,vs,h1,h2,h3,h4,h5,l1,l2,l3,l4⟩:=M.ob;obtain⟨cs,rows⟩:=dat;have B:=M.rf;have aa:=M.rd;have Z:=M.ok;simp only[iY,DJ] at Z B h3 l2 k;ctx_has v h1 l2 h3 ht
 intro q hq;refine tm (λx y=>match x,y with | .str c,.int v=>.bl (decide (v∈rm c)) | _,_=>.non) hq h3 ht (by rw[d_];omega) ?_ ?_
 .intro x y H3 Q3 hx hy sm q3
  obtain⟨cx,ab,rfl⟩:=i4.mp hx;obtain⟨y,_,rfl⟩:=i4.mp hy;obtain⟨a1,Y,F⟩:=B cx ab;have e1:=sm _ _ aa;have e2:=sm _ _ F;ctx_has v e1 Y e2
  refine⟨rfl,cj _,?_⟩
  rw[df];exact q3 H3 (au.refl _)
 .intro H3 sm h3'
  ctx_has v
  refine⟨zipWith (λc v=>decide (v∈rm c)) cs ad,?_,k H3 sm⟩
  rw[h3',List.map_zipWith,List.zipWith_map]
theorem oh (T:Txt w K mg) (L:bW K (aC K (ah mg "Table") "rows_in") "rows_in" "Table.rows_in" eD ["self","rooms"]) (B:FnR P w K mg base (aC K (ah mg "Table") "has_room") 1 ["self","row","rooms"] (BY mg)):FnR P w K mg base (aC K (ah mg "Table") "rows_in") 2 ["self","rooms"] (mS mg):=by
 ctx_has z no <;> obtain⟨p,r,dat,kvs,rm,rfl,M,k⟩:=h
 .rfl
 refine⟨_,(ak (az (bj (N:=["row","self","rooms"]) (nt:=1) (js:=[0,1]) (aI ["self","rooms"] (aj eD).names) (bT K (aM T.cl_Table T.no_Table_rows (pvM 0))) (aA 0) aP (fH (fU (bS T.cl_Table B (hr.mono (by ctx_has m)) (pvM 1) (ac (pvM 0) (ac (pvM 2) af))))) (pvM 0)))),?_⟩
 obtain⟨dx,fs,w,c,tr,vs,h1,h2,h3,h4,h5,l1,l2,l3,l4,l5,l6,l7,l8⟩:=M.ob;have Y:=M.ok;ctx_has v h1 l3 h4
 intro q hq;obtain⟨as,rfl,e2,Z⟩:=h5;refine db aV (λv=>match v with | .ref a=>(match H a with | some (.tup xs)=>gI rm dat.1 (xs.map BS) | _=>false) | _=>false) id hq (λH' s=>.of (s _ _ h4)) (by have:=Y.2.2.2.2.2;rw[e2] at this;simp at this ⊢;omega) ?_ ?_ ?_
 .intro x H4 Q4 F sm q4
  obtain⟨y,hy,rfl⟩:=i4.mp F;have g1:=sm _ _ h1;ctx_has v g1 l7
  refine⟨p,y.1,r,dat,kvs,rm,y.2,rfl,M.same sm,sm _ _ (Z y hy),λH5 s5=>?_⟩
  have:=q4 H5 s5
  simp only[Z y hy,m6] at this;rw[vm] at this;exact⟨_,rfl,this⟩
 .intro x H4 Q4 F _ sm q4
  ctx_has v
  exact q4 H4 (au.refl _)
 .intro H4 sm h4'
  refine k q _ H4 sm h4' ?_
  rw[d_,JI,d_,e2,JI,d_]
  congr 1
  refine List.filter_congr λx F=>?_
  simp only[Function.comp_apply,Z x F,m6];rw[vm]
theorem lW (T:Txt w K mg) (L:bW K (aC K (ah mg "Table") "may_keep") "may_keep" "Table.may_keep" fA ["self","rooms"]) (B:FnR P w K mg base (aC K (ah mg "Table") "rows_in") 2 ["self","rooms"] (mS mg)):FnR P w K mg base (aC K (ah mg "Table") "may_keep") 22 ["self","rooms"] (dH mg):=by
 ctx_has z mm <;> obtain⟨p,r,dat,kvs,rm,rfl,M,k⟩:=h
 .rfl
 refine⟨_,(ak (az (aU qJ (aD bU T.b_len (ac (bS T.cl_Table B (hr.mono (by ctx_has m)) (pvM 0) (ac (pvM 1) af)) af)) ao))),?_⟩
 obtain⟨dx,fs,w,c,tr,vs,h1,h2,h3,Z,h5,l1,l2,l3,l4,l5,l6,l7,Y⟩:=M.ob;ctx_has v h1 Y
 refine⟨p,r,dat,kvs,rm,rfl,M,λl vs H1 F e1 hl=>?_⟩
 ctx_has v e1
 refine k _ H1 ?_ F
 refine Iff.trans ?_ (xI M.ok)
 rw[decide_eq_true_eq,hl];omega
theorem lB (T:Txt w K mg) (L:bW K (aC K (ah mg "Table") "may_break") "may_break" "Table.may_break" eV ["self","rooms"]) (B:FnR P w K mg base (aC K (ah mg "Table") "rows_in") 2 ["self","rooms"] (mS mg)):FnR P w K mg base (aC K (ah mg "Table") "may_break") 22 ["self","rooms"] (cY mg):=by
 ctx_has z lz <;> obtain⟨p,r,dat,kvs,rm,rfl,M,k⟩:=h
 .rfl
 refine⟨_,(ai (aF 2 ao)
  (ai (bq (bT K (aM T.cl_Table T.no_Table_cells (pvM 0))) (aA 3) (ak (Ez 2 (aD kf T.b_len (ac (bQ hu (pvM 1) (pvM 3)) af)) E4)))
  (ak (az (aU AZ (aD bU T.b_len (ac (bS T.cl_Table B (hr.mono (by ctx_has m)) (pvM 0) (ac (pvM 1) af)) af)) (pvM 2)))))),?_⟩
 obtain⟨dx,fs,w,c,tr,vs,h1,h2,h3,h4,h5,l1,l2,l3,l4,l5,l6,l7,l8⟩:=M.ob;have ap:=M.ok;have F:=M.ne;have aa:=M.rf;have an:=M.rd;simp only[iY] at F aa;ctx_has v h1 l2 h3
 refine bX aV (λi σ H2=>∃(v3:Option V),σ=[-p,-r,some (.int ((dL rm (dat.1.take i)).length:Int)),v3]/\H2=H) ⟨_,by rfl,rfl⟩ (λi σ H2 ab=>by obtain⟨_,_,e⟩:=ab;exact(by rw[e];exact .of h3)) ?_ ?_
 .rintro i x σ H2 hi hx ⟨v3,rfl,rfl⟩
  obtain⟨Y,ad,rfl⟩ : ∃Y,dat.1[i]? = some Y/\V.str Y=x:=by
   rw[fx] at hx;cases e:dat.1[i]? with
   | none=>rw[e] at hx;cases hx
   | some nm=>rw[e] at hx;exact⟨nm,rfl,ge hx⟩
  have Z:Y∈dat.1:=g7 ad
  obtain⟨a1,am,ag⟩:=aa Y Z;have aj:dat.1.take (i+1)=dat.1.take i++[Y]:=by rw[ki,ad];rfl
  ctx_has v an am ag
  have aq:=(F Y Z).2.1;refine⟨.inr ⟨by rw[d_];omega,by rw[d_];omega⟩,?_⟩
  rw[aj,lY,lY,t6,foldl_append,d_];simp
 .rintro σ H2 ⟨v3,rfl,rfl⟩
  rw[d_,m_];ctx_has v h1 l8
  refine⟨p,r,dat,kvs,rm,rfl,M,λl vs H1 s1 e1 hl=>?_⟩
  ctx_has v e1
  refine k _ H1 ?_ s1
  refine Iff.trans ?_ (vT M.ok λc hc=>(F c hc).2.2.imp λh=>by omega)
  rw[decide_eq_true_eq,hl];omega
abbrev mG:=List Str × List (Int × Int × Int) × List Int
def hV (dat:mG):List Str:=dat.1
def GB (dat:mG):Prop:=dat.1≠[]/\dat.1.Nodup/\dat.1.length<=12/\(dat.2.1.map λx=>(x.1,x.2.1)).Nodup/\dat.2.1.length<=60/\dat.2.2.length<=60
def tS (dat:mG) (g:Str->Int):Bool:=tX dat.2.2 (gs dat.2.1 (some 0) (dat.1.map g))
def WSW (H:Hp) (w:Addr) (dat:mG):Prop:=∃c t e vs,H w>>[.str "way",.ref c,.ref t,.ref e]/\H c>>(dat.1.map V.str)/\H t>>vs/\lD H vs dat.2.1/\H e>>(dat.2.2.map V.int)
theorem BP {w:Addr} {dat:mG} (h:WSW H w dat) (k:fk H H'):WSW H' w dat:=by
 obtain⟨c,t,e,vs,h1,h2,B,F,L⟩:=h;exact⟨c,t,e,vs,k.tup _ _ h1,k.tup _ _ h2,k.tup _ _ B,F.keep k.tup,k.tup _ _ L⟩
def OBW (mg:Str->Option Value) (H:Hp) (p:Addr) (dat:mG):Prop:=∃dx fs w c e l,H p=some (.ins (ah mg "Way") dx fs)/\WSW H w dat/\H c>>(dat.1.map V.str)/\H e>>(dat.2.2.map V.int)/\H l=some (.dT (cP dat.2.1))/\fs.lookup (b_ "wish")=some (.ref w)/\fs.lookup (b_ "cells")=some (.ref c)/\fs.lookup (b_ "ends")=some (.ref e)/\fs.lookup (b_ "leads")=some (.ref l) /\
 fs.lookup (b_ "kept")=none/\fs.lookup (b_ "may_keep")=none/\fs.lookup (b_ "may_break")=none/\fs.lookup (b_ "states_behind")=none/\fs.lookup (b_ "last_states")=none
theorem A1 {dat:mG} (h:OBW mg H p dat) (k:fk H H'):OBW mg H' p dat:=by
 obtain⟨dx,fs,w,c,e,l,h1,h2,F,L,B,r⟩:=h;exact⟨dx,fs,w,c,e,l,k.ins _ _ _ _ h1,BP h2 k,k.tup _ _ F,k.tup _ _ L,k.dt _ _ B,r⟩
theorem zt {dat:mG} (h:OBW mg H p dat) : ∃dx fs,H p=some (.ins (ah mg "Way") dx fs)/\fs.lookup (b_ "kept")=none/\fs.lookup (b_ "may_keep")=none/\fs.lookup (b_ "may_break")=none:=by
 obtain⟨dx,fs,w,c,e,l,h1,h2,Z,h4,Y,_,_,_,_,B,F,L,_⟩:=h;exact⟨dx,fs,h1,B,F,L⟩
structure xt (mg:Str->Option Value) (H:Hp) (p r:Addr) (dat:mG) (kvs:List (Key × V)) (rm:Str->List Int):Prop where
 ob:OBW mg H p dat
 rd:H r<*kvs
 rf:aY H kvs (hV dat) rm
 ok:GB dat
 ne : ∀c∈hV dat,rm c≠[]/\(rm c).length<=10/\(rm c).Pairwise (· < ·)
def dF (mg:Str->Option Value):Sp:=λvs H Q _=>∃(p r:Addr) (dat:mG) (kvs:List (Key × V)) (rm:Str->List Int),vs=[.ref p,.ref r]/\xt mg H p r dat kvs rm/\∀(b:Bool) H',(b=true↔∃g,okF rm (hV dat) g/\tS dat g=true)->au H H'->Q (.bl b) H'
def cU (mg:Str->Option Value):Sp:=λvs H Q _=>∃(p r:Addr) (dat:mG) (kvs:List (Key × V)) (rm:Str->List Int),vs=[.ref p,.ref r]/\xt mg H p r dat kvs rm/\∀(b:Bool) H',(b=true↔∃g,okF rm (hV dat) g/\tS dat g=false)->au H H'->Q (.bl b) H'
def vA (mg:Str->Option Value) (C:Str):Sp:=λvs H Q _=>∃(p dx w:Addr) (dat:mG),vs=[.ref p,.ref w]/\H p=some (.ins (ah mg C) dx [])/\WSW H w dat/\GB dat/\∀H',OBW mg H' p dat->gK p H H'->Q .non H'
theorem kZ (ps:List (Int × Int × Int)) (st:Option Int) (v:Int):jI ps st v∈none :: ps.map λx=>some x.2.2:=by
 cases st with
 | none=>exact m8
 | some s =>
  show(ps.find? λx=>decide (x.1=s/\x.2.1=v)).map (λx=>x.2.2)∈none :: ps.map λx=>some x.2.2
  cases e:ps.find? λx=>decide (x.1=s/\x.2.1=v) with
  | none=>exact m8
  | some x=>exact k6 _ (i4.mpr ⟨x,List.mem_of_find?_eq_some e,rfl⟩)
theorem wq {k:Option Int} (h:ks.Nodup):(rz ks k).Nodup:=by
 unfold rz
 split
 .exact h
 .rename_i hk
  rw[t_];exact⟨h,by simp,λa ha b B=>by rw[gr.mp B];rintro rfl;exact hk ha⟩
theorem An {k x:Option Int}:x∈rz ks k↔x∈ks\/x=k:=by
 unfold rz
 split
 .rename_i hk
  exact⟨.inl,λh=>h.elim id λe=>e ▸ hk⟩
 .rw[j9,gr]
def BN (P:Program) (w:World) (mg:Str->Option Value):Sp:=λvs H Q _=>∃(p d r:Addr) (dat:mG) (o:Obj) (ks:List (Option Int)) (F:List Int),vs=[.ref p,.ref d,.ref r]/\OBW mg H p dat/\GB dat/\H d=some (eY P w d o ks)/\H r>>(F.map V.int) /\
 ∀(q:Addr) (o':Obj) (B:List (Option Int)) H',au H H'->H' q=some (eY P w q o' B)->B.length<=100->(∀L,L∈B↔∃k∈ks,∃v∈F,jI dat.2.1 k v=L)->Q (.ref q) H'
def ua (P:Program) (w:World) (mg:Str->Option Value):Sp:=λvs H Q _=>∃(p r:Addr) (dat:mG) (kvs:List (Key × V)) (rm:Str->List Int),vs=[.ref p,.ref r]/\xt mg H p r dat kvs rm /\
 ∀(q:Addr) (o:Obj) (ks:List (Option Int)) H',au H H'->H' q=some (eY P w q o ks)->ks.length<=100->(∀B,B∈ks↔∃g,okF rm (hV dat) g/\gs dat.2.1 (some 0) ((hV dat).map g)=B)->Q (.ref q) H'
theorem Au {ps:List (Int × Int × Int)} (hn:cs.Nodup) (Z:cs[i]? = some c) {ks F:List (Option Int)} (h : ∀B,B∈ks↔∃g,okF rm cs g/\gs ps (some 0) ((cs.map g).take i)=B) (h' : ∀B,B∈F↔∃k∈ks,∃v∈rm c,jI ps k v=B) :
  ∀B,B∈F↔∃g,okF rm cs g/\gs ps (some 0) ((cs.map g).take (i+1))=B:=λB=>by
 have Y:c∈cs:=g7 Z
 have et : ∀g:Str->Int,(cs.map g).take (i+1)=(cs.map g).take i++[g c]:=λg=>by rw[ki,fx,Z];rfl
 have aa:c∉cs.take i:=λhm=>by
  have e2:cs.take (i+1)=cs.take i++[c]:=by rw[ki,Z];rfl
  have hd:(cs.take i++[c]).Nodup:=by rw[<- e2];exact hn.sublist (Jy _ _)
  rw[t_] at hd;exact hd.2.2 _ hm _ (by simp) rfl
 rw[h']
 constructor
 .rintro⟨k,hk,v,hv,rfl⟩
  obtain⟨g,L,rfl⟩:=(h k).mp hk;refine⟨λx=>if x=c then v else g x,λx hx=>?_,?_⟩
  .by_cases e:x=c
   .subst e;simpa using hv
   .simpa [e] using L x hx
  .rw[et,lR]
   have e1:(cs.map λx=>if x=c then v else g x).take i=(cs.map g).take i:=by
    rw[<- map_take,<- map_take]
    apply q_
    intro x hx;have:x≠c:=λe=>aa (e ▸ hx)
    simp[this]
   rw[e1];simp[gs]
 .rintro⟨g,L,rfl⟩
  refine⟨_,(h _).mpr ⟨g,L,rfl⟩,g c,L c Y,?_⟩
  rw[et,lR];rfl
theorem Bt (es:List Int) (k:Option Int):inV (oV k) (es.map V.int)=tX es k:=by
 cases k with
 | some s=>exact df s es
 | none =>
  show inV .non (es.map V.int)=false
  induction es with
  | nil=>rfl
  | cons a es B=>rw[i_];unfold inV at B ⊢;rw[any_cons,B];rfl
theorem lK (T:Txt w K mg) (L:bW K (gJ K (ah mg "Wish") "__init__") "__init__" "Wish.__init__" bz ["self","wish"]):FnR P w K mg base (gJ K (ah mg "Wish") "__init__") 1 ["self","wish"] (dA mg "Way"):=by
 ctx_has z bP <;> obtain⟨p,dx,fs,w,rfl,hp,B,k⟩:=h
 .rfl
 refine⟨_,(ak (bA T.cl_Way T.no_Way_wish (pvM 0) (pvM 1) rfl)),?_⟩
 ctx_has v hp
 exact⟨B,k⟩
theorem pe (T:Txt w K mg) (L:bW K (Mk K (ah mg "Way")) "__init__" "Way.__init__" gO ["self","wish"]) (F:FnR P w K mg base (gJ K (ah mg "Wish") "__init__") 1 ["self","wish"] (dA mg "Way")):FnR P w K mg base (Mk K (ah mg "Way")) 2 ["self","wish"] (vA mg "Way"):=by
 ctx_has z ph <;> obtain⟨p,dx,w,dat,rfl,hp,hW,ad,k⟩:=h
 .rfl
 refine⟨_,(ai (cJ (iR F (hr.mono (by ctx_has m)) rfl T.at_Wish (ac (pvM 0) (ac (pvM 1) af))))
  (ai (bA T.cl_Way T.no_Way_cells (pvM 0) (aE ba (pvM 1) ao) rfl)
  (ai (bA T.cl_Way T.no_Way_ends (pvM 0) (aE ba (pvM 1) ao) rfl)
  (ai (bA T.cl_Way T.no_Way_leads (pvM 0) wu rfl)
  (ak (bq (bT K (aE ba (pvM 1) ao)) (aA 2) (ak (yN hu (aM T.cl_Way T.no_Way_leads (pvM 0)) (cM qd (pvM 2) eF (de ao)) (aE ba (pvM 2) ao) rfl)))))))),?_⟩
 obtain⟨cs,ps,es⟩:=dat;obtain⟨c,t,e,vs,hw,h2,h3,h4,h5⟩:=hW;obtain⟨as,rfl,rfl,aj⟩:=h4;have an:=ad.2.2.2.1;have aq:=ad.2.2.2.2.1;have pt : ∀b xs,H b>>xs->b≠p:=λb xs e=>aX e hp (by intro z;cases z)
 have pw:=pt _ _ hw;ctx_has v hw
 refine⟨p,dx,[],.ref w,rfl,hp,∅,?_⟩
 ctx_has v ae
 refine⟨_,by rw[ag pw];exact hw,?_⟩
 ctx_has v
 refine⟨dJ (zD _ "" "" "" _ .non .non .non),_,by rw[ag pw,ag pw];exact hw,?_⟩
 ctx_has v xV
 refine⟨dJ (zC _ _ "" "" _ _ .non .non),λl hl=>?_⟩
 simp only[lU] at hl ⊢;have lp:l≠p:=λz=>by rw[z,ae] at hl;cases hl
 have Y:H l=none:=by rw[ag lp] at hl;exact hl
 refine⟨dx,_,by rw[ag (k_ lp)];exact ae,dJ (DG _ _ _ "" _ _ _ .non),_,by rw[ag pw,ag (ap hw Y),ag pw];exact hw,_,rfl,t,rfl,_,by rw[ag (pt _ _ h3),ag (ap h3 Y),ag (pt _ _ h3)];exact h3,?_⟩
 have lk:(ck "leads" (.ref l) (ck "ends" (.ref e) (ck "cells" (.ref c) (ck "wish" (.ref w) [])))).lookup (b_ "leads")=some (.ref l):=by simp only[br,if_true]
 have B5 : ∀o1 o2,gK p H (upd (upd (upd H p o1) l (.dT [])) p o2):=λo1 o2 b o hb e=>by rw[ag hb,ag (ap e Y),ag hb];exact e
 refine bX aV (λi σ H'=>∃v2,σ=[-p,-w,v2]/\gK p H H'/\H' p=some (.ins (ah mg "Way") dx (ck "leads" (.ref l) (ck "ends" (.ref e) (ck "cells" (.ref c) (ck "wish" (.ref w) [])))))/\H' l=some (.dT (cP ((as.map (·.2)).take i)))) ⟨_,rfl,B5 _ _,ae,by rw[ag lp];exact ae⟩ (λi σ H' aa=>by obtain⟨_,_,B,_⟩:=aa;exact(.of (B _ _ (pt _ _ h3) h3))) ?_ ?_
 .rintro i x σ H' hi hx ⟨v2,rfl,B,hpp,hd⟩
  obtain⟨y,hy,rfl⟩ : ∃y,as[i]? = some y/\V.ref y.1=x:=by
   rw[fx] at hx;cases e:as[i]? with
   | none=>rw[e] at hx;cases hx
   | some nm=>rw[e] at hx;exact⟨nm,rfl,ge hx⟩
  have ab:=aj y (g7 hy);have am:=B _ _ (pt _ _ ab) ab;ctx_has v zi am hpp lk
  intro q H2 hq s2;have ar:(as.map (·.2))[i]? = some y.2:=by rw[fx,hy];rfl
  refine⟨_,xZ.t (k:=[h_ y.2.1,h_ y.2.2.1]) (s2 _ _ hd) hq ?_,λb o hb e=>?_,by rw[ag (k_ lp)];exact s2 _ _ hpp,by rw[ae,qq an ar]⟩
  .unfold cP
   rw[d_];exact rb (G4 _ _) (hH (show(as.map (·.2)).length < 1000 by have:(as.map (·.2)).length<=60:=aq;omega) ∅)
  .rw[ag (ap e Y)]
   exact s2 _ _ (B b o hb e)
 .rintro σ H' ⟨v2,rfl,B,hpp,hd⟩
  rw[d_,show(as.map (·.2)).take as.length=as.map (·.2) from nH (by simp)] at hd
  have Z : ∀b xs,H b>>xs->H' b>>xs:=λb xs e=>B _ _ (pt _ _ e) e
  ctx_has v
  refine k _ ⟨dx,_,w,c,e,l,hpp,⟨c,t,e,_,Z _ _ hw,Z _ _ h2,Z _ _ h3,⟨as,rfl,rfl,λx hx=>Z _ _ (aj x hx)⟩,Z _ _ h5⟩,Z _ _ h2,Z _ _ h5,hd,?_⟩ B
  simp only[br,dB,String.reduceEq,if_true,if_false,true_and,Je,and_self]
theorem jx (T : Txt w K mg) (L:bW K (aC K (ah mg "Way") "states_behind") "states_behind" "Way.states_behind" eu ["self","states","room"]):FnR P w K mg base (aC K (ah mg "Way") "states_behind") 1 ["self","states","room"] (BN P w mg):=by
  ctx_has z jV <;> obtain⟨p,d,r,dat,o,ks,rs,rfl,hO,a1,hd,aq,k⟩:=h
  . rfl
  refine⟨_,(ai (aF 3 (yo (P:=P) (w:=w) rfl rfl ff))
    (ai (bq (CJ (P:=P) (w:=w) rfl rfl (pvM 1)) (aA 4) (ak (bq (bT K (pvM 2)) (aA 5) (ak (CG (P:=P) (w:=w) rfl rfl hu (pvM 3) (AS hu (aM T.cl_Way T.no_Way_leads (pvM 0)) (cq (ac (pvM 4) (ac (pvM 5) af))) ⟨rfl,rfl,rfl,rfl⟩) cR rfl)))))
    (ak (az (pvM 3))))),?_⟩
  obtain⟨cs,ps,es⟩:=dat;obtain⟨dx,fs,wa,c,e,l,h1,h2,h3,h4,h5,l1,l2,l3,l4,l5⟩:=hO;have a3:ps.length<=60:=a1.2.2.2.2.1
  ctx_has v DH tK
  intro q hq;refine⟨[],ae,∅,λo1=>?_⟩
  rw[lU];ctx_has v iN
  refine⟨o,ks,(au.upd0 hq) _ _ hd,?_⟩
  refine bX AO (λi σ H'=>∃o' Z v4 v5,σ=[-p,-d,-r,-q,v4,v5]/\au H H'/\H' q=some (eY P w q o' Z)/\Z.Nodup/\(∀k',k'∈Z↔∃k∈ks.take i,∃v∈rs,jI ps k v=k')) ⟨_,[],_,_,rfl,au.upd0 hq,ae,by simp,by simp⟩ (λi σ H' ar=>by obtain⟨_,_,_,_,_,sm,_⟩:=ar;exact(sm _ _ hd)) ?_ ?_
  . rintro i x σ H' hi hx ⟨o',Z,v4,v5,rfl,sm,am,ad,B⟩
    obtain⟨kk,ay,rfl⟩ : ∃y,ks[i]? = some y/\oV y=x:=by
      rw[fx] at hx;cases e:ks[i]? with
      | none=>rw[e] at hx;cases hx
      | some nm=>rw[e] at hx;exact⟨nm,rfl,ge hx⟩
    have a2:=sm _ _ aq;ctx_has v a2
    refine bX aV (λj σ H3=>∃o2 F v5,σ=[-p,-d,-r,-q,some (oV kk),v5]/\au H H3/\H3 q=some (eY P w q o2 F)/\F.Nodup/\(∀k',k'∈F↔(∃k∈ks.take i,∃v∈rs,jI ps k v=k')\/∃v∈rs.take j,jI ps kk v=k')) ⟨_,_,_,rfl,sm,am,ad,λk'=>by rw[B];simp⟩ (λi σ H' aw=>by obtain⟨_,_,_,_,s3,_⟩:=aw;exact(.of (s3 _ _ aq))) ?_ ?_
    . rintro j x σ H3 hj hx ⟨o2,F,v5,rfl,s3,an,aa,ab⟩
      obtain⟨v,hv,rfl⟩ : ∃v,rs[j]? = some v/\V.int v=x:=by
        rw[fx] at hx;cases e:rs[j]? with
        | none=>rw[e] at hx;cases hx
        | some nm=>rw[e] at hx;exact⟨nm,rfl,ge hx⟩
      have a0:=s3 _ _ h1;have ax:=s3 _ _ h5;have ao:F.length < 1000:=by
        have:=fj (ys:=none :: ps.map λx=>some x.2.2) aa λk' aj=>by
          rcases (ab k').mp aj with⟨k0,_,v0,_,rfl⟩ | ⟨v0,_,rfl⟩
          . exact kZ _ _ _
          . exact kZ _ _ _
        simp at this
        omega
      ctx_has v CN Cv a0 l4
      refine⟨ps,ax,∅,λtp g1=>⟨(au.upd0 g1) _ _ ax,kk,v,ae,_,rfl,o2,F,(au.upd0 g1) _ _ an,ao,λo'=>⟨λb o e=>?_,o',_,ae,wq aa,λk'=>?_⟩⟩⟩
      . rw[ag (ap e hq)]
        exact(au.upd0 g1) _ _ (s3 b o e)
      . rw[An,ab,ki,hv]
        constructor
        . rintro((z | ⟨v0,Y,z⟩) | rfl)
          . exact .inl z
          . exact .inr ⟨v0,k9 _ Y,z⟩
          . exact .inr ⟨v,p9 _ (by simp),rfl⟩
        . rintro(z | ⟨v0,Y,z⟩)
          . exact .inl (.inl z)
          . rcases j9.mp Y with Y | Y
            . exact .inl (.inr ⟨v0,Y,z⟩)
            . have e0:v0=v:=by simpa using Y
              subst e0;exact .inr z.symm
    . rintro σ H3 ⟨o2,F,v5,rfl,s3,an,aa,ab⟩
      rw[d_,m_] at ab;refine⟨o2,F,_,_,rfl,s3,an,aa,λk'=>?_⟩
      rw[ab,ki,ay]
      constructor
      . rintro(⟨k0,Y,z⟩ | z)
        . exact⟨k0,k9 _ Y,z⟩
        . exact⟨kk,p9 _ (by simp),z⟩
      . rintro⟨k0,Y,z⟩
        rcases j9.mp Y with Y | Y
        . exact .inl ⟨k0,Y,z⟩
        . have e0:k0=kk:=by simpa using Y
          subst e0;exact .inr z
  . rintro σ H' ⟨o',Z,v4,v5,rfl,sm,am,ad,B⟩
    ctx_has v
    rw[d_,m_] at B;have ao:Z.length<=100:=by
      have:=fj (ys:=none :: ps.map λx=>some x.2.2) ad λk' aj=>by
        obtain⟨k0,_,v0,_,rfl⟩:=(B k').mp aj;exact kZ _ _ _
      simp at this
      omega
    exact k q o' Z H' sm am ao B
theorem kR (T:Txt w K mg) (L:bW K (aC K (ah mg "Way") "last_states") "last_states" "Way.last_states" eW ["self","rooms"]) (B:FnR P w K mg base (aC K (ah mg "Way") "states_behind") 1 ["self","states","room"] (BN P w mg)):FnR P w K mg base (aC K (ah mg "Way") "last_states") 2 ["self","rooms"] (ua P w mg):=by
 ctx_has z kO <;> obtain⟨p,r,dat,kvs,rm,rfl,M,k⟩:=h
 .rfl
 refine⟨_,(ai (aF 2 (yo (P:=P) (w:=w) rfl rfl (uN (ir ao cR uG) rfl rfl (by nofun) ∅)))
  (ai (bq (bT K (aM T.cl_Way T.no_Way_cells (pvM 0))) (aA 3) (ak (aF 2 (bS T.cl_Way B (hr.mono (by ctx_has m)) (pvM 0) (ac (pvM 2) (ac (bQ hu (pvM 1) (pvM 3)) af))))))
  (ak (az (pvM 2))))),?_⟩
 obtain⟨dx,fs,wa,c,e,l,h1,h2,h3,h4,h5,l1,l2,l3,l4,l5,l6,l7,l8,l9⟩:=id M.ob;have Y:=M.ok;have ab:=Y.2.1;obtain⟨cs,ps,es⟩:=dat;ctx_has v DH
 intro q hq;have em:jP ([]:List (Key × V)) [(h_ 0,.bl true)]=[(h_ 0,.bl true)]:=fh _ fI
 refine⟨ae,[(h_ 0,.bl true)],rfl,∅,[0],by rw[ae,em];rfl,∅,λo=>?_⟩
 simp only[lU];refine⟨dx,fs,(au.upd0 hq) _ _ h1,_,l2,c,rfl,_,(au.upd0 hq) _ _ h3,?_⟩
 refine bX aV (λi σ H'=>∃q o ks v3,σ=[-p,-r,-q,v3]/\au H H'/\H' q=some (eY P w q o ks)/\ks.length<=100/\(∀k',k'∈ks↔∃g,okF rm cs g/\gs ps (some 0) ((cs.map g).take i)=k')) ⟨q,o,[some 0],_,rfl,au.upd0 hq,ae,∅,λk'=>?_⟩ (λi σ H' Z=>by obtain⟨_,_,_,_,_,s3,_⟩:=Z;exact(.of (s3 _ _ h3))) ?_ ?_
 .constructor
  .intro z
   refine⟨λc=>(rm c).headD 0,λc hc=>?_,(gr.mp z).symm⟩
   have:=(M.ne c hc).1
   show(rm c).headD 0∈rm c
   cases e:rm c with
   | nil=>exact absurd e this
   | cons a b=>simp
  .rintro⟨g,_,rfl⟩
   exact gr.mpr rfl
 .rintro i x σ H' hi hx ⟨q1,o1,ks,v3,rfl,sm,hq1,hkl,hmem⟩
  obtain⟨cc,F,rfl⟩ : ∃y,cs[i]? = some y/\V.str y=x:=by
   rw[fx] at hx;cases e:cs[i]? with
   | none=>rw[e] at hx;cases hx
   | some nm=>rw[e] at hx;exact⟨nm,rfl,ge hx⟩
  have an:=sm _ _ h1;have ag:=sm _ _ M.rd;obtain⟨ad,hv,aq⟩:=M.rf cc (g7 F);ctx_has v an ag
  exact⟨l8,_,hv,p,q1,ad,(cs,ps,es),o1,ks,rm cc,rfl,A1 M.ob (au.keepTI sm),Y,hq1,sm _ _ aq,λq2 o2 ap H2 s2 aa aj am=>⟨q2,rfl,sm.trans s2,o2,ap,aa,aj,Au ab F hmem am⟩⟩
 .rintro σ H' ⟨q1,o1,ks,v3,rfl,sm,hq1,hkl,hmem⟩
  ctx_has v
  rw[d_] at hmem;refine k q1 o1 ks H' sm hq1 hkl λk'=>?_
  rw[hmem]
  constructor
  .rintro⟨g,hg,z⟩
   exact⟨g,hg,by rw[nH (by simp)] at z;exact z⟩
  .rintro⟨g,hg,z⟩
   exact⟨g,hg,by rw[nH (by simp)];exact z⟩
theorem pf (T:Txt w K mg) (L:bW K (aC K (ah mg "Way") "may_keep") "may_keep" "Way.may_keep" fi ["self","rooms"]) (B:FnR P w K mg base (aC K (ah mg "Way") "last_states") 2 ["self","rooms"] (ua P w mg)):FnR P w K mg base (aC K (ah mg "Way") "may_keep") 22 ["self","rooms"] (dF mg):=by
 ctx_has z pB <;> obtain⟨p,r,dat,kvs,rm,rfl,M,k⟩:=h
 .rfl
 refine⟨_,(ak (az (aD (gy rfl) T.b_any (ac (bj (N:=["state","self"]) (nt:=1) (js:=[0]) (aI ["self","rooms"] (aj fi).names) (CJ (P:=P) (w:=w) rfl rfl (bS T.cl_Way B (hr.mono (by ctx_has m)) (pvM 0) (ac (pvM 1) af))) (aA 0) aP bx (aU gA (pvM 0) (aM T.cl_Way T.no_Way_ends (pvM 1)))) af)))),?_⟩
 obtain⟨dx,fs,wa,c,e,l,h1,h2,h3,h4,h5,l1,l2,l3,l4,l5,l6,l7,l8,l9⟩:=id M.ob;obtain⟨cs,ps,es⟩:=dat;ctx_has v h1 iN
 refine⟨l9,p,r,(cs,ps,es),kvs,rm,rfl,M,λq o ks H1 Y hq hl hm=>⟨q,rfl,o,ks,hq,λD hD=>?_⟩⟩
 refine ci AO (λv=>.bl (inV v (es.map V.int))) hD (λH' s'=>s' _ _ hq) (by rw[d_];omega) ?_ ?_
 .intro x H2 Q2 hx s2 q2
  obtain⟨kk,_,rfl⟩:=i4.mp hx;have ab:=s2 _ _ (Y _ _ h1);have aa:=s2 _ _ (Y _ _ h4);ctx_has v ab l3
  exact⟨_,aa,by cases kk <;> rfl,cj es,q2 H2 (au.refl _)⟩
 .intro H2 s2 hd2
  refine⟨D,rfl,ks.map (λk=>tX es k),?_,k _ H2 ?_ (Y.trans s2)⟩
  .rw[hd2,m6,m6]
   refine congrArg (λz=>some (HO.lst z)) (q_ λF _=>?_)
   show V.bl (inV (oV F) (es.map V.int))=V.bl (tX es F)
   rw[Bt]
  .rw[x_]
   constructor
   .rintro⟨b,hb,e⟩
    obtain⟨F,Z,rfl⟩:=i4.mp hb;obtain⟨g,hg,rfl⟩:=(hm F).mp Z;exact⟨g,hg,e⟩
   .rintro⟨g,hg,e⟩
    exact⟨_,i4.mpr ⟨_,(hm _).mpr ⟨g,hg,rfl⟩,rfl⟩,e⟩
theorem nP (T:Txt w K mg) (L:bW K (aC K (ah mg "Way") "may_break") "may_break" "Way.may_break" eJ ["self","rooms"]) (B:FnR P w K mg base (aC K (ah mg "Way") "last_states") 2 ["self","rooms"] (ua P w mg)):FnR P w K mg base (aC K (ah mg "Way") "may_break") 22 ["self","rooms"] (cU mg):=by
 ctx_has z ou <;> obtain⟨p,r,dat,kvs,rm,rfl,M,k⟩:=h
 .rfl
 refine⟨_,(ak (az (aD (gy rfl) T.b_any (ac (bj (N:=["state","self"]) (nt:=1) (js:=[0]) (aI ["self","rooms"] (aj eJ).names) (CJ (P:=P) (w:=w) rfl rfl (bS T.cl_Way B (hr.mono (by ctx_has m)) (pvM 0) (ac (pvM 1) af))) (aA 0) aP bx (aU sI (pvM 0) (aM T.cl_Way T.no_Way_ends (pvM 1)))) af)))),?_⟩
 obtain⟨dx,fs,wa,c,e,l,h1,h2,h3,h4,h5,l1,l2,l3,l4,l5,l6,l7,l8,l9⟩:=id M.ob;obtain⟨cs,ps,es⟩:=dat;ctx_has v h1 iN
 refine⟨l9,p,r,(cs,ps,es),kvs,rm,rfl,M,λq o ks H1 Y hq hl hm=>⟨q,rfl,o,ks,hq,λD hD=>?_⟩⟩
 refine ci AO (λv=>.bl (!inV v (es.map V.int))) hD (λH' s'=>s' _ _ hq) (by rw[d_];omega) ?_ ?_
 .intro x H2 Q2 hx s2 q2
  obtain⟨kk,_,rfl⟩:=i4.mp hx;have ab:=s2 _ _ (Y _ _ h1);have aa:=s2 _ _ (Y _ _ h4);ctx_has v ab l3
  exact⟨_,aa,by cases kk <;> rfl,cj es,q2 H2 (au.refl _)⟩
 .intro H2 s2 hd2
  refine⟨D,rfl,ks.map (λk=>!tX es k),?_,k _ H2 ?_ (Y.trans s2)⟩
  .rw[hd2,m6,m6]
   refine congrArg (λz=>some (HO.lst z)) (q_ λF _=>?_)
   show V.bl (!inV (oV F) (es.map V.int))=V.bl (!tX es F)
   rw[Bt]
  .rw[x_]
   constructor
   .rintro⟨b,hb,e⟩
    obtain⟨F,Z,rfl⟩:=i4.mp hb;obtain⟨g,hg,rfl⟩:=(hm F).mp Z;exact⟨g,hg,(by simpa [tS,hV] using e)⟩
   .rintro⟨g,hg,e⟩
    exact⟨_,i4.mpr ⟨_,(hm _).mpr ⟨g,hg,rfl⟩,rfl⟩,(by simpa [tS,hV] using e)⟩
abbrev nT:=List (Int × Str) × Option Int × Option Int
def WSS (H:Hp) (w:Addr) (dat:nT) (cs:List Str):Prop:=∃t,H w>>[.str "sum",.ref t,bV dat.2.1,bV dat.2.2]/\hZ H t dat.1
def Gh (dat:nT) (cs:List Str):Prop:=dat.1.map (·.2)=cs/\cs≠[]/\∀x∈dat.1,-1000000<=x.1/\x.1<=1000000
def OBS (mg:Str->Option Value) (H:Hp) (t:Addr) (dat:nT) (cs:List Str):Prop:=∃dx fs te,H t=some (.ins (ah mg "Sum") dx fs)/\hZ H te dat.1/\fs.lookup (b_ "terms")=some (.ref te)/\fs.lookup (b_ "low")=some (bV dat.2.1)/\fs.lookup (b_ "high")=some (bV dat.2.2) /\
 fs.lookup (b_ "may_keep")=none/\fs.lookup (b_ "may_break")=none/\fs.lookup (b_ "may_end_well")=none/\fs.lookup (b_ "sums_with")=none/\fs.lookup (b_ "sums_kept")=none
theorem yC {t:Addr} {dat:nT} (h:OBS mg H t dat cs) : ∃dx fs,H t=some (.ins (ah mg "Sum") dx fs)/\fs.lookup (b_ "may_keep")=none/\fs.lookup (b_ "may_break")=none:=by
 obtain⟨dx,fs,te,h1,h2,Y,Z,L,B,F,_⟩:=h;exact⟨dx,fs,h1,B,F⟩
theorem wt {t:Addr} {dat:nT} (h:OBS mg H t dat cs) (k:fk H H'):OBS mg H' t dat cs:=by
 obtain⟨dx,fs,te,h1,h2,B⟩:=h;exact⟨dx,fs,te,k.ins _ _ _ _ h1,h2.keep k.tup,B⟩
def fE (ts:List (Int × Str)) (g:Str->Int):Int:=(ts.map λx=>x.1 * g x.2).sum
def tQ (dat:nT) (cs:List Str) (g:Str->Int):Bool:=eC (fE dat.1 g) dat.2.1 dat.2.2
def yH (mg:Str->Option Value):Sp:=λvs H Q _=>∃(p dx w:Addr) (dat:nT) (cs:List Str),vs=[.ref p,.ref w]/\H p=some (.ins (ah mg "Sum") dx [])/\WSS H w dat cs/\∀H',OBS mg H' p dat cs->HW mg "Sum" H' p w->gK p H H'->Q .non H'
structure wS (mg:Str->Option Value) (H:Hp) (p r:Addr) (dat:nT) (cs:List Str) (kvs:List (Key × V)) (rm:Str->List Int):Prop where
 ob:OBS mg H p dat cs
 rd:H r<*kvs
 rf:aY H kvs cs rm
 ok:Gh dat cs
 nd:cs.Nodup
 cl:cs.length<=5
 gd : ∀c∈cs,1<=(rm c).length/\(rm c).length<=4/\(rm c).Nodup
def dN (mg:Str->Option Value):Sp:=λvs H Q _=>∃(p r:Addr) (dat:nT) (cs:List Str) (kvs:List (Key × V)) (rm:Str->List Int),vs=[.ref p,.ref r]/\wS mg H p r dat cs kvs rm/\∀(b:Bool) H',(b=true↔∃g,okF rm cs g/\tQ dat cs g=true)->au H H'->Q (.bl b) H'
def cW (mg:Str->Option Value):Sp:=λvs H Q _=>∃(p r:Addr) (dat:nT) (cs:List Str) (kvs:List (Key × V)) (rm:Str->List Int),vs=[.ref p,.ref r]/\wS mg H p r dat cs kvs rm/\∀(b:Bool) H',(b=true↔∃g,okF rm cs g/\tQ dat cs g=false)->au H H'->Q (.bl b) H'
structure dC (rm:Str->List Int) (ts:List (Int × Str)) (lo hi:Int):Prop where
 bd : ∀g,okF rm (ts.map (·.2)) g->lo<=fE ts g/\fE ts g<=hi
 lo' : ∃g,okF rm (ts.map (·.2)) g/\fE ts g=lo
 hi' : ∃g,okF rm (ts.map (·.2)) g/\fE ts g=hi
theorem dC.nil (rm:Str->List Int):dC rm [] 0 0:=⟨λg _=>⟨Int.le_refl _,Int.le_refl _⟩,⟨λ_=>0,λc B=>by simp at B,rfl⟩,⟨λ_=>0,λc B=>by simp at B,rfl⟩⟩
theorem dC.zero {hi:Int} (h:dC rm [] lo hi):lo=0/\hi=0:=by
 obtain⟨g,_,e⟩:=h.lo';obtain⟨g',_,B⟩:=h.hi';exact⟨e.symm,B.symm⟩
theorem kW (a:Int) (c:Str) (ts:List (Int × Str)) (g:Str->Int):fE ((a,c) :: ts) g=a * g c+fE ts g:=by simp[fE]
theorem kS (h:c∉ts.map (·.2)):fE ts (cy g c v)=fE ts g:=by
 unfold fE;rw[q_ (f:=λx:Int × Str=>x.1 * cy g c v x.2) (g:=λx:Int × Str=>x.1 * g x.2) λx B=>by rw[cG _ _ (λe=>h (i4.mpr ⟨x,B,e⟩))]]
theorem sV (h:okF rm cs g) (B:v∈rm c):okF rm (c :: cs) (cy g c v):=λx F=>by
 by_cases e:x=c
 .subst e;rw[bm];exact B
 .rw[cG _ _ e];exact h x ((i7.mp F).resolve_left e)
theorem dC.cons {hi a M:Int} (h:dC rm ts lo hi) (Y:c∉ts.map (·.2)) (hm:m∈(rm c).map (a * ·)) (L : ∀x∈(rm c).map (a * ·),m<=x) (hM:M∈(rm c).map (a * ·)) (B : ∀x∈(rm c).map (a * ·),x<=M):dC rm ((a,c) :: ts) (lo+m) (hi+M):=by
 refine⟨λg Z=>?_,?_,?_⟩
 .have h1:=h.bd g λx hx=>Z x (k6 _ hx)
  have h2:a * g c∈(rm c).map (a * ·):=i4.mpr ⟨g c,Z c (by simp),rfl⟩
  have h3:=L _ h2;have h4:=B _ h2;rw[kW];omega
 .obtain⟨g,g1,g2⟩:=h.lo'
  obtain⟨v,F,e⟩:=i4.mp hm;exact⟨cy g c v,sV g1 F,by rw[kW,bm,kS Y];have e:a * v=_:=e;omega⟩
 .obtain⟨g,g1,g2⟩:=h.hi'
  obtain⟨v,F,e⟩:=i4.mp hM;exact⟨cy g c v,sV g1 F,by rw[kW,bm,kS Y];have e:a * v=_:=e;omega⟩
def BX:Sp:=λvs H Q _=>∃(t r F:Addr) (a:Int) (c:Str) (kvs:List (Key × V)) (B:List Int),vs=[.ref t,.ref r]/\H t>>[.int a,.str c]/\H r<*kvs/\bJ kvs (i9 c)=some (.ref F)/\H F>>(B.map V.int)/\(-1000000<=a/\a<=1000000)/\B.length<=10/\∀l H',au H H'->H l=none->H' l*>((B.map (a * ·)).map V.int)->Q (.ref l) H'
def CA:Sp:=λvs H Q _=>∃(t r:Addr) (ts:List (Int × Str)) (kvs:List (Key × V)) (rm:Str->List Int),vs=[.ref t,.ref r]/\hZ H t ts/\H r<*kvs/\aY H kvs (ts.map (·.2)) rm/\(ts.map (·.2)).Nodup/\ts.length<=12/\(∀x∈ts,-1000000<=x.1/\x.1<=1000000)/\(∀c∈ts.map (·.2),rm c≠[]/\(rm c).length<=10) /\
 ∀(l:Addr) (zs:List (Addr × Int × Int)) H',au H H'->H' l*>(zs.map λx=>V.ref x.1)->zs.length=ts.length+1->(∀x∈zs,H' x.1>>[.int x.2.1,.int x.2.2])->(∀(i:Nat) z,zs[i]? = some z->dC rm (ts.drop i) z.2.1 z.2.2)->Q (.ref l) H'
def gg (s mn B:Int) (lo hi:Option Int):Bool:=(match lo with | none=>true | some a=>decide (a<=s+B)) && (match hi with | none=>true | some b=>decide (s+mn<=b))
def A5 (mg:Str->Option Value):Sp:=λvs H Q _=>∃(p b:Addr) (s mn B:Int) (dat:nT) (cs:List Str),vs=[.ref p,.int s,.ref b]/\OBS mg H p dat cs/\H b>>[.int mn,.int B]/\Q (.bl (gg s mn B dat.2.1 dat.2.2)) H
def oX (kvs:List (Key × V)):Prop:=∀x∈kvs,∃i:Int,x.1=h_ i
def gj (kvs:List (Key × V)) (s:Int):Prop:=(bJ kvs (h_ s)).isSome=true
def yt (mg:Str->Option Value):Sp:=λvs H Q _=>∃(p r l b:Addr) (kvs:List (Key × V)) (ps:List Int) (mn B:Int) (dat:nT) (cs:List Str),vs=[.ref p,.ref r,.ref l,.ref b]/\OBS mg H p dat cs/\H r<*kvs/\oX kvs/\H l*>(ps.map V.int)/\H b>>[.int mn,.int B]/\kvs.length * ps.length<=100000 /\
 ∀(q:Addr) (kv:List (Key × V)) H',au H H'->H' q<*kv->oX kv->kv.length<=kvs.length * ps.length->(∀s,gj kv s↔∃e,gj kvs e/\∃x∈ps,s=e+x/\gg s mn B dat.2.1 dat.2.2=true)->Q (.ref q) H'
theorem nQ {s:Int} (L:(∃v,(h_ s,v)∈kvs)):gj kvs s:=by
 obtain⟨v,B⟩:=L;unfold gj
 induction kvs with
 | nil=>simp at B
 | cons x kvs F =>
  by_cases e:x.1=h_ s
  .obtain⟨x1,x2⟩:=x
   simp only at e;subst e;rw[bu rfl];rfl
  .obtain⟨x1,x2⟩:=x
   rw[aW e];exact F ((i7.mp B).resolve_left λz=>e (congrArg Prod.fst z).symm)
theorem ni {s:Int} (h:gj kvs s) : ∃v,(h_ s,v)∈kvs:=by
 unfold gj at h
 induction kvs with
 | nil=>rw[fI] at h;cases h
 | cons x kvs B =>
  obtain⟨x1,F⟩:=x
  by_cases e:x1=h_ s
  .subst e;exact⟨F,by simp⟩
  .rw[aW e] at h
   obtain⟨v,L⟩:=B h;exact⟨v,k6 _ L⟩
theorem Aj {s t:Int} {v:V}:gj (bv kvs (h_ t) v) s↔s=t\/gj kvs s:=by
 unfold gj;rw[jX]
 by_cases e:s=t
 .subst e;simp
 .rw[if_neg (λz=>e (Jv z))];simp[e]
theorem oX.put {t:Int} {v:V} (h:oX kvs):oX (bv kvs (h_ t) v):=by
 intro x B;unfold bv at B
 split at B
 .obtain⟨y,hy,rfl⟩:=i4.mp B
  split
  .rename_i e;exact⟨t,e⟩
  .exact h y hy
 .rcases j9.mp B with q | q
  .exact h x q
  .rw[gr.mp q];exact⟨t,rfl⟩
theorem jd (as bs:List (Int × Str)) (g:Str->Int):fE (as++bs) g=fE as g+fE bs g:=by simp[fE]
theorem vq (ts:List (Int × Str)) (i:Nat) (g:Str->Int):fE ts g=fE (ts.take i) g+fE (ts.drop i) g:=by rw[<- jd,List.take_append_drop]
theorem C4 {mn F:Int} {lo:Option Int} (h:dC rm (ts.drop i) mn F) (Y:okF rm (ts.map (·.2)) g) (L:eC (fE ts g) lo hi=true):gg (fE (ts.take i) g) mn F lo hi=true:=by
 have h1:=h.bd g λc B=>Y c (by rw[map_drop] at B;exact List.mem_of_mem_drop B)
 have h2:=vq ts i g;cases lo <;> cases hi <;> simp[eC,gg] at L ⊢
 .omega
 .omega
 .omega
theorem AM {s mn B:Int} {lo:Option Int} (h:dC rm [] mn B):gg s mn B lo hi=eC s lo hi:=by
 obtain⟨rfl,rfl⟩:=h.zero;cases lo <;> cases hi <;> simp[eC,gg]
theorem vC {a b:Int} {lo:Option Int} (h:dC rm ts a b):(!eC a lo hi || !eC b lo hi)=true↔∃g,okF rm (ts.map (·.2)) g/\eC (fE ts g) lo hi=false:=by
 constructor
 .intro hb
  rw[Bool.or_eq_true,Bool.not_eq_true',Bool.not_eq_true'] at hb;rcases hb with hb | hb
  .obtain⟨g,g1,g2⟩:=h.lo'
   exact⟨g,g1,by rw[g2];exact hb⟩
  .obtain⟨g,g1,g2⟩:=h.hi'
   exact⟨g,g1,by rw[g2];exact hb⟩
 .rintro⟨g,g1,g2⟩
  have:=h.bd g g1
  refine p6 λB=>?_
  have B:eC a lo hi=true/\eC b lo hi=true:=by
   cases e1:eC a lo hi <;> cases e2:eC b lo hi <;> simp[e1,e2] at B ⊢
  obtain⟨h1,h2⟩:=B;rw[Bool.eq_false_iff] at g2;refine g2 ?_
  cases lo <;> cases hi <;> simp[eC] at h1 h2 ⊢
  .omega
  .omega
  .omega
def wj (mg:Str->Option Value):Sp:=λvs H Q _=>∃(p r:Addr) (dat:nT) (cs:List Str) (kvs:List (Key × V)) (rm:Str->List Int),vs=[.ref p,.ref r]/\wS mg H p r dat cs kvs rm/\∀(q:Addr) (kv:List (Key × V)) H',H' q<*kv->(0 < kv.length↔∃g,okF rm cs g/\tQ dat cs g=true)->au H H'->Q (.ref q) H'
theorem E3 (h:i<=5):4 ^ i<=1024:=i8 (Nat.pow_le_pow_right ∅ h) ∅
theorem Am (h : ∀c∈cs,1<=(rm c).length) : ∃g,okF rm cs g:=by
 refine⟨λc=>(rm c).headD 0,λc B=>?_⟩
 show(rm c).headD 0∈rm c
 have:=h c B
 cases e:rm c with
 | nil=>rw[e] at this;simp at this
 | cons a b=>simp
theorem C1 (h:okF rm cs g) (B:v∈rm c):okF rm cs (cy g c v):=λx F=>by
 by_cases e:x=c
 .subst e;rw[bm];exact B
 .rw[cG _ _ e];exact h x F
theorem mD (T:Txt w K mg) (L:bW K (gJ K (ah mg "Wish") "__init__") "__init__" "Wish.__init__" bz ["self","wish"]):FnR P w K mg base (gJ K (ah mg "Wish") "__init__") 1 ["self","wish"] (dA mg "Sum"):=by
 ctx_has z bP <;> obtain⟨p,dx,fs,w,rfl,hp,B,k⟩:=h
 .rfl
 refine⟨_,(ak (bA T.cl_Sum T.no_Sum_wish (pvM 0) (pvM 1) rfl)),?_⟩
 ctx_has v hp
 exact⟨B,k⟩
theorem pv (T:Txt w K mg) (L:bW K (Mk K (ah mg "Sum")) "__init__" "Sum.__init__" gL ["self","wish"]) (B:FnR P w K mg base (gJ K (ah mg "Wish") "__init__") 1 ["self","wish"] (dA mg "Sum")):FnR P w K mg base (Mk K (ah mg "Sum")) 2 ["self","wish"] (yH mg):=by
 ctx_has z pd <;> obtain⟨p,dx,w,dat,cs,rfl,hp,W,k⟩:=h
 .rfl
 refine⟨_,(ai (cJ (iR B (hr.mono (by ctx_has m)) rfl T.at_Wish (ac (pvM 0) (ac (pvM 1) af))))
  (ai (bA T.cl_Sum T.no_Sum_terms (pvM 0) (aE ba (pvM 1) ao) rfl)
  (ai (bA T.cl_Sum T.no_Sum_low (pvM 0) (aE ba (pvM 1) ao) rfl)
  (ak (bA T.cl_Sum T.no_Sum_high (pvM 0) (aE ba (pvM 1) ao) rfl))))),?_⟩
 obtain⟨ts,lo,hi⟩:=dat;obtain⟨t,Y,h2⟩:=W;ctx_has v Y
 have F:w≠p:=aX Y hp (by intro z;cases z)
 have pt : ∀b xs,H b>>xs->b≠p:=λb xs e=>aX e hp (by intro z;cases z)
 refine⟨p,dx,[],.ref w,rfl,hp,∅,?_⟩
 ctx_has v ae
 refine⟨_,by rw[ag F];exact Y,?_⟩
 ctx_has v
 refine⟨dJ (zD _ "" "" "" _ .non .non .non),_,by rw[ag F,ag F];exact Y,?_⟩
 ctx_has v
 refine⟨dJ (zC _ _ "" "" _ _ .non .non),_,by rw[ag F,ag F,ag F];exact Y,?_⟩
 ctx_has v
 refine⟨dJ (DG _ _ _ "" _ _ _ .non),k _ ⟨dx,_,t,ae,h2.keep λa xs e=>by rw[ag (pt a xs e),ag (pt a xs e),ag (pt a xs e),ag (pt a xs e)];exact e,?_⟩ ⟨dx,_,ae,?_⟩ ?_⟩
 .simp only[br,dB,String.reduceEq,if_true,if_false,true_and,Je,and_self]
 .simp only[br,dB,String.reduceEq,if_true,if_false,true_and,Je,and_self]
 .intro b o hb e
  rw[ag hb,ag hb,ag hb,ag hb];exact e
abbrev Gf:=Fn P w K mg base "parts_of" 1 ["term","rooms"] (BX)
theorem va (T:Txt w K mg) (L:FnL K mg "parts_of" iP ["term","rooms"]) : @Gf P w K mg base:=by
 ctx_has z vj <;> obtain⟨t,r,ad,a,c,kvs,rs,rfl,Z,F,hv,B,ha,hl,k⟩:=h
 .rfl
 refine⟨_,(ak (az (bj (N:=["value","term"]) (nt:=1) (js:=[0]) (aI ["term","rooms"] (aj iP).names) (bT K (bQ hu (pvM 1) (aE ba (pvM 0) ao))) (aA 0) aP bx (aQ gC (aE ba (pvM 1) ao) (pvM 0))))),?_⟩
 ctx_has v Z F hv B
 intro q Y;refine ci aV (λv=>match v with | .int v=>.int (a * v) | _=>.non) Y (λH' s=>.of (s _ _ B)) (by rw[d_];omega) ?_ ?_
 .intro x H2 Q2 hx sm q2
  obtain⟨y,hy,rfl⟩:=i4.mp hx;have e1:=sm _ _ Z;ctx_has v e1
  exact⟨.inl ⟨(),()⟩,q2 H2 (au.refl _)⟩
 .intro H2 sm h2
  refine k q H2 sm Y ?_
  rw[h2,m6,m6];rfl
abbrev EA:=Fn P w K mg base "spans_of" 2 ["terms","rooms"] (CA)
theorem we (T:Txt w K mg) (L:FnL K mg "spans_of" lm ["terms","rooms"]) (Fm : @Gf P w K mg base) : @EA P w K mg base:=by
 ctx_has z vV <;> obtain⟨t,r,ts,kvs,rm,rfl,hT,a8,a9,a6,hl,aJ,ay,k⟩:=h
 .rfl
 refine⟨_,(ai (aF 2 (cA (ac (cq (ac ao (ac ao af))) af)))
  (ai (bq (Ea (K:=K) rfl rfl T.b_reversed (ac (pvM 0) af)) (aA 3) (ai (aF 4 (aw Fm (ac (pvM 3) (ac (pvM 1) af))))
  (ak (cJ (kF t4 t5 dW (pvM 2) (ac (cq (ac (aQ bf (aE ba (aE jr (pvM 2) (mL iW ao)) ao) (aD (nw rfl) T.b_min (ac (pvM 4) af))) (ac (aQ bf (aE ba (aE jr (pvM 2) (mL iW ao)) ao) (aD (sQ rfl) T.b_max (ac (pvM 4) af))) af))) af))))))
  (ak (az (qv rfl rfl T.b_list rfl T.b_reversed (pvM 2)))))),?_⟩
 obtain⟨as,ht,rfl,aI⟩:=hT;ctx_has v
 refine⟨∅,λz0 ax=>⟨∅,λq hq=>?_⟩⟩
 have s1:au H (upd (upd H z0 (.tup [.int 0,.int 0])) q (.lst [.ref z0])):=(au.upd0 ax).upd_new hq
 have zq:z0≠q:=by rintro rfl;rw[ae] at hq;cases hq
 have a5:H q=none:=(au.upd0 ax).free hq
 refine⟨_,s1 _ _ ht,?_⟩
 have B:(as.map λx=>V.ref x.1).length=as.length:=by simp
 have aL:as.length<=12:=by simpa using hl
 refine bX DE (λi σ H'=>∃(zs:List (Addr × Int × Int)) (v3 v4:Option V),σ=[-t,-r,-q,v3,v4]/\H' q*>(zs.map λx=>V.ref x.1)/\zs.length=i+1/\(∀x∈zs,H' x.1>>[.int x.2.1,.int x.2.2])/\(∀(j:Nat) z,zs[j]? = some z->dC rm ((as.map (·.2)).drop (as.length - j)) z.2.1 z.2.2)/\au H H')
  ⟨[(z0,0,0)],_,_,rfl,ae,rfl,λx hx=>?_,λj z Z=>?_,s1⟩ (λi σ H' a1=>by obtain⟨_,_,_,_,_,_,_,_,sm⟩:=a1;exact(.of (sm _ _ ht))) ?_ ?_
 .rw[gr.mp hx,ag zq];exact ae
 .have hj0:j=0:=by have:=(g_.mp Z).1;simp at this;omega
  subst hj0;simp at Z
  subst Z;rw[sub_zero,List.drop_of_length_le (by simp)]
  exact dC.nil rm
 .rintro i x σ H2 hi hx ⟨zs,v3,v4,rfl,h2,hzl,hzt,hzo,sm2⟩
  rw[length_reverse,B] at hi;have Y:(as.map λx=>V.ref x.1)[as.length - 1 - i]? = some x:=by
   rw[Ji (by rw[B];exact hi),B] at hx;exact hx
  have am:as.length - 1 - i < as.length:=()
  obtain⟨y,hy,rfl⟩ : ∃y,as[as.length - 1 - i]? = some y/\V.ref y.1=x:=by
   rw[fx] at Y;cases e:as[as.length - 1 - i]? with
   | none=>rw[e] at Y;cases Y
   | some nm=>rw[e] at Y;exact⟨nm,rfl,ge Y⟩
  have ab:y∈as:=g7 hy
  have aj:y.2.2∈(as.map (·.2)).map (·.2):=i4.mpr ⟨y.2,i4.mpr ⟨y,ab,rfl⟩,rfl⟩
  obtain⟨ad,hv,aG⟩:=a9 _ aj;ctx_has v
  refine⟨y.1,r,ad,y.2.1,y.2.2,kvs,rm y.2.2,rfl,sm2 _ _ (aI y ab),sm2 _ _ a8,hv,sm2 _ _ aG,aJ y.2 (i4.mpr ⟨y,ab,rfl⟩),(ay _ aj).2,λpl H3 s3 a3 h3=>?_⟩
  have a4:=s3 _ _ h2;have aM:pl≠q:=λe=>by rw[e,h2] at a3;cases a3
  rcases Ki zs with rfl | ⟨zs',zl,ezs⟩
  .simp at hzl
  rw[Jx] at ezs;have ah:atI (zs.map λx=>V.ref x.1) (-1)=some (V.ref zl.1):=by rw[ezs,t6];exact qQ _ _
  have ar:zl∈zs:=by rw[ezs];simp
  have a2:=s3 _ _ (hzt zl ar);have aq:(rm y.2.2).map (y.2.1 * ·)≠[]:=λe=>(ay _ aj).1 (List.map_eq_nil_iff.mp e)
  ctx_has v a4 ah a2 h3
  refine⟨_,rfl,aq,λm hm aC=>⟨_,rfl,aq,λM hM aB=>?_⟩⟩
  refine⟨∅,λzn a7=>?_⟩
  have s4:au H3 (upd H3 zn (.tup [.int (zl.2.1+m),.int (zl.2.2+M)])):=au.upd0 a7
  have a0:=s4 _ _ a4;have kt : ∀a xs,upd H3 zn (.tup [.int (zl.2.1+m),.int (zl.2.2+M)]) a>>xs->upd (upd H3 zn (.tup [.int (zl.2.1+m),.int (zl.2.2+M)])) q (.lst ((zs.map λx=>V.ref x.1)++[V.ref zn])) a>>xs:=λa xs e=>by rw[ag (aX e a0 (by intro z;cases z))];exact e
  refine⟨_,a0,by rw[d_];exact aK (),zs++[(zn,zl.2.1+m,zl.2.2+M)],by rw[ae];simp,by simp[hzl],λx hx=>?_,λj z Z=>?_,λb o e=>?_⟩
  .rcases j9.mp hx with w | w
   .exact kt _ _ (s4 _ _ (s3 _ _ (hzt x w)))
   .rw[gr.mp w];exact kt _ _ ae
  .by_cases hjl:j < zs.length
   .rw[tj hjl] at Z
    exact hzo j z Z
   .have hjn:j=zs.length:=by have:=(g_.mp Z).1;simp at this;omega
    subst hjn;rw[t7 (i6 _),sub_self] at Z;simp at Z
    subst Z;have an:=hzo i zl (by rw[ezs,t7 (by rw[ezs] at hzl;simp at hzl;omega)];rw[ezs] at hzl;simp at hzl;simp[hzl])
    have ed:(as.map (·.2)).drop (as.length - zs.length)=(y.2.1,y.2.2) ::(as.map (·.2)).drop (as.length - i):=by
     rw[hzl,show as.length - (i+1)=as.length - 1 - i by omega,List.drop_eq_getElem_cons (by simp;omega),show as.length - 1 - i+1=as.length - i by omega]
     congr 1
     rw[List.getElem_map];rw[o9 am] at hy;rw[ge hy]
    rw[ed];refine an.cons ?_ hm aC hM aB
    have aa:(((as.map (·.2)).drop (as.length - zs.length)).map (·.2)).Nodup:=a6.sublist ((List.drop_sublist _ _).map _)
    rw[ed,i_,m7] at aa;exact aa.1
  .rw[ag (ap e a5)];exact s4 _ _ (s3 _ _ (sm2 _ _ e))
 .rintro σ H2 ⟨zs,v3,v4,rfl,h2,hzl,hzt,hzo,sm2⟩
  rw[length_reverse,B] at hzl;ctx_has v h2
  intro lr aH;have s3:au H2 (upd H2 lr (.lst (zs.map λx=>V.ref x.1).reverse)):=au.upd0 aH
  refine k lr zs.reverse _ (sm2.trans s3) (by rw[ae,map_reverse]) (by simp[hzl]) (λx hx=>s3 _ _ (hzt x (mem_reverse.mp hx))) λi z hz=>?_
  have am:i < zs.length:=by have:=(g_.mp hz).1;simpa using this
  rw[Ji am] at hz;have:=hzo _ z hz
  rw[show as.length - (zs.length - 1 - i)=i by omega] at this
  exact this
theorem kB (T:Txt w K mg) (L:bW K (aC K (ah mg "Sum") "may_end_well") "may_end_well" "Sum.may_end_well" eO ["self","reached","behind"]):FnR P w K mg base (aC K (ah mg "Sum") "may_end_well") 1 ["self","reached","behind"] (A5 mg):=by
 ctx_has z kC <;> obtain⟨p,b,s,mn,mx,dat,cs,rfl,Z,Y,k⟩:=h
 .rfl
 refine⟨_,(ai (aF 3 (kD (ox (mT (aM T.cl_Sum T.no_Sum_low (pvM 0)))) (cO (aU jY (aM T.cl_Sum T.no_Sum_low (pvM 0)) (aQ bf (pvM 1) (aE ba (pvM 2) ao))))))
  (ai (aF 4 (kD (ox (mT (aM T.cl_Sum T.no_Sum_high (pvM 0)))) (cO (aU jY (aQ bf (pvM 1) (aE ba (pvM 2) ao)) (aM T.cl_Sum T.no_Sum_high (pvM 0))))))
  (ak (az (im (pvM 3) (cO (pvM 4))))))),?_⟩
 obtain⟨dx,fs,te,h1,h2,l1,B,F,l4⟩:=Z;obtain⟨ts,lo,hi⟩:=dat;simp only at B F k;cases lo with
 | none =>
  cases hi with
  | none=>ctx_has v h1 B F Y bV decide_true decide_false h9;simpa [gg] using k
  | some h=>ctx_has v h1 B F Y bV decide_true decide_false h9;simpa [gg] using k
 | some a =>
  cases hi with
  | none =>
   ctx_has v h1 B F Y bV decide_true decide_false h9
   refine ft (λh=>?_) (λh=>?_)
   .simpa [gg,h] using k
   .simpa [gg,h] using k
  | some c =>
   ctx_has v h1 B F Y bV decide_true decide_false h9
   refine ft (λh=>?_) (λh=>?_)
   .simpa [gg,h] using k
   .simpa [gg,h] using k
theorem mO (T : Txt w K mg) (L:bW K (aC K (ah mg "Sum") "sums_with") "sums_with" "Sum.sums_with" fR ["self","reached","parts","behind"]) (B:FnR P w K mg base (aC K (ah mg "Sum") "may_end_well") 1 ["self","reached","behind"] (A5 mg)):FnR P w K mg base (aC K (ah mg "Sum") "sums_with") 2 ["self","reached","parts","behind"] (yt mg):=by
  ctx_has z oC <;> obtain⟨p,r,l,b,kvs,ps,mn,mx,dat,cs,rfl,hO,aa,aD,hl,hb,hsz,k⟩:=h
  . rfl
  refine⟨_,(ai (aF 4 ff)
    (ai (bq (gG K (pvM 2)) (aA 5) (ak (DA (bq (IH (pvM 1)) (aA 6) (ak (bF (fU (bS T.cl_Sum B (hr.mono (by ctx_has m)) (pvM 0) (ac (aQ bf (pvM 6) (pvM 5)) (ac (pvM 3) af)))) (ak (ia hu (pvM 4) (aQ bf (pvM 6) (pvM 5)) cR rfl)) aR))))))
    (ak (az (pvM 4))))),?_⟩
  ctx_has v
  intro q hq;have s0:au H (upd H q (.dK [])):=au.upd0 hq
  have rq:r≠q:=ap aa hq
  refine⟨_,s0 _ _ hl,?_⟩
  have an : ∀j,j<=ps.length->kvs.length * j<=100000:=λj hj=>i8 (Nat.mul_le_mul_left _ hj) hsz
  refine bX cm (λi σ H'=>∃(kv:List (Key × V)) (v5 v6:Option V),σ=[-p,-r,-l,-b,-q,v5,v6]/\H' q<*kv/\oX kv/\kv.length<=kvs.length * i/\(∀s,gj kv s↔∃e,gj kvs e/\∃x∈ps.take i,s=e+x/\gg s mn mx dat.2.1 dat.2.2=true)/\(∀b o,b≠q->H b=some o->H' b=some o))
    ⟨[],_,_,rfl,ae,λx hx=>by simp at hx,by simp,λs=>⟨λh=>(by unfold gj at h;rw[fI] at h;exact absurd h (by simp)),λa4=>by obtain⟨e,_,x,hx,_⟩:=a4;exact((by simp at hx))⟩,λb o hb e=>by rw[ag hb];exact e⟩ (λi σ H' a2=>by obtain⟨_,_,_,_,_,_,_,_,kk⟩:=a2;exact(.of (kk _ _ (ap hl hq) hl))) ?_ ?_
  . rintro i x σ H2 hi hx ⟨kv,v5,v6,rfl,h2,aq,ar,Y,k2⟩
    rw[d_] at hi;obtain⟨y,hy,rfl⟩ : ∃y,ps[i]? = some y/\V.int y=x:=by
      rw[fx] at hx;cases e:ps[i]? with
      | none=>rw[e] at hx;cases hx
      | some nm=>rw[e] at hx;exact⟨nm,rfl,ge hx⟩
    have aB:ps.take (i+1)=ps.take i++[y]:=by rw[ki,hy];rfl
    have a5:=k2 r _ rq aa;have aI:kvs.length * i+kvs.length<=100000:=by rw[<- Nat.mul_succ];exact an (i+1) hi
    have aH:=an i ()
    refine⟨r,kvs,a5,?_⟩
    ctx_has v a5
    intro ob;have a6:upd H2 r (.frz ob (.dK kvs)) r=some (.frz ob (.dK kvs)):=ae
    refine bX EV (λj σ H'=>∃(kv:List (Key × V)) (v6:Option V),σ=[-p,-r,-l,-b,-q,some (.int y),v6]/\H' q<*kv/\oX kv/\kv.length<=kvs.length * i+j/\(∀s,gj kv s↔(∃e,gj kvs e/\∃x∈ps.take i,s=e+x/\gg s mn mx dat.2.1 dat.2.2=true)\/∃e,(∃v,(h_ e,v)∈kvs.take j)/\s=e+y/\gg s mn mx dat.2.1 dat.2.2=true)/\H' r=some (.frz ob (.dK kvs))/\(∀b o,b≠q->b≠r->H b=some o->H' b=some o))
      ⟨kv,_,rfl,by rw[ag rq.symm];exact h2,aq,(),λs=>⟨λh=>.inl ((Y s).mp h),λh=>(Y s).mpr (h.resolve_right λa0=>by obtain⟨e,⟨v,hv⟩,_⟩:=a0;exact(by simp at hv))⟩,a6,λb o hb ab e=>by rw[ag ab];exact k2 b o hb e⟩ (λj σ H' a3=>by obtain⟨_,_,_,_,_,_,_,h,_⟩:=a3;exact(h)) ?_ ?_
    . rintro j z σ H3 hj hz ⟨kv,v6,rfl,h3,aj,ad,F,am,k3⟩
      rw[d_] at hj;obtain⟨kx,ax,rfl⟩ : ∃kx,kvs[j]? = some kx/\kV kx.1=z:=by
        rw[fx] at hz;cases e:kvs[j]? with
        | none=>rw[e] at hz;cases hz
        | some nm=>rw[e] at hz;exact⟨nm,rfl,ge hz⟩
      obtain⟨e0,a1⟩:=aD kx (g7 ax);have ao:kx=(h_ e0,kx.2):=by rw[<- a1]
      have aw:kvs.take (j+1)=kvs.take j++[kx]:=by rw[ki,ax];rfl
      have a9:kV kx.1=V.int e0:=by rw[a1];rfl
      rw[a9];obtain⟨dx,fs,te,g1,g2,g3⟩:=hO;have pq:p≠q:=ap g1 hq
      have pr:p≠r:=aX g1 aa (by intro z;cases z)
      have aE:=k3 p _ pq pr g1;have aG:=k3 b _ (ap hb hq) (aX hb aa (by intro z;cases z)) hb
      have a8:fk H H3:=⟨λa vs e=>k3 a _ (ap e hq) (aX e aa (by intro z;cases z)) e,λa C dx fs e=>k3 a _ (ap e hq) (aX e aa (by intro z;cases z)) e,λa ks e=>k3 a _ (ap e hq) (aX e aa (by intro z;cases z)) e⟩
      have a7:OBS mg H3 p dat cs:=wt ⟨dx,fs,te,g1,g2,g3⟩ a8
      ctx_has v aE
      refine⟨g3.2.2.2.2.2.1,p,b,e0+y,mn,mx,dat,cs,rfl,a7,aG,?_⟩
      refine⟨_,rfl,ft (λhm=>?_) (λhm=>?_)⟩
      . ctx_has v h3
        have qr:q≠r:=rq.symm
        refine⟨rb (show kv.length<=200000 by omega) ∅,_,ae,aj.put,i8 (cF _ _ _) (),λs=>?_,by rw[ag rq];exact am,λb o ay ab e=>by rw[ag ay];exact k3 b o ay ab e⟩
        rw[Aj,F,aw]
        constructor
        . rintro(rfl | h | ⟨e,⟨v,hv⟩,Z⟩)
          . exact .inr ⟨e0,⟨kx.2,by rw[<- ao];simp⟩,rfl,hm⟩
          . exact .inl h
          . exact .inr ⟨e,⟨v,k9 _ hv⟩,Z⟩
        . rintro(h | ⟨e,⟨v,hv⟩,Z⟩)
          . exact .inr (.inl h)
          . rcases j9.mp hv with w | w
            . exact .inr (.inr ⟨e,⟨v,w⟩,Z⟩)
            . rw[gr,ao] at w
              have:e=e0:=Jv (congrArg Prod.fst w)
              subst this;exact .inl Z.1
      . refine⟨_,h3,aj,(),λs=>?_,am,k3⟩
        rw[F,aw]
        constructor
        . rintro(h | ⟨e,⟨v,hv⟩,Z⟩)
          . exact .inl h
          . exact .inr ⟨e,⟨v,k9 _ hv⟩,Z⟩
        . rintro(h | ⟨e,⟨v,hv⟩,Z⟩)
          . exact .inl h
          . rcases j9.mp hv with w | w
            . exact .inr ⟨e,⟨v,w⟩,Z⟩
            . rw[gr,ao] at w
              have:e=e0:=Jv (congrArg Prod.fst w)
              subst this;exact absurd (Z.1 ▸ Z.2) hm
    . rintro σ H3 ⟨kv,v6,rfl,h3,aj,ad,F,am,k3⟩
      rw[d_] at ad F;rw[m_] at F;refine⟨⟨ob,am⟩,kv,_,_,rfl,by rw[ag rq.symm];exact h3,aj,by rw[Nat.mul_succ];exact ad,λs=>?_,λb o hb e=>?_⟩
      . rw[F,aB]
        constructor
        . rintro(⟨e,he,x,hx,Z⟩ | ⟨e,hv,Z⟩)
          . exact⟨e,he,x,k9 _ hx,Z⟩
          . exact⟨e,nQ hv,y,by simp,Z⟩
        . rintro⟨e,he,x,hx,Z⟩
          rcases j9.mp hx with w | w
          . exact .inl ⟨e,he,x,w,Z⟩
          . rw[gr.mp w] at Z
            exact .inr ⟨e,ni he,Z⟩
      . by_cases ab:b=r
        . subst ab;rw[aa] at e;rw[ae];exact e
        . rw[ag ab];exact k3 b o hb ab e
  . rintro σ H2 ⟨kv,v5,v6,rfl,h2,aq,ar,Y,k2⟩
    rw[d_] at ar Y;rw[m_] at Y;ctx_has v
    exact k q kv H2 (λb o e=>k2 b o (ap e hq) e) h2 aq ar Y
theorem mR (T:Txt w K mg) (L:bW K (aC K (ah mg "Sum") "sums_kept") "sums_kept" "Sum.sums_kept" gc ["self","rooms"]) (Fl : @EA P w K mg base) (Fm : @Gf P w K mg base) (B:FnR P w K mg base (aC K (ah mg "Sum") "sums_with") 2 ["self","reached","parts","behind"] (yt mg)):FnR P w K mg base (aC K (ah mg "Sum") "sums_kept") 4 ["self","rooms"] (wj mg):=by
 ctx_has z on <;> obtain⟨p,r,dat,cs,kvs,rm,rfl,M,k⟩:=h
 .rfl
 refine⟨_,(ai (aF 2 (aw Fl (ac (aM T.cl_Sum T.no_Sum_terms (pvM 0)) (ac (pvM 1) af))))
  (ai (aF 3 (uN (ir ao cR uG) rfl rfl (by nofun) ∅))
  (ai (bq (AY (K:=K) rfl rfl T.b_enumerate (ac (aM T.cl_Sum T.no_Sum_terms (pvM 0)) af)) (gu (n:=2) rfl (bO (aA 4) (bO (aA 5) gp))) (ak (aF 3 (bS T.cl_Sum B (hr.mono (by ctx_has m)) (pvM 0) (ac (pvM 3) (ac (aw Fm (ac (pvM 5) (ac (pvM 1) af))) (ac (aE jr (pvM 2) (aQ bf (pvM 4) ao)) af)))))))
  (ak (az (pvM 3)))))),?_⟩
 obtain⟨dx,fs,te,h1,h2,l1,l2,l3,l4,l5,l6,l7,l8⟩:=M.ob;obtain⟨ts,lo,hi⟩:=dat;have a6:=M.ok;have a3:=M.nd;have a4:=M.rd;simp only[Gh] at a6 h2 l2 l3;obtain⟨bb,a5,aG⟩:=a6;subst bb;have a7:=M.cl;rw[d_] at a7;obtain⟨as,aH,rfl,aZ⟩:=id h2;ctx_has v h1 l1
 refine⟨te,r,_,kvs,rm,rfl,h2,a4,M.rf,a3,(),aG,λc hc=>(by have:=M.gd c hc;exact⟨λe=>by rw[e] at this;simp at this,()⟩),λsl zs H1 s1 e1 bc aL aY=>?_⟩
 ctx_has v
 intro q hq;refine⟨ae,[(h_ 0,.bl true)],rfl,∅,?_⟩
 have em:jP ([]:List (Key × V)) [(h_ 0,.bl true)]=[(h_ 0,.bl true)]:=fh _ fI
 rw[em];have s2:au H1 (upd (upd H1 q (.dK [])) q (.dK [(h_ 0,.bl true)])):=λb o e=>by rw[ag (ap e hq),ag (ap e hq)];exact e
 have aI:upd (upd H1 q (.dK [])) q (.dK [(h_ 0,.bl true)]) q<*[(h_ 0,.bl true)]:=ae
 generalize upd (upd H1 q (.dK [])) q (.dK [(h_ 0,.bl true)])=H2 at s2 aI ⊢;have a1:=s1.trans s2;have g1:=a1 _ _ h1;have g2:=a1 _ _ aH;ctx_has v g1 l1 g2
 have h4:=λi (hi:i<=5)=>E3 hi
 have a0 : ∀g,tQ (as.map (·.2),lo,hi) (((as.map (·.2))).map (·.2)) g=eC (fE (as.map (·.2)) g) lo hi:=λg=>rfl
 simp only[a0] at k;have bd:as.length<=5:=by simpa using a7
 refine F8 (xs:=as.map λx=>V.ref x.1) (λi σ H'=>∃(q:Addr) (kv:List (Key × V)) (v4 v5:Option V),σ=[-p,-r,-sl,-q,v4,v5]/\H' q<*kv/\oX kv/\kv.length<=4 ^ i/\(∀s,gj kv s->∃g,okF rm ((as.map (·.2)).map (·.2)) g/\fE ((as.map (·.2)).take i) g=s/\(0 < i->∃mn mx,dC rm ((as.map (·.2)).drop i) mn mx/\gg s mn mx lo hi=true))/\(∀g,okF rm ((as.map (·.2)).map (·.2)) g->eC (fE (as.map (·.2)) g) lo hi=true->gj kv (fE ((as.map (·.2)).take i) g))/\au H H'/\au H1 H')
  ⟨q,_,_,_,rfl,aI,λx hx=>⟨0,by rw[gr.mp hx]⟩,by simp,λs hs=>?_,λg _ _=>?_,a1,s2⟩ (λi σ H' aK=>by obtain⟨_,_,_,_,_,_,_,_,_,_,sm,_⟩:=aK;exact(.of (sm _ _ aH))) ?_ ?_
 .obtain⟨v,hv⟩:=ni hs
  have e0:s=0:=Jv (congrArg Prod.fst (gr.mp hv))
  obtain⟨g,hg⟩:=Am (rm:=rm) (cs:=(as.map (·.2)).map (·.2)) λc hc=>(M.gd c hc).1
  exact⟨g,hg,by rw[e0];rfl,λh=>absurd h ()⟩
 .exact nQ ⟨.bl true,gr.mpr rfl⟩
 .rintro i x σ H3 t hx ⟨q,kv,v4,v5,rfl,h3,hik,hkl,hso,hcm,s3,s13⟩ ht
  obtain⟨y,hy,rfl⟩ : ∃y,as[i]? = some y/\V.ref y.1=x:=by
   rw[fx] at hx;cases e:as[i]? with
   | none=>rw[e] at hx;cases hx
   | some nm=>rw[e] at hx;exact⟨nm,rfl,ge hx⟩
  have bh:i < as.length:=(g_.mp hy).1
  have ar:y∈as:=g7 hy
  have F:y.2.2∈(as.map (·.2)).map (·.2):=i4.mpr ⟨y.2,i4.mpr ⟨y,ar,rfl⟩,rfl⟩
  obtain⟨ad,hv,aS⟩:=M.rf _ F;have st:au H3 (upd H3 t (.tup [.int (i:Nat),.ref y.1])):=au.upd0 ht
  have aj:=s3.trans st;have f1:=aj _ _ h1;have am:upd H3 t (.tup [.int (i:Nat),.ref y.1]) t>>[.int (i:Nat),.ref y.1]:=ae
  ctx_has v am f1
  refine⟨l7,y.1,r,ad,y.2.1,y.2.2,kvs,rm y.2.2,rfl,aj _ _ (aZ y ar),aj _ _ a4,hv,aj _ _ aS,aG y.2 (i4.mpr ⟨y,ar,rfl⟩),by have:=(M.gd _ F).2.1;omega,λpl H4 s4 bi aW=>?_⟩
  have aq:=s13.trans st;have aU:=(aq.trans s4) _ _ e1;obtain⟨zn,ax⟩ : ∃zn,zs[i+1]? = some zn:=⟨zs[i+1]'(by rw[bc];simp;omega),by simp⟩
  have a9:zn∈zs:=g7 ax
  have aB:atI (zs.map λx=>V.ref x.1) ((i:Int)+1)=some (V.ref zn.1):=cE (j:=i+1) (by rw[fx,ax];rfl)
  ctx_has v aU aB
  have Y:=aY (i+1) zn ax;have aP:=(M.gd _ F).2.1;have bg:=h4 (i+1) ()
  have hb:kv.length * ((rm y.2.2).map (y.2.1 * ·)).length<=4 ^ (i+1):=by
   rw[d_,Nat.pow_succ];exact Nat.mul_le_mul hkl aP
  have a8:=aj.trans s4;refine⟨p,q,pl,zn.1,kv,_,zn.2.1,zn.2.2,(as.map (·.2),lo,hi),(as.map (·.2)).map (·.2),rfl,wt M.ob (au.keepTI a8),(st.trans s4) _ _ h3,hik,aW,(aq.trans s4) _ _ (aL zn a9),(),λq5 aR H5 s5 h5 aD be Z=>?_⟩
  have ay:(as.map (·.2)).take (i+1)=(as.map (·.2)).take i++[y.2]:=by rw[ki,fx,hy];rfl
  have aX:y.2.2∉((as.map (·.2)).take i).map (·.2):=λhm=>by
   have aJ:(((as.map (·.2)).take (i+1)).map (·.2)).Nodup:=a3.sublist ((Jy _ _).map _)
   rw[ay,t6,t_] at aJ;exact aJ.2.2 _ hm _ (by simp) rfl
  refine⟨q5,rfl,aR,h5,aD,(),λs hs=>?_,λg hg hk=>?_,a8.trans s5,(aq.trans s4).trans s5⟩
  .obtain⟨e,he,x,hx,rfl,an⟩:=(Z s).mp hs
   obtain⟨g,ab,aa,_⟩:=hso e he;obtain⟨v,aO,rfl⟩:=i4.mp hx;refine⟨cy g y.2.2 v,C1 ab aO,?_,λ_=>⟨_,_,Y,an⟩⟩
   rw[ay,jd,kS aX,aa];simp[fE,bm]
  .rw[Z]
   refine⟨_,hcm g hg hk,y.2.1 * g y.2.2,i4.mpr ⟨g y.2.2,hg _ F,rfl⟩,?_,C4 Y hg hk⟩
   rw[ay,jd];simp[fE]
 .rintro σ H3 ⟨q,kv,v4,v5,rfl,h3,hik,hkl,hso,hcm,s3,s13⟩
  rw[d_] at hso hcm;have am:(as.map (·.2)).take as.length=as.map (·.2):=nH (by simp)
  have aV:(as.map (·.2)).drop as.length=[]:=List.drop_of_length_le (by simp)
  rw[am] at hcm;simp only[am,aV] at hso;ctx_has v h3
  refine k _ kv H3 h3 ?_ s3
  have a2:0 < as.length:=by
   rcases as with _ | ⟨y,as⟩
   .exact absurd rfl a5
   .simp
  constructor
  .intro hpos
   rcases kv with _ | ⟨y,kv⟩
   .simp at hpos
   obtain⟨e0,aT⟩:=hik y (by simp)
   obtain⟨g,ab,aa,aN⟩:=hso e0 (nQ ⟨y.2,by rw[<- aT];simp⟩)
   obtain⟨mn,mx,ba,an⟩:=aN a2;rw[AM ba] at an;exact⟨g,ab,by rw[aa];exact an⟩
  .rintro⟨g,ab,aa⟩
   obtain⟨v,hv⟩:=ni (hcm g ab aa);have:=Jo hv
   omega
theorem px (T:Txt w K mg) (L:bW K (aC K (ah mg "Sum") "may_keep") "may_keep" "Sum.may_keep" gz ["self","rooms"]) (B:FnR P w K mg base (aC K (ah mg "Sum") "sums_kept") 4 ["self","rooms"] (wj mg)):FnR P w K mg base (aC K (ah mg "Sum") "may_keep") 22 ["self","rooms"] (dN mg):=by
 ctx_has z pi <;> obtain⟨p,r,dat,cs,kvs,rm,rfl,M,k⟩:=h
 .rfl
 refine⟨_,(ak (az (aU qJ (aD zI T.b_len (ac (bS T.cl_Sum B (hr.mono (by ctx_has m)) (pvM 0) (ac (pvM 1) af)) af)) ao))),?_⟩
 obtain⟨dx,fs,te,h1,h2,l1,l2,l3,l4,l5,l6,l7,l8⟩:=id M.ob;ctx_has v h1
 refine⟨l8,p,r,dat,cs,kvs,rm,rfl,M,λq kv Z h3 F Y=>?_⟩
 ctx_has v h3
 refine k _ Z ?_ Y
 rw[decide_eq_true_eq,<- F];omega
theorem mM (T:Txt w K mg) (L:bW K (aC K (ah mg "Sum") "may_break") "may_break" "Sum.may_break" fZ ["self","rooms"]) (Fl : @EA P w K mg base) (Fc : @Dz5 P w K mg base):FnR P w K mg base (aC K (ah mg "Sum") "may_break") 22 ["self","rooms"] (cW mg):=by
 ctx_has z nE <;> obtain⟨p,r,dat,cs,kvs,rm,rfl,M,k⟩:=h
 .rfl
 refine⟨_,(ai (aF 2 (aE jr (aw Fl (ac (aM T.cl_Sum T.no_Sum_terms (pvM 0)) (ac (pvM 1) af))) ao))
  (ak (az (kD (Cc (aw Fc (ac (aE ba (pvM 2) ao) (ac (aM T.cl_Sum T.no_Sum_low (pvM 0)) (ac (aM T.cl_Sum T.no_Sum_high (pvM 0)) af))))) (cO (Cc (aw Fc (ac (aE ba (pvM 2) ao) (ac (aM T.cl_Sum T.no_Sum_low (pvM 0)) (ac (aM T.cl_Sum T.no_Sum_high (pvM 0)) af)))))))))),?_⟩
 obtain⟨dx,fs,te,h1,h2,l1,l2,l3,l4,l5,l6,l7,l8⟩:=M.ob;obtain⟨ts,lo,hi⟩:=dat;have ad:=M.ok;have am:=M.nd;have an:=M.rd;simp only[Gh] at ad h2 l2 l3;obtain⟨ap,a0,ay⟩:=ad;subst ap;have aq:=M.cl;rw[d_] at aq;ctx_has v h1 l1
 refine⟨te,r,ts,kvs,rm,rfl,h2,an,M.rf,am,(),ay,λc hc=>(by have:=M.gd c hc;exact⟨λe=>by rw[e] at this;simp at this,()⟩),λsl zs H1 s1 e1 a1 aj ar=>?_⟩
 obtain⟨B,F⟩ : ∃B,zs[0]? = some B:=⟨zs[0]'(),by simp⟩
 have ab:B∈zs:=g7 F
 have ax:atI (zs.map λx=>V.ref x.1) 0=some (V.ref B.1):=cE (j:=0) (by rw[fx,F];rfl)
 have Y:=ar 0 B F;rw[drop_zero] at Y;have Z:=aj B ab;have g1:=s1 _ _ h1;ctx_has v e1 ax Z g1 l2 l3
 refine⟨B.2.1,lo,hi,rfl,λH2 s2=>?_⟩
 have g2:=(s1.trans s2) _ _ h1;have ag:=s2 _ _ Z;have aa:=vC (lo:=lo) (hi:=hi) Y;cases eb:eC B.2.1 lo hi with
 | false =>
  ctx_has v Bool.not_false
  refine k true H2 ?_ (s1.trans s2)
  refine Iff.trans ?_ aa
  rw[eb];simp
 | true =>
  ctx_has v Jb h9 ag g2 l2 l3
  refine⟨B.2.2,lo,hi,rfl,λH3 s3=>?_⟩
  refine⟨_,rfl,k _ H3 ?_ ((s1.trans s2).trans s3)⟩
  refine Iff.trans ?_ aa
  rw[eb];simp
abbrev tR:=List Str
def WSU (H:Hp) (w:Addr) (dat:tR) (cs:List Str):Prop:=∃B,H w>>[.str "unlike",.ref B]/\H B>>(dat.map V.str)
def Ir (dat:tR) (cs:List Str):Prop:=dat.Perm cs
def OBU (mg:Str->Option Value) (H:Hp) (t:Addr) (dat:tR) (cs:List Str):Prop:=∃dx fs B,H t=some (.ins (ah mg "Unlike") dx fs)/\fs.lookup (b_ "cells")=some (.ref B)/\H B>>(dat.map V.str)/\fs.lookup (b_ "may_keep")=none/\fs.lookup (b_ "may_break")=none
theorem yz {t:Addr} {dat:tR} (h:OBU mg H t dat cs) : ∃dx fs,H t=some (.ins (ah mg "Unlike") dx fs)/\fs.lookup (b_ "may_keep")=none/\fs.lookup (b_ "may_break")=none:=by
 obtain⟨dx,fs,Y,h1,h2,L,F,B⟩:=h;exact⟨dx,fs,h1,F,B⟩
def AC (dat:tR) (cs:List Str) (g:Str->Int):Bool:=decide ((dat.map g).Nodup)
def yL (mg:Str->Option Value):Sp:=λvs H Q _=>∃(p dx w:Addr) (dat:tR) (cs:List Str),vs=[.ref p,.ref w]/\H p=some (.ins (ah mg "Unlike") dx [])/\WSU H w dat cs/\∀H',OBU mg H' p dat cs->HW mg "Unlike" H' p w->gK p H H'->Q .non H'
structure Cr (mg:Str->Option Value) (H:Hp) (p r:Addr) (dat:tR) (cs:List Str) (kvs:List (Key × V)) (rm:Str->List Int):Prop where
 ob:OBU mg H p dat cs
 rd:H r<*kvs
 rf:aY H kvs cs rm
 ok:Ir dat cs
 nd:cs.Nodup
 cl:cs.length<=5
 gd : ∀c∈cs,1<=(rm c).length/\(rm c).length<=4/\(rm c).Nodup
def dE (mg:Str->Option Value):Sp:=λvs H Q _=>∃(p r:Addr) (dat:tR) (cs:List Str) (kvs:List (Key × V)) (rm:Str->List Int),vs=[.ref p,.ref r]/\Cr mg H p r dat cs kvs rm/\∀(b:Bool) H',(b=true↔∃g,okF rm cs g/\AC dat cs g=true)->au H H'->Q (.bl b) H'
def cV (mg:Str->Option Value):Sp:=λvs H Q _=>∃(p r:Addr) (dat:tR) (cs:List Str) (kvs:List (Key × V)) (rm:Str->List Int),vs=[.ref p,.ref r]/\Cr mg H p r dat cs kvs rm/\∀(b:Bool) H',(b=true↔∃g,okF rm cs g/\AC dat cs g=false)->au H H'->Q (.bl b) H'
theorem fm {dat:List Str} (Z:dat.Nodup) : ¬ (dat.map g).Nodup↔∃c∈dat,∃F∈dat,c≠F/\g c=g F:=by
 constructor
 .intro h
  refine p6 λB=>h ?_
  refine G5.mpr (If (λ{a b} ha hb q e=>B ⟨a,ha,b,hb,q,e⟩) Z)
 .rintro⟨c,hc,F,hc',hne,e⟩ h
  obtain⟨i,hi,Y⟩:=v9 hc;obtain⟨j,hj,L⟩:=v9 hc';have e1:(dat.map g)[i]? = some (g c):=by simp[hi,Y]
  have e2:(dat.map g)[j]? = some (g c):=by simp[hj,L,e]
  have:=fM h e1 e2
  subst this;exact hne (Y.symm.trans L)
theorem EJ {B:Str} (L:c≠B) (Z:v∈rm c) (F:v'∈rm B) (Y : ∀x∈cs,1<=(rm x).length) : ∃g,okF rm cs g/\g c=v/\g B=v':=by
 refine⟨λx=>if x=c then v else if x=B then v' else(rm x).headD 0,λx hx=>?_,by simp,by simp[k_ L]⟩
 by_cases e:x=c
 .subst e;simp;exact Z
 .by_cases e':x=B
  .subst e';simp[e];exact F
  .simp[e,e']
   have:=Y x hx
   cases h:rm x with
   | nil=>rw[h] at this;simp at this
   | cons a b=>simp
def iB (x:Int × Str):Key × V:=(h_ x.1,.str x.2)
def jm (v:Int):Key × V:=(h_ v,.bl true)
def bB:List (Int × Str)->Int->Option Str
 | [],_=>none
 | (w,x) :: r,v=>if w=v then some x else bB r v
def eh:List (Int × Str)->Int->Str->List (Int × Str)
 | [],v,c=>[(v,c)]
 | (w,x) :: r,v,c=>if w=v then(w,c) :: r else(w,x) :: eh r v c
def eR:List (Int × Str)->Str->Nat
 | [],_=>0
 | (_,x) :: r,y=>(if x=y then 1 else 0)+eR r y
theorem mV : ∀(hl:List (Int × Str)) (v:Int),bJ (hl.map iB) (h_ v)=(bB hl v).map V.str
 | [],v=>rfl
 | (w,x) :: r,v=>by
  rw[i_]
  by_cases h:w=v
  .subst h
   rw[show iB (w,x)=(h_ w,.str x) from rfl,bu rfl]
   simp[bB]
  .rw[show iB (w,x)=(h_ w,.str x) from rfl,aW (λz=>h (Jv z)),mV r v]
   simp[bB,h]
theorem xN {k B:Key} {v v':V} {r:List (Key × V)}:bv ((k,v) :: r) B v'=if k=B then(k,v') :: r.map (λkv=>if kv.1=B then(kv.1,v') else kv) else(k,v) :: bv r B v':=by
 unfold bv
 by_cases h:k=B
 .simp[h]
 .simp only[any_cons,decide_eq_false h,Bool.false_or,if_neg h,i_]
  split <;> simp
theorem oK {B:Key} {v':V} : ∀{r:List (Key × V)},bJ r B=none->r.map (λkv=>if kv.1=B then(kv.1,v') else kv)=r
 | [],_=>rfl
 | (k,v) :: r,h=>by
  by_cases e:k=B
  .rw[bu e] at h;cases h
  .rw[aW e] at h
   rw[i_,oK h];simp[e]
theorem yl {hl:List (Int × Str)} (h:v∉hl.map (·.1)):bB hl v=none:=by
 induction hl with
 | nil=>rfl
 | cons p r B =>
  obtain⟨w,x⟩:=p;simp at h
  unfold bB;rw[if_neg (λz=>h.1 z.symm)]
  exact B (by simpa using h.2)
theorem nj : ∀{hl:List (Int × Str)} (v:Int) (c:Str),(hl.map (·.1)).Nodup->bv (hl.map iB) (h_ v) (.str c)=(eh hl v c).map iB
 | [],v,c,_=>rfl
 | (w,x) :: r,v,c,hn=>by
  rw[i_,m7] at hn;rw[i_,show iB (w,x)=(h_ w,.str x) from rfl,xN]
  by_cases h:w=v
  .subst h
   rw[if_pos rfl,oK (by rw[mV,yl hn.1];rfl)]
   simp[eh,iB]
  .rw[if_neg (λz=>h (Jv z)),nj v c hn.2]
   simp[eh,h,iB]
theorem nv (v:Int) (c:Str) (v':Int) : ∀hl:List (Int × Str),bB (eh hl v c) v'=if v'=v then some c else bB hl v'
 | []=>by
  by_cases h:v'=v
  .subst h;simp[eh,bB]
  .simp[eh,bB,h,k_ h]
 | (w, x) :: r=>by
  unfold eh
  by_cases h:w=v
  .subst h
   by_cases h2:v'=w
   .subst h2;simp[bB]
   .simp[bB,h2,k_ h2]
  .rw[if_neg h]
   by_cases h2:w=v'
   .subst h2
    simp[bB,h]
   .simp only[bB,if_neg h2,nv v c v' r]
theorem sP (v:Int) (c:Str) : ∀{hl:List (Int × Str)},(hl.map (·.1)).Nodup->((eh hl v c).map (·.1)).Nodup/\∀w,w∈(eh hl v c).map (·.1)↔w=v\/w∈hl.map (·.1)
 | [],_=>by simp[eh]
 | (w, x) :: r,hn=>by
  rw[i_,m7] at hn;unfold eh
  by_cases h:w=v
  .subst h
   rw[if_pos rfl];refine⟨by simpa using hn,λu=>?_⟩
   simp
  .rw[if_neg h]
   have B:=sP v c hn.2;refine⟨?_,λu=>?_⟩
   .rw[i_,m7]
    refine⟨λz=>?_,B.1⟩
    rcases (B.2 w).mp z with e | e
    .exact h e
    .exact hn.1 e
   .rw[i_,i7,B.2 u,i_,i7]
    constructor
    .rintro(e | e | e)
     .exact .inr (.inl e)
     .exact .inl e
     .exact .inr (.inr e)
    .rintro(e | e | e)
     .exact .inr (.inl e)
     .exact .inl e
     .exact .inr (.inr e)
theorem qE (v:Int) (c y:Str) : ∀{hl:List (Int × Str)},(hl.map (·.1)).Nodup->eR (eh hl v c) y+(if bB hl v=some y then 1 else 0)=eR hl y+(if c=y then 1 else 0)
 | [],_=>by simp[eh,eR,bB]
 | (w,x) :: r,hn=>by
  rw[i_,m7] at hn;unfold eh bB
  by_cases h:w=v
  .subst h
   rw[if_pos rfl,if_pos rfl];simp only[eR,Option.some.injEq]
   split <;> split <;> omega
  .rw[if_neg h,if_neg h]
   have B:=qE v c y hn.2;simp only[eR];omega
theorem uV {v:Int} {c:Str} {x:Int × Str} : ∀{hl:List (Int × Str)},x∈eh hl v c->x=(v,c)\/x∈hl
 | [],h=>by simp[eh] at h;exact .inl h
 | (w, z) :: r,h=>by
  unfold eh at h
  by_cases e:w=v
  .subst e
   rw[if_pos rfl] at h;rcases i7.mp h with q | q
   .exact .inl q
   .exact .inr (by simp[q])
  .rw[if_neg e] at h
   rcases i7.mp h with q | q
   .exact .inr (by simp[q])
   .rcases uV q with q | q
    .exact .inl q
    .exact .inr (by simp[q])
theorem gx {v:Int} {x:Str} : ∀{hl:List (Int × Str)},bB hl v=some x->(v,x)∈hl
 | (w,z) :: r,h=>by
  unfold bB at h
  by_cases e:w=v
  .subst e;rw[if_pos rfl] at h;cases h;simp
  .rw[if_neg e] at h;simp[gx h]
theorem nM {v:Int} {x:Str} : ∀{hl:List (Int × Str)},(hl.map (·.1)).Nodup->(v,x)∈hl->bB hl v=some x
 | (w,z) :: r,hn,h=>by
  rw[i_,m7] at hn;rcases i7.mp h with q | q
  .cases q;simp[bB]
  .have hne:w≠v:=λe=>hn.1 (by subst e;exact i4.mpr ⟨_,q,rfl⟩)
   unfold bB;rw[if_neg hne];exact nM hn.2 q
theorem li:(bJ (tl.map jm) (h_ v)).isSome=decide (v∈tl):=by
 induction tl with
 | nil=>rfl
 | cons w r B =>
  rw[i_]
  by_cases h:w=v
  .subst h
   rw[show jm w=(h_ w,.bl true) from rfl,bu rfl]
   simp
  .rw[show jm w=(h_ w,.bl true) from rfl,aW (λz=>h (Jv z)),B]
   simp[k_ h]
theorem zO (h:v∉tl):bv (tl.map jm) (h_ v) (.bl true)=(tl++[v]).map jm:=by
 rw[fh]
 .simp[jm]
 .have:=li (tl:=tl) (v:=v)
  rw[decide_eq_false h] at this;cases e:bJ (tl.map jm) (h_ v) with
  | none=>rfl
  | some x=>rw[e] at this;cases this
structure dR (H:Hp) (r ha ta:Addr) (CS:List Str) (kvs:List (Key × V)) (rm:Str->List Int) (U:List Int) (hl:List (Int × Str)) (tl:List Int):Prop where
 rd:H r<*kvs
 rf:aY H kvs CS rm
 hh:H ha<*(hl.map iB)
 ht:H ta<*(tl.map jm)
 ne:r≠ha/\r≠ta/\ha≠ta
 hk:(hl.map (·.1)).Nodup
 hv : ∀x∈hl,x.2∈CS/\x.1∈rm x.2
 tn:tl.Nodup
 tu : ∀v∈tl,v∈U
 ru : ∀x∈CS,∀v∈rm x,v∈U
 ul:U.length<=100
 rl : ∀x∈CS,(rm x).length<=100
def ke (n:Nat):Sp:=λvs H Q _=>∃(r ha ta:Addr) (CS:List Str) (kvs:List (Key × V)) (rm:Str->List Int) (U:List Int) (hl:List (Int × Str)) (tl:List Int) (c:Str),vs=[.str c,.ref r,.ref ha,.ref ta]/\dR H r ha ta CS kvs rm U hl tl/\c∈CS/\(U.filter λv=>decide (v∉tl)).length<=n /\
 ∀ (b:Bool) (F:List (Int × Str)) (B:List Int) (H':Hp),dR H' r ha ta CS kvs rm U F B->(∀v∈tl,v∈B)->(∀a o,a≠ha->a≠ta->H a=some o->H' a=some o) ->
  (b=true->(∀y,eR F y=eR hl y+if c=y then 1 else 0)/\∀v∈tl,bB F v=bB hl v)->(b=false->F=hl/\(∀v∈rm c,v∈B)/\∀v∈B,v∉tl->∃x,bB hl v=some x/\∀v'∈rm x,v'∈B)->Q (.bl b) H'
theorem dR.small {r ta:Addr} {hl:List (Int × Str)} (k:dR H r ha ta CS kvs rm U hl tl):hl.length<=100/\tl.length<=100:=by
 have h1:=fj k.tn k.tu;have h2:=fj (ys:=U) k.hk λv hv=>by
  obtain⟨x,B,rfl⟩:=i4.mp hv;exact k.ru _ (k.hv x B).1 _ (k.hv x B).2
 rw[d_] at h2;have:=k.ul
 omega
theorem dR.tryV {r ta:Addr} {hl:List (Int × Str)} (k:dR H r ha ta CS kvs rm U hl tl) (hv:v∉tl) (hu:v∈U):dR (upd H ta (.dK ((tl++[v]).map jm))) r ha ta CS kvs rm U hl (tl++[v]):=by
 refine⟨by rw[ag k.ne.2.1];exact k.rd,k.rf.same λa vs e=>by rw[ag (aX e k.ht (by intro z;cases z))];exact e,by rw[ag k.ne.2.2];exact k.hh,ae,k.ne,k.hk,k.hv,?_,λx F=>?_,k.ru,k.ul,k.rl⟩
 .rw[t_]
  exact⟨k.tn,by simp,λa ha b B=>by rw[gr.mp B];rintro rfl;exact hv ha⟩
 .rcases j9.mp F with q | q
  .exact k.tu x q
  .rw[gr.mp q];exact hu
theorem dR.hold {r ta:Addr} {hl:List (Int × Str)} (k:dR H r ha ta CS kvs rm U hl tl) (B:c∈CS) (hv:v∈rm c):dR (upd H ha (.dK ((eh hl v c).map iB))) r ha ta CS kvs rm U (eh hl v c) tl:=by
 refine⟨by rw[ag k.ne.1];exact k.rd,k.rf.same λa vs e=>by rw[ag (aX e k.hh (by intro z;cases z))];exact e,ae,by rw[ag k.ne.2.2.symm];exact k.ht,k.ne,(sP v c k.hk).1,λx F=>?_,k.tn,k.tu,k.ru,k.ul,k.rl⟩
 rcases uV F with q | q
 .rw[q];exact⟨B,hv⟩
 .exact k.hv x q
theorem xG {B:List Int} (h : ∀v∈tl,v∈B):(U.filter λx=>decide (x∉B)).length<=(U.filter λx=>decide (x∉tl)).length:=by
 induction U with
 | nil=>simp
 | cons a r F =>
  rw[x3,x3]
  by_cases h1:a∈tl
  .have h2:=h a h1
   simp[h1,h2];simpa using F
  .by_cases h2:a∈B
   .simp[h1,h2];have:=F;simp at this;omega
   .simp[h1,h2];simpa using F
theorem Bl (hu:v∈U) (L:v∉tl):(U.filter λx=>decide (x∉tl++[v])).length < (U.filter λx=>decide (x∉tl)).length:=by
 induction U with
 | nil=>simp at hu
 | cons a r B =>
  have F : ∀r:List Int,(r.filter λx=>decide (x∉tl++[v])).length<=(r.filter λx=>decide (x∉tl)).length:=by
   intro r
   induction r with
   | nil=>simp
   | cons b r B =>
    rw[x3,x3]
    by_cases h1:b∈tl
    .simp[h1];simpa using B
    .by_cases h2:b=v
     .subst h2;simp[h1];have:=B;simp at this;omega
     .simp[h1,h2];simpa using B
  rw[x3,x3]
  by_cases h2:a=v
  .subst h2
   have:=F r
   simp[L]
   simp at this
   omega
  .have hr:v∈r:=by
    rcases i7.mp hu with q | q
    .exact absurd q.symm h2
    .exact q
   have:=B hr
   by_cases h1:a∈tl
   .simp[h1];simpa using this
   .simp[h1,h2];simpa using this
theorem lM (T:Txt w K mg) (L:bW K (gJ K (ah mg "Wish") "__init__") "__init__" "Wish.__init__" bz ["self","wish"]):FnR P w K mg base (gJ K (ah mg "Wish") "__init__") 1 ["self","wish"] (dA mg "Unlike"):=by
 ctx_has z bP <;> obtain⟨p,dx,fs,w,rfl,hp,B,k⟩:=h
 .rfl
 refine⟨_,(ak (bA T.cl_Unlike T.no_Unlike_wish (pvM 0) (pvM 1) rfl)),?_⟩
 ctx_has v hp
 exact⟨B,k⟩
theorem lf (T:Txt w K mg) (L:bW K (Mk K (ah mg "Unlike")) "__init__" "Unlike.__init__" eZ ["self","wish"]) (B:FnR P w K mg base (gJ K (ah mg "Wish") "__init__") 1 ["self","wish"] (dA mg "Unlike")):FnR P w K mg base (Mk K (ah mg "Unlike")) 2 ["self","wish"] (yL mg):=by
 ctx_has z ls <;> obtain⟨p,dx,w,dat,cs,rfl,hp,W,k⟩:=h
 .rfl
 refine⟨_,(ai (cJ (iR B (hr.mono (by ctx_has m)) rfl T.at_Wish (ac (pvM 0) (ac (pvM 1) af))))
  (ak (bA T.cl_Unlike T.no_Unlike_cells (pvM 0) (aE ba (pvM 1) ao) rfl))),?_⟩
 obtain⟨Y,F,Z⟩:=W;ctx_has v F
 have pw:w≠p:=aX F hp (by intro z;cases z)
 have pc:Y≠p:=aX Z hp (by intro z;cases z)
 refine⟨p,dx,[],.ref w,rfl,hp,∅,?_⟩
 ctx_has v ae
 refine⟨_,by rw[ag pw];exact F,?_⟩
 ctx_has v
 refine⟨rb (eE _ _ _) ∅,k _ ⟨dx,_,Y,ae,?_,by rw[ag pc,ag pc];exact Z,?_⟩ ⟨dx,_,ae,?_⟩ ?_⟩
 .simp only[br,dB,String.reduceEq,if_true,if_false]
 .simp only[br,dB,String.reduceEq,if_true,if_false,true_and,Je,and_self]
 .simp only[br,dB,String.reduceEq,if_true,if_false,true_and,Je,and_self]
 .intro b o hb e
  rw[ag hb,ag hb];exact e
theorem kA (T:Txt w K mg) (L:bW K (aC K (ah mg "Unlike") "may_break") "may_break" "Unlike.may_break" eN ["self","rooms"]):FnR P w K mg base (aC K (ah mg "Unlike") "may_break") 22 ["self","rooms"] (cV mg):=by
  ctx_has z kz <;> obtain⟨p,r,dat,cs,kvs,rm,rfl,M,k⟩:=h
  . rfl
  refine⟨_,(ai (aF 2 ff)
    (ai (bq (bT K (aM T.cl_Unlike T.no_Unlike_cells (pvM 0))) (aA 3) (ak (bq (bT K (bQ hu (pvM 1) (pvM 3))) (aA 4) (ai (bF (nU (D0 hu (pvM 4) (pvM 2))) (ak (az cR)) aR)
    (ak (ia hu (pvM 2) (pvM 4) cR rfl))))))
    (ak (az cR)))),?_⟩
  obtain⟨dx,fs,ce,h1,f1,a6,_,_⟩:=M.ob;have aB:=M.rd;have aw:dat.Nodup:=M.ok.nodup_iff.mpr M.nd
  have aN:dat.length=cs.length:=M.ok.length_eq
  have aL:=M.cl;have ac : ∀c∈dat,c∈cs:=λc hc=>M.ok.mem_iff.mp hc
  ctx_has v
  intro se a5;have s1:au H (upd H se (.dK [])):=au.upd0 a5
  refine⟨dx,fs,s1 _ _ h1,_,f1,ce,rfl,_,s1 _ _ a6,?_⟩
  refine bX aV (λi σ H'=>∃(sv:List (Key × V)) (v3 v4:Option V),σ=[-p,-r,-se,v3,v4]/\H' se<*sv/\(∀v:Int,(bJ sv (h_ v)).isSome=true↔∃c∈dat.take i,v∈rm c)/\(∀c∈dat.take i,∀Y∈dat.take i,c≠Y->∀v∈rm c,v∉rm Y)/\sv.length<=4 * i/\au H H')
    ⟨[],_,_,rfl,ae,by simp[bJ],by simp,by simp,s1⟩ (λi σ H' a8=>by obtain⟨_,_,_,_,_,_,_,_,sm⟩:=a8;exact(.of (sm _ _ a6))) ?_ ?_
  . rintro i x σ H2 hi hx ⟨sv,v3,v4,rfl,h2,a1,ab,a4,ad⟩
    rw[d_] at hi;obtain⟨c,aq,rfl⟩ : ∃c,dat[i]? = some c/\V.str c=x:=by
      rw[fx] at hx;cases e:dat[i]? with
      | none=>rw[e] at hx;cases hx
      | some nm=>rw[e] at hx;exact⟨nm,rfl,ge hx⟩
    have a3:c∈dat:=g7 aq
    have a0:=ac c a3;have a2:dat.take (i+1)=dat.take i++[c]:=by rw[ki,aq];rfl
    have aG:c∉dat.take i:=λhm=>by
      obtain⟨j,hj,e⟩:=v9 hm;have a7:j < i:=by simp at hj;omega
      have e2:dat[j]? = some c:=by rw[<- e,List.getElem_take];simp
      have:=fM aw e2 aq
      omega
    obtain⟨ra,aI,ax⟩:=M.rf c a0;obtain⟨g1,g2,g3⟩:=M.gd c a0;have aD:=ad _ _ aB;have a9:=ad _ _ ax;ctx_has v aD aI a9
    refine bX aV (λj σ H'=>∃(sv:List (Key × V)) (v4:Option V),σ=[-p,-r,-se,some (.str c),v4]/\H' se<*sv/\(∀v:Int,(bJ sv (h_ v)).isSome=true↔(∃c∈dat.take i,v∈rm c)\/v∈(rm c).take j)/\(∀v∈(rm c).take j,∀Y∈dat.take i,v∉rm Y)/\sv.length<=4 * i+j/\au H H')
      ⟨sv,_,rfl,h2,λv=>by rw[a1 v];simp,by simp,a4,ad⟩ (λi σ H' ay=>by obtain⟨_,_,_,_,_,_,_,sm⟩:=ay;exact(.of (sm _ _ ax))) ?_ ?_
    . rintro j y σ H3 hj hy ⟨sv,v4,rfl,h3,B,af,am,aj⟩
      rw[d_] at hj;obtain⟨v,ar,rfl⟩ : ∃v,(rm c)[j]? = some v/\V.int v=y:=by
        rw[fx] at hy;cases e:(rm c)[j]? with
        | none=>rw[e] at hy;cases hy
        | some nm=>rw[e] at hy;exact⟨nm,rfl,ge hy⟩
      have aE:v∈rm c:=g7 ar
      have aJ:v∉(rm c).take j:=λhm=>by
        obtain⟨j',a7,e⟩:=v9 hm;have aO:j' < j:=by simp at a7;omega
        have e2:(rm c)[j']? = some v:=by rw[<- e,List.getElem_take];simp
        have:=fM g3 e2 ar
        omega
      have ao:(rm c).take (j+1)=(rm c).take j++[v]:=by rw[ki,ar];rfl
      ctx_has v h3
      refine ft (λh=>?_) (λh=>?_)
      . refine k true H3 ⟨λ_=>?_,λ_=>rfl⟩ aj
        rcases (B v).mp h with⟨Y,aa,F⟩ | z
        . have Z:c≠Y:=λe=>aG (e ▸ aa)
          obtain⟨g,hg,e1,e2⟩:=EJ Z aE F (λx hx=>(M.gd x hx).1) (cs:=cs)
          refine⟨g,hg,decide_eq_false ((fm aw).mpr ⟨c,a3,Y,JK aa,Z,by rw[e1,e2]⟩)⟩
        . exact absurd z aJ
      . have aH : ¬ ((∃c∈dat.take i,v∈rm c)\/v∈(rm c).take j):=λz=>h ((B v).mpr z)
        refine⟨aK (),bv sv (h_ v) (.bl true),ae,λv'=>?_,λv' F Y aa an=>?_,i8 (cF _ _ _) (),λb o e=>?_⟩
        . rw[jX]
          by_cases ev:v'=v
          . subst ev
            rw[if_pos rfl,ao];simp
          . rw[if_neg (λz=>ev (Jv z)),B v',ao]
            simp[ev]
        . rw[ao] at F
          rcases j9.mp F with z | z
          . exact af v' z Y aa an
          . rw[gr.mp z] at an
            exact aH (.inl ⟨Y,aa,an⟩)
        . rw[ag (ap e a5)];exact aj b o e
    . rintro σ H3 ⟨sv,v4,rfl,h3,B,af,am,aj⟩
      rw[d_,m_] at B af;rw[d_] at am;refine⟨sv,_,_,rfl,h3,λv=>?_,λx hx y hy Z v hv F=>?_,(),aj⟩
      . rw[B v,a2]
        constructor
        . rintro(⟨Y,h5,h6⟩ | h5)
          . exact⟨Y,k9 _ h5,h6⟩
          . exact⟨c,by simp,h5⟩
        . rintro⟨Y,h5,h6⟩
          rcases j9.mp h5 with z | z
          . exact .inl ⟨Y,z,h6⟩
          . rw[gr.mp z] at h6;exact .inr h6
      . rw[a2] at hx hy
        rcases j9.mp hx with z | z
        . rcases j9.mp hy with z' | z'
          . exact ab x z y z' Z v hv F
          . rw[gr.mp z'] at F
            exact af v F x z hv
        . rw[gr.mp z] at hv Z
          rcases j9.mp hy with z' | z'
          . exact af v hv y z' F
          . exact Z (gr.mp z').symm
  . rintro σ H2 ⟨sv,v3,v4,rfl,h2,a1,ab,a4,ad⟩
    rw[d_,m_] at ab;ctx_has v
    refine k false H2 ⟨λz=>(by cases z),?_⟩ ad
    rintro⟨g,hg,hk⟩
    obtain⟨c,hc,Y,aa,Z,e⟩:=(fm aw).mp (of_decide_eq_false hk);exact absurd (e ▸ hg Y (ac Y aa)) (λz=>ab c hc Y aa Z (g c) (hg c (ac c hc)) z)
theorem pz (T : Txt w K mg) (L:FnL K mg "finds_value" dm ["cell","rooms","holders","tried"]) (Fi:Fn P w K mg base "finds_value" (n+1) ["cell","rooms","holders","tried"] (ke n)):Fn P w K mg base "finds_value" (n+1+1) ["cell","rooms","holders","tried"] (ke (n+1)):=by
  ctx_has z jF <;> obtain⟨r,ha,ta,CS,kvs,rm,U,hl,tl,c,rfl,k0,hc,hm,k⟩:=h
  . rfl
  refine⟨_,(ai (bq (bT K (bQ hu (pvM 1) (pvM 0))) (aA 4) (ak (bF (nU (iG hu (pvM 4) (pvM 3))) (ai (ia hu (pvM 3) (pvM 4) cR rfl)
    (ak (bF (PW.pt (rW (nU (iG hu (pvM 4) (pvM 2))) (nJ (fU (aw Fi (ac (bQ hu (pvM 2) (pvM 4)) (ac (pvM 1) (ac (pvM 2) (ac (pvM 3) af))))))))) (ai (ia hu (pvM 2) (pvM 4) (pvM 0) rfl)
    (ak (az cR))) aR))) aR)))
    (ak (az cR))),?_⟩
  obtain⟨ra,aD,ah⟩:=k0.rf c hc;have a5:=k0.rd;ctx_has v a5 aD ah
  refine bX aV (λj σ H'=>∃(Y:List Int) (v4:Option V),σ=[some (.str c),-r,-ha,-ta,v4]/\dR H' r ha ta CS kvs rm U hl Y/\(∀v∈tl,v∈Y)/\(∀v∈(rm c).take j,v∈Y)/\(∀v∈Y,v∉tl->∃x,bB hl v=some x/\∀v'∈rm x,v'∈Y)/\∀a o,a≠ha->a≠ta->H a=some o->H' a=some o)
    ⟨tl,_,rfl,k0,λv h=>h,by simp,λv h h'=>absurd h h',λa o _ _ e=>e⟩ (λj σ H' aq=>by obtain⟨_,_,_,_,_,_,_,kp⟩:=aq;exact(.of (kp _ _ (aX ah k0.hh (by intro z;cases z)) (aX ah k0.ht (by intro z;cases z)) ah))) ?_ ?_
  . rintro j y σ H1 hj hy ⟨Y,v4,rfl,k1,F,B,ab,kp⟩
    rw[d_] at hj;obtain⟨v,a2,rfl⟩ : ∃v,(rm c)[j]? = some v/\V.int v=y:=by
      rw[fx] at hy;cases e:(rm c)[j]? with
      | none=>rw[e] at hy;cases hy
      | some nm=>rw[e] at hy;exact⟨nm,rfl,ge hy⟩
    have am:v∈rm c:=g7 a2
    have ap:(rm c).take (j+1)=(rm c).take j++[v]:=by rw[ki,a2];rfl
    have a4:=k1.ru c hc v am;have aB:=k1.ht;ctx_has v aB
    rw[li];refine ft (λh=>?_) (λh=>?_)
    . have ad:v∉Y:=by simpa using h
      have aj:v∉tl:=λz=>ad (F v z)
      rw[zO ad];have k2:=k1.tryV ad a4;have ar:=k2.hh;have an : ∀a o,a≠ha->a≠ta->H a=some o->upd H1 ta (.dK ((Y++[v]).map jm)) a=some o:=λa o h1 h2 e=>by rw[ag h2];exact kp a o h1 h2 e
      generalize upd H1 ta (.dK ((Y++[v]).map jm))=H2 at k2 ar an ⊢;have aa : ∀u∈tl,u∈Y++[v]:=λu hu=>k9 _ (F u hu)
      refine⟨rb (show(Y.map jm).length<=100 by rw[d_];exact k1.small.2) ∅,?_⟩
      ctx_has v ar
      rw[mV];cases hg:bB hl v with
      | none =>
        ctx_has v Option.map_none
        simp only[Option.isSome_none,Bool.not_false,if_true];refine⟨rb (show(hl.map iB).length<=100 by rw[d_];exact k2.small.1) ∅,?_⟩
        rw[nj v c k2.hk];refine k true (eh hl v c) (Y++[v]) _ (k2.hold hc am) aa (λa o h1 h2 e=>by rw[ag h1];exact an a o h1 h2 e) (λ_=>⟨λy=>?_,λu hu=>?_⟩) (λz=>by cases z)
        . have h1:=qE v c y k2.hk
          rw[hg,if_neg (by intro z;cases z)] at h1
          exact h1
        . rw[nv,if_neg (show ¬ u=v from λe=>aj (e ▸ hu))]
      | some x =>
        simp only[Kk,isSome_some,Jb,h9,if_false];rw[if_neg ∅]
        have aC:=gx hg;refine⟨_,rfl,r,ha,ta,CS,kvs,rm,U,hl,Y++[v],x,rfl,k2,(k2.hv _ aC).1,?_,λb2 a3 ao H3 k3 Z a9 ht hf=>⟨b2,rfl,?_⟩⟩
        . have h1:=Bl a4 ad
          have h2:=xG (U:=U) F;omega
        have ay : ∀a o,a≠ha->a≠ta->H a=some o->H3 a=some o:=λa o h1 h2 e=>a9 a o h1 h2 (an a o h1 h2 e)
        cases b2 with
        | true =>
          rw[if_pos rfl];obtain⟨ax,a1⟩:=ht rfl;refine⟨_,k3.hh,rb (show(a3.map iB).length<=100 by rw[d_];exact k3.small.1) ∅,?_⟩
          rw[nj v c k3.hk];refine k true (eh a3 v c) ao _ (k3.hold hc am) (λu hu=>Z u (aa u hu)) (λa o h1 h2 e=>by rw[ag h1];exact ay a o h1 h2 e) (λ_=>⟨λy=>?_,λu hu=>?_⟩) (λz=>by cases z)
          . have h1:=qE v c y k3.hk
            have h2:=ax y;rw[a1 v (by simp),hg] at h1
            simp only[Option.some.injEq] at h1;omega
          . rw[nv,if_neg (show ¬ u=v from λe=>aj (e ▸ hu))]
            exact a1 u (aa u hu)
        | false =>
          rw[if_neg ∅]
          obtain⟨rfl,a6,a0⟩:=hf rfl;refine⟨ao,k3,λu hu=>Z u (aa u hu),λu hu=>?_,λu hu a7=>?_,ay⟩
          . rw[ap] at hu
            rcases j9.mp hu with q | q
            . exact Z u (k9 _ (B u q))
            . rw[gr.mp q];exact Z v (by simp)
          . by_cases h1:u∈Y
            . obtain⟨x',h2,h3⟩:=ab u h1 a7
              exact⟨x',h2,λv' a8=>Z v' (k9 _ (h3 v' a8))⟩
            . by_cases h2:u=v
              . subst h2;exact⟨x,hg,a6⟩
              . exact a0 u hu (by simp[h1,h2])
    . have ad:v∈Y:=by simpa using h
      refine⟨Y,k1,F,λu hu=>?_,ab,kp⟩
      rw[ap] at hu;rcases j9.mp hu with q | q
      . exact B u q
      . rw[gr.mp q];exact ad
  . rintro σ H1 ⟨Y,v4,rfl,k1,F,B,ab,kp⟩
    rw[d_,m_] at B;ctx_has v
    exact k false hl Y H1 k1 F kp (λz=>by cases z) (λ_=>⟨rfl,B,ab⟩)
theorem pE (T:Txt w K mg) (L:FnL K mg "finds_value" dm ["cell","rooms","holders","tried"]):Fn P w K mg base "finds_value" (0+1) ["cell","rooms","holders","tried"] (ke 0):=by
 ctx_has z jF <;> obtain⟨r,ha,ta,CS,kvs,rm,U,hl,tl,c,rfl,k0,hc,hm,k⟩:=h
 .rfl
 refine⟨_,(ai (bq (bT K (bQ hu (pvM 1) (pvM 0))) (aA 4) (ak (bF (nU (iG hu (pvM 4) (pvM 3))) (ai (ia hu (pvM 3) (pvM 4) cR rfl)
  (ak (bF (PW.pt (rW (nU (iG hu (pvM 4) (pvM 2))) (nJ (fU Cf)))) (ai (ia hu (pvM 2) (pvM 4) (pvM 0) rfl)
  (ak (az cR))) aR))) aR)))
  (ak (az cR))),?_⟩
 obtain⟨ra,ag,F⟩:=k0.rf c hc;have af:=k0.rd;ctx_has v af ag F
 refine bX aV (λj σ H'=>∃(B:List Int) (v4:Option V),σ=[some (.str c),-r,-ha,-ta,v4]/\dR H' r ha ta CS kvs rm U hl B/\(∀v∈tl,v∈B)/\(∀v∈(rm c).take j,v∈B)/\(∀v∈B,v∉tl->∃x,bB hl v=some x/\∀v'∈rm x,v'∈B)/\∀a o,a≠ha->a≠ta->H a=some o->H' a=some o)
  ⟨tl,_,rfl,k0,λv h=>h,by simp,λv h h'=>absurd h h',λa o _ _ e=>e⟩ (λj σ H' ab=>by obtain⟨_,_,_,_,_,_,_,kp⟩:=ab;exact(.of (kp _ _ (aX F k0.hh (by intro z;cases z)) (aX F k0.ht (by intro z;cases z)) F))) ?_ ?_
 .rintro j y σ H1 hj hy ⟨B,v4,rfl,k1,hsub,hdone,hclo,kp⟩
  rw[d_] at hj;obtain⟨v,aa,rfl⟩ : ∃v,(rm c)[j]? = some v/\V.int v=y:=by
   rw[fx] at hy;cases e:(rm c)[j]? with
   | none=>rw[e] at hy;cases hy
   | some nm=>rw[e] at hy;exact⟨nm,rfl,ge hy⟩
  have ah:v∈rm c:=g7 aa
  have ad:(rm c).take (j+1)=(rm c).take j++[v]:=by rw[ki,aa];rfl
  have aj:=k1.ru c hc v ah;have ac:=k1.ht;ctx_has v ac
  rw[li];refine ft (λh=>?_) (λh=>?_)
  .have hvn:v∉B:=by simpa using h
   have Y:v∉tl:=λz=>hvn (hsub v z)
   exfalso
   have Z:v∈U.filter (λx=>decide (x∉tl)):=E_.mpr ⟨aj,decide_eq_true Y⟩
   have:=Jo Z
   omega
  .have hvn:v∈B:=by simpa using h
   refine⟨B,k1,hsub,λu hu=>?_,hclo,kp⟩
   rw[ad] at hu;rcases j9.mp hu with q | q
   .exact hdone u q
   .rw[gr.mp q];exact hvn
 .rintro σ H1 ⟨B,v4,rfl,k1,hsub,hdone,hclo,kp⟩
  rw[d_,m_] at hdone;ctx_has v
  exact k false hl B H1 k1 hsub kp (λz=>by cases z) (λ_=>⟨rfl,hdone,hclo⟩)
theorem vH {P:Program} {w:World} {K:fy} {mg:Str->Option Value} {base:Heap} (T:Txt w K mg) (L:FnL K mg "finds_value" dm ["cell","rooms","holders","tried"]) : ∀n,Fn P w K mg base "finds_value" (n+1) ["cell","rooms","holders","tried"] (ke n)
 | 0=>pE T L
 | n+1=>pz T L (vH T L n)
theorem pL {v:Int} {x:Str} : ∀{hl:List (Int × Str)},(v,x)∈hl->1<=eR hl x
 | (w,z) :: r,h=>by
  simp only[eR];rcases i7.mp h with q | q
  .cases q;rw[if_pos rfl];omega
  .have:=pL q;omega
theorem zd {v v':Int} {x:Str} (B:v≠v') : ∀{hl:List (Int × Str)},(v,x)∈hl->(v',x)∈hl->2<=eR hl x
 | (w, z) :: r,h,h'=>by
  simp only[eR];rcases i7.mp h with q | q
  .rcases i7.mp h' with q' | q'
   .cases q;cases q';exact absurd rfl B
   .cases q
    have:=pL q'
    rw[if_pos rfl];omega
  .rcases i7.mp h' with q' | q'
   .cases q'
    have:=pL q
    rw[if_pos rfl];omega
   .have:=zd B q q';omega
theorem yW {x:Str} : ∀{hl:List (Int × Str)},1<=eR hl x->∃v,(v,x)∈hl
 | [],h=>by simp[eR] at h
 | (w,z) :: r,h=>by
  by_cases e:z=x
  .subst e;exact⟨w,by simp⟩
  .simp only[eR,if_neg e] at h
   obtain⟨v,B⟩:=yW (x:=x) (hl:=r) ()
   exact⟨v,by simp[B]⟩
theorem Ai {hl:List (Int × Str)} (tn:tl.Nodup) (h0:eR hl c=0) (h1 : ∀y,eR hl y<=1) (hc : ∀v∈rm c,v∈tl) (L : ∀v∈tl,∃x,bB hl v=some x/\∀v'∈rm x,v'∈tl)
  (inj : ∀x y,(x=c\/∃v,bB hl v=some x)->(y=c\/∃v,bB hl v=some y)->g x=g y->x=y) (Z:g c∈rm c) (ab : ∀v x,bB hl v=some x->g x∈rm x):False:=by
 have Y : ∀v∈tl,bB hl v=some ((bB hl v).getD c):=λv F=>by obtain⟨x,e,_⟩:=L v F;rw[e];rfl
 have aa:(c :: tl.map λv=>(bB hl v).getD c).Nodup:=by
  rw[m7];refine⟨λz=>?_,G5.mpr (If (λ{a b} ha hb q e=>?_) tn)⟩
  .obtain⟨v,F,e⟩:=i4.mp z
   have h2:=pL (gx (Y v F));rw[e] at h2;omega
  .have h2:=zd q (gx (Y a ha)) (by rw[e];exact gx (Y b hb))
   have:=h1 ((bB hl a).getD c)
   omega
 have B : ∀y∈(c :: tl.map λv=>(bB hl v).getD c),(y=c\/∃v,bB hl v=some y)/\g y∈tl:=λy hy=>by
  rcases i7.mp hy with q | q
  .subst q;exact⟨.inl rfl,hc _ Z⟩
  .obtain⟨v,F,rfl⟩:=i4.mp q
   obtain⟨x,e,hx⟩:=L v F;have e':=Y v F;refine⟨.inr ⟨v,e'⟩,?_⟩
   have:(bB hl v).getD c=x:=by rw[e];rfl
   rw[this];exact hx _ (ab v x e)
 have hg:((c :: tl.map λv=>(bB hl v).getD c).map g).Nodup:=G5.mpr (If (λ{a b} ha hb q e=>q (inj a b (B a ha).1 (B b hb).1 e)) aa)
 have:=fj (ys:=tl) hg λv F=>by
  obtain⟨y,hy,rfl⟩:=i4.mp F;exact(B y hy).2
 simp at this
 omega
def Ay (hl:List (Int × Str)) (y:Str):Int:=((hl.find? λx=>decide (x.2=y)).map (·.1)).getD 0
theorem mZ {hl:List (Int × Str)} {y:Str} (h:1<=eR hl y):(Ay hl y,y)∈hl:=by
 obtain⟨v,F⟩:=yW h;unfold Ay;cases e:hl.find? λx=>decide (x.2=y) with
 | none =>
  have:=List.find?_eq_none.mp e (v,y) F
  simp at this
 | some x =>
  have h1:=List.mem_of_find?_eq_some e;have h2:=List.find?_some e;have B:x.2=y:=by simpa using h2
  subst B;exact h1
theorem wo {rm:Str->List Int} : ∀{cs:List Str},(∀c∈cs,(rm c).length<=4)->(cs.flatMap rm).length<=4 * cs.length
 | [],_=>by simp
 | c :: cs,h=>by
  have h1:=h c (by simp)
  have h2:=wo (cs:=cs) λx B=>h x (by simp[B])
  rw[List.flatMap_cons,w4,x4];omega
theorem lq (T:Txt w K mg) (L:bW K (aC K (ah mg "Unlike") "may_keep") "may_keep" "Unlike.may_keep" fc ["self","rooms"]) (Fi:Fn P w K mg base "finds_value" 21 ["cell","rooms","holders","tried"] (ke 20)):FnR P w K mg base (aC K (ah mg "Unlike") "may_keep") 22 ["self","rooms"] (dE mg):=by
 ctx_has z kK <;> obtain⟨p,r,dat,cs,kvs,rm,rfl,M,k⟩:=h
 .rfl
 refine⟨_,(ai (aF 2 ff)
  (ai (bq (bT K (aM T.cl_Unlike T.no_Unlike_cells (pvM 0))) (aA 3) (ak (bF (nk (fU (aw Fi (ac (pvM 3) (ac (pvM 1) (ac (pvM 2) (ac ff af))))))) (ak (az cR)) aR)))
  (ak (az cR)))),?_⟩
 obtain⟨dx,fs,ce,h1,f1,ax,_,_⟩:=M.ob;have aa:=M.rd;have aj:dat.Nodup:=M.ok.nodup_iff.mpr M.nd
 have aE:dat.length=cs.length:=M.ok.length_eq
 have am : ∀c∈dat,c∈cs:=λc hc=>M.ok.mem_iff.mp hc
 have a3:(cs.flatMap rm).length<=20:=by
  have:=wo (rm:=rm) (cs:=cs) (λc hc=>(M.gd c hc).2.1)
  have:=M.cl
  omega
 have a9:=M.cl;ctx_has v
 intro ha ab;have s1:au H (upd H ha (.dK [])):=au.upd0 ab
 refine⟨dx,fs,s1 _ _ h1,_,f1,ce,rfl,_,s1 _ _ ax,?_⟩
 refine bX aV (λi σ H'=>∃(hl:List (Int × Str)) (v3:Option V),σ=[-p,-r,-ha,v3]/\H' ha<*(hl.map iB)/\(hl.map (·.1)).Nodup/\(∀x∈hl,x.2∈cs/\x.1∈rm x.2)/\(∀y,eR hl y=if y∈dat.take i then 1 else 0)/\au H H')
  ⟨[],_,rfl,ae,by simp,by simp,by simp[eR],s1⟩ (λi σ H' an=>by obtain⟨_,_,_,_,_,_,_,sm⟩:=an;exact(.of (sm _ _ ax))) ?_ ?_
 .rintro i x σ H2 hi B ⟨hl,v3,rfl,h2,hkn,hkv,hcn,sm2⟩
  rw[d_] at hi;obtain⟨c,ag,rfl⟩ : ∃c,dat[i]? = some c/\V.str c=x:=by
   rw[fx] at B;cases e:dat[i]? with
   | none=>rw[e] at B;cases B
   | some nm=>rw[e] at B;exact⟨nm,rfl,ge B⟩
  have ar:c∈dat:=g7 ag
  have ao:=am c ar;have a7:dat.take (i+1)=dat.take i++[c]:=by rw[ki,ag];rfl
  have F:c∉dat.take i:=λhm=>by
   obtain⟨j,hj,e⟩:=v9 hm;have aB:j < i:=by simp at hj;omega
   have e2:dat[j]? = some c:=by rw[<- e,List.getElem_take];simp
   have:=fM aj e2 ag
   omega
  ctx_has v
  intro ta Y;have s3:au H2 (upd H2 ta (.dK [])):=au.upd0 Y
  have a4:r≠ha:=ap aa ab
  have k0:dR (upd H2 ta (.dK [])) r ha ta cs kvs rm (cs.flatMap rm) hl []:=⟨s3 _ _ (sm2 _ _ aa),(M.rf.same (λa vs e=>sm2 _ _ e)).same (λa vs e=>s3 _ _ e),s3 _ _ h2,ae,⟨a4,ap (sm2 _ _ aa) Y,ap h2 Y⟩,hkn,hkv,by simp,by simp,λx B v hv=>mem_flatMap.mpr ⟨x,B,hv⟩,(),λx B=>by have:=(M.gd x B).2.1;omega⟩
  refine⟨r,ha,ta,cs,kvs,rm,cs.flatMap rm,hl,[],c,rfl,k0,ao,i8 (List.length_filter_le _ _) a3,λb ad aD H3 k3 _ kp ht hf=>?_⟩
  have a0:au H H3:=λa o e=>kp a o (ap e ab) (ap (sm2 _ _ e) Y) (s3 _ _ (sm2 _ _ e))
  ctx_has v
  cases b with
  | true =>
   rw[if_neg ∅]
   obtain⟨a5,_⟩:=ht rfl;refine⟨ad,k3.hh,k3.hk,k3.hv,λy=>?_,a0⟩
   rw[a5 y,hcn y,a7]
   by_cases e:c=y
   .subst e;simp[F]
   .simp[e,k_ e]
  | false =>
   rw[if_pos rfl];obtain⟨rfl,a2,ay⟩:=hf rfl;refine k false H3 ⟨λz=>(by cases z),?_⟩ a0
   rintro⟨g,hg,hk⟩
   exfalso
   have a6:(dat.map g).Nodup:=of_decide_eq_true hk
   have hold : ∀v x,bB ad v=some x->x∈dat/\x∈cs:=λv x e=>by
    have:=(hkv _ (gx e)).1
    exact⟨M.ok.mem_iff.mpr this,this⟩
   have inj : ∀x∈dat,∀y∈dat,g x=g y->x=y:=λx B y hy e=>p6 λZ=>(fm aj).mpr ⟨x,B,y,hy,Z,e⟩ a6
   have inD : ∀x,(x=c\/∃v,bB ad v=some x)->x∈dat:=λx h=>by
    rcases h with h | ⟨v,h⟩
    .rw[h];exact ar
    .exact(hold v x h).1
   refine Ai (g:=g) k3.tn (by rw[hcn c,if_neg F]) (λy=>by rw[hcn y];split <;> omega) a2 (λv hv=>ay v hv (by simp)) (λx y B hy e=>inj x (inD x B) y (inD y hy) e) (hg c ao) (λv x e=>hg x (hold v x e).2)
 .rintro σ H2 ⟨hl,v3,rfl,h2,hkn,hkv,hcn,sm2⟩
  rw[d_,m_] at hcn;ctx_has v
  refine k true H2 ⟨λ_=>⟨Ay hl,λc hc=>?_,?_⟩,λ_=>rfl⟩ sm2
  .have hm:=mZ (hl:=hl) (y:=c) (by rw[hcn c,if_pos (M.ok.mem_iff.mpr hc)];exact i6 _)
   exact(hkv _ hm).2
  .refine decide_eq_true (p6 λa8=>?_)
   obtain⟨c,hc,c',a1,Z,e⟩:=(fm aj).mp a8;have hm:=mZ (hl:=hl) (y:=c) (by rw[hcn c,if_pos hc];exact i6 _)
   have aq:=mZ (hl:=hl) (y:=c') (by rw[hcn c',if_pos a1];exact i6 _)
   rw[<- e] at aq;have:=(nM hkn hm).symm.trans (nM hkn aq)
   exact Z (ge this)
structure ko (mg:Str->Option Value) (H:Hp) (p:Addr) (am ce:V) (lo hi:Int):Prop where
 ex : ∃dx fs,H p=some (.ins (ah mg "Many") dx fs)/\fs.lookup (b_ "among")=some am/\fs.lookup (b_ "cells")=some ce/\fs.lookup (b_ "low")=some (.int lo)/\fs.lookup (b_ "high")=some (.int hi) /\
  fs.lookup (b_ "fewest")=none/\fs.lookup (b_ "most")=none/\fs.lookup (b_ "may_keep")=none/\fs.lookup (b_ "may_break")=none
theorem ko.same {F B:V} {hi:Int} (h:ko mg H p F B lo hi) (s:au H H'):ko mg H' p F B lo hi:=by
 obtain⟨dx,fs,h1,r⟩:=h.ex;exact⟨dx,fs,s _ _ h1,r⟩
def vz (mg:Str->Option Value):Sp:=λvs H Q _=>∃(p dx w:Addr) (F B:V) (lo hi:Int),vs=[.ref p,.ref w]/\H p=some (.ins (ah mg "Many") dx [])/\H w>>[.str "many",F,B,.int lo,.int hi]/\∀H',ko mg H' p F B lo hi->HW mg "Many" H' p w->gK p H H'->Q .non H'
def eB (av:List Int) (rm:Str->List Int) (cs:List Str):Nat:=(cs.filter λc=>(rm c).all λv=>decide (v∈av)).length
def cQ (av:List Int) (rm:Str->List Int) (cs:List Str):Nat:=(cs.filter λc=>(rm c).any λv=>decide (v∈av)).length
structure iX (mg:Str->Option Value) (H:Hp) (p r:Addr) (av:List Int) (cs:List Str) (lo hi:Int) (kvs:List (Key × V)) (rm:Str->List Int):Prop where
 ob : ∃am ce,ko mg H p (.ref am) (.ref ce) lo hi/\H am>>(av.map V.int)/\H ce>>(cs.map V.str)
 rd:H r<*kvs
 rf:aY H kvs cs rm
 sm:av.length<=20/\cs.length<=20/\∀c∈cs,(rm c).length<=20
def xm (mg:Str->Option Value):Sp:=λvs H Q _=>∃(p r:Addr) (av:List Int) (cs:List Str) (lo hi:Int) (kvs:List (Key × V)) (rm:Str->List Int),vs=[.ref p,.ref r]/\iX mg H p r av cs lo hi kvs rm/\∀H',au H H'->Q (.int (eB av rm cs)) H'
def ue (mg:Str->Option Value):Sp:=λvs H Q _=>∃(p r:Addr) (av:List Int) (cs:List Str) (lo hi:Int) (kvs:List (Key × V)) (rm:Str->List Int),vs=[.ref p,.ref r]/\iX mg H p r av cs lo hi kvs rm/\∀H',au H H'->Q (.int (cQ av rm cs)) H'
def iA (lo hi:Int) (a b:Nat):Bool:=decide (lo<=hi) && decide (lo<=b) && decide ((a:Int)<=hi) && decide (a<=b)
def gE (lo hi:Int) (a b:Nat):Bool:=decide ((a:Int) < lo) || decide (hi < (b:Int))
def dM (mg:Str->Option Value):Sp:=λvs H Q _=>∃(p r:Addr) (av:List Int) (cs:List Str) (lo hi:Int) (kvs:List (Key × V)) (rm:Str->List Int),vs=[.ref p,.ref r]/\iX mg H p r av cs lo hi kvs rm/\∀H',au H H'->Q (.bl (iA lo hi (eB av rm cs) (cQ av rm cs))) H'
def cT (mg:Str->Option Value):Sp:=λvs H Q _=>∃(p r:Addr) (av:List Int) (cs:List Str) (lo hi:Int) (kvs:List (Key × V)) (rm:Str->List Int),vs=[.ref p,.ref r]/\iX mg H p r av cs lo hi kvs rm/\∀H',au H H'->Q (.bl (gE lo hi (eB av rm cs) (cQ av rm cs))) H'
theorem iX.same {mg:Str->Option Value} {H H':Hp} {p r:Addr} {av:List Int} {cs:List Str} {lo hi:Int} {kvs:List (Key × V)} {rm:Str->List Int} (h:iX mg H p r av cs lo hi kvs rm) (s:au H H'):iX mg H' p r av cs lo hi kvs rm:=by
 obtain⟨B,F,h1,h2,Y⟩:=h.ob;refine⟨⟨B,F,h1.same s,s _ _ h2,s _ _ Y⟩,s _ _ h.rd,λc L=>?_,h.sm⟩
 obtain⟨a,e1,e2⟩:=h.rf c L;exact⟨a,e1,s _ _ e2⟩
def jn (av:List Int) (cs:List Str) (g:Str->Int):Nat:=(cs.filter λc=>decide (g c∈av)).length
def uH (lo hi:Int) (av:List Int) (cs:List Str) (g:Str->Int):Bool:=decide (lo<=(jn av cs g:Int)) && decide ((jn av cs g:Int)<=hi)
theorem jU {av:List Int} {rm:Str->List Int} {g:Str->Int} : ∀{cs:List Str},okF rm cs g->eB av rm cs<=jn av cs g/\jn av cs g<=cQ av rm cs
 | [],_=>⟨i6 _,i6 _⟩
 | c :: cs,h=>by
  have Y:=jU (av:=av) (cs:=cs) λx L=>h x (by simp[L])
  have F:=h c (by simp)
  unfold eB jn cQ at *;rw[x3,x3,x3]
  by_cases B:g c∈av
  .have h3:(rm c).any (λv=>decide (v∈av))=true:=x_.mpr ⟨g c,F,by simp[B]⟩
   rw[if_pos h3,if_pos (decide_eq_true B)]
   split <;> (try simp only[x4]) <;> omega
  .have h3 : ¬ ((rm c).all (λv=>decide (v∈av))=true):=λz=>B (by simpa using y_.mp z (g c) F)
   rw[if_neg h3,if_neg (by simpa using B)]
   split <;> (try simp only[x4]) <;> omega
theorem AJ : ∀{cs:List Str},c∉cs->jn av cs (cy g c v)=jn av cs g:=λ{cs} h=>by
 unfold jn
 congr 1
 refine List.filter_congr λx B=>?_
 rw[cG];rintro rfl
 exact h B
theorem iJ {av:List Int} {rm:Str->List Int} : ∀{cs:List Str},(∀c∈cs,1<=(rm c).length)->eB av rm cs<=cQ av rm cs
 | [],_=>i6 _
 | c :: cs,h=>by
  have L:=iJ (av:=av) (rm:=rm) (cs:=cs) λx F=>h x (by simp[F])
  have B:=h c (by simp)
  unfold eB cQ at *;rw[x3,x3]
  by_cases h1:(rm c).all (λv=>decide (v∈av))=true
  .have h3:(rm c).any (λv=>decide (v∈av))=true:=by
    cases e:rm c with
    | nil=>rw[e] at B;simp at B
    | cons a b=>rw[e] at h1;simp at h1 ⊢;exact .inl h1.1
   rw[if_pos h1,if_pos h3];simp;exact L
  .rw[if_neg h1]
   split <;> (try simp only[x4]) <;> omega
theorem lJ {av:List Int} {rm:Str->List Int} : ∀{cs:List Str} {n:Nat},(∀c∈cs,1<=(rm c).length)->cs.Nodup->eB av rm cs<=n->n<=cQ av rm cs->∃g,okF rm cs g/\jn av cs g=n
 | [],n,_,_,h1,h2=>⟨λ_=>0,λc hc=>by simp at hc,by simp[eB,cQ,jn] at *;omega⟩
 | c :: cs,n,hne,hnd,h1,h2=>by
  have ai:c∉cs:=(m7.mp hnd).1
  have ac:=(m7.mp hnd).2;have Z : ∀x∈cs,1<=(rm x).length:=λx hx=>hne x (by simp[hx])
  have hc:=hne c (by simp)
  have am:=iJ (av:=av) Z;have aa : ∀(v:Int) (m:Nat),v∈rm c->eB av rm cs<=m->m<=cQ av rm cs->n=m+(if v∈av then 1 else 0)->∃g,okF rm (c :: cs) g/\jn av (c :: cs) g=n:=λv m hv ak L e=>by
   obtain⟨g,hg,F⟩:=lJ (av:=av) Z ac ak L;refine⟨cy g c v,λx hx=>?_,?_⟩
   .by_cases ex:x=c
    .subst ex;rw[bm];exact hv
    .rw[cG _ _ ex]
     rcases i7.mp hx with z | z
     .exact absurd z ex
     .exact hg x z
   .have e2:=AJ (av:=av) (v:=v) (g:=g) ai
    unfold jn at e2 F ⊢;rw[x3,bm]
    by_cases Y:v∈av
    .rw[if_pos Y] at e
     rw[if_pos (decide_eq_true Y),x4,e2,F];omega
    .rw[if_neg Y] at e
     rw[if_neg (by simpa using Y),e2,F];omega
  obtain⟨v0,ab⟩ : ∃v,v∈rm c:=by
   cases e:rm c with
   | nil=>rw[e] at hc;simp at hc
   | cons a b=>exact⟨a,by simp⟩
  have f1:eB av rm (c :: cs)=eB av rm cs+(if (rm c).all (λv=>decide (v∈av))=true then 1 else 0):=by
   unfold eB;rw[x3];split <;> simp
  have f2:cQ av rm (c :: cs)=cQ av rm cs+(if (rm c).any (λv=>decide (v∈av))=true then 1 else 0):=by
   unfold cQ;rw[x3];split <;> simp
  rw[f1] at h1;rw[f2] at h2
  by_cases ha:(rm c).all (λv=>decide (v∈av))=true
  .rw[if_pos ha] at h1
   have hm:v0∈av:=by simpa using y_.mp ha v0 ab
   have B:(rm c).any (λv=>decide (v∈av))=true:=x_.mpr ⟨v0,ab,by simp[hm]⟩
   rw[if_pos B] at h2;exact aa v0 (n - 1) ab () () (by rw[if_pos hm];omega)
  .rw[if_neg ha] at h1
   obtain⟨v1,af,aj⟩ : ∃v∈rm c,v∉av:=p6 λah=>ha (y_.mpr λv hv=>decide_eq_true (p6 λz=>ah ⟨v,hv,z⟩))
   by_cases ad:n<=cQ av rm cs
   .exact aa v1 n af () ad (by rw[if_neg aj];omega)
   .by_cases B:(rm c).any (λv=>decide (v∈av))=true
    .rw[if_pos B] at h2
     obtain⟨v2,ag,L⟩:=x_.mp B;have L:v2∈av:=by simpa using L
     exact aa v2 (n - 1) ag () () (by rw[if_pos L];omega)
    .rw[if_neg B] at h2;omega
theorem Ac {hi:Int} (B : ∀c∈cs,1<=(rm c).length) (F:cs.Nodup):(∃g,okF rm cs g/\uH lo hi av cs g=true)↔iA lo hi (eB av rm cs) (cQ av rm cs)=true:=by
 unfold uH iA;simp only[l_,decide_eq_true_eq]
 constructor
 .rintro⟨g,L,h1,h2⟩
  have:=jU (av:=av) L
  omega
 .rintro⟨⟨⟨h1,h2⟩,h3⟩,h4⟩
  obtain⟨g,L,e⟩:=lJ (av:=av) (n:=if lo<=(eB av rm cs:Int) then eB av rm cs else lo.toNat) B F (by split <;> omega) (by split <;> omega)
  refine⟨g,L,?_⟩
  rw[e]
  split <;> omega
theorem xc {hi:Int} (B : ∀c∈cs,1<=(rm c).length) (F:cs.Nodup):(∃g,okF rm cs g/\uH lo hi av cs g=false)↔gE lo hi (eB av rm cs) (cQ av rm cs)=true:=by
 unfold uH gE;simp only[Ke,decide_eq_false_iff_not,Bool.or_eq_true,decide_eq_true_eq];have L:=iJ (av:=av) B
 constructor
 .rintro⟨g,hg,h⟩
  have:=jU (av:=av) hg
  omega
 .rintro(h | h)
  .obtain⟨g,hg,e⟩:=lJ (av:=av) (n:=eB av rm cs) B F (i6 _) L
   exact⟨g,hg,by rw[e];omega⟩
  .obtain⟨g,hg,e⟩:=lJ (av:=av) (n:=cQ av rm cs) B F L (i6 _)
   exact⟨g,hg,by rw[e];omega⟩
theorem lO (T:Txt w K mg) (L:bW K (gJ K (ah mg "Wish") "__init__") "__init__" "Wish.__init__" bz ["self","wish"]):FnR P w K mg base (gJ K (ah mg "Wish") "__init__") 1 ["self","wish"] (dA mg "Many"):=by
 ctx_has z bP <;> obtain⟨p,dx,fs,w,rfl,hp,B,k⟩:=h
 .rfl
 refine⟨_,(ak (bA T.cl_Many T.no_Many_wish (pvM 0) (pvM 1) rfl)),?_⟩
 ctx_has v hp
 exact⟨B,k⟩
theorem mX (T:Txt w K mg) (L:bW K (Mk K (ah mg "Many")) "__init__" "Many.__init__" ga ["self","wish"]) (B:FnR P w K mg base (gJ K (ah mg "Wish") "__init__") 1 ["self","wish"] (dA mg "Many")):FnR P w K mg base (Mk K (ah mg "Many")) 2 ["self","wish"] (vz mg):=by
 ctx_has z oq <;> obtain⟨p,dx,w,am,Z,lo,hi,rfl,hp,Y,k⟩:=h
 .rfl
 refine⟨_,(ai (cJ (iR B (hr.mono (by ctx_has m)) rfl T.at_Wish (ac (pvM 0) (ac (pvM 1) af))))
  (ai (bA T.cl_Many T.no_Many_among (pvM 0) (aE ba (pvM 1) ao) rfl)
  (ai (bA T.cl_Many T.no_Many_cells (pvM 0) (aE ba (pvM 1) ao) rfl)
  (ai (bA T.cl_Many T.no_Many_low (pvM 0) (aE ba (pvM 1) ao) rfl)
  (ak (bA T.cl_Many T.no_Many_high (pvM 0) (aE ba (pvM 1) ao) rfl)))))),?_⟩
 ctx_has v Y
 have F:w≠p:=aX Y hp (by intro z;cases z)
 refine⟨p,dx,[],.ref w,rfl,hp,∅,?_⟩
 ctx_has v ae
 refine⟨_,by rw[ag F];exact Y,?_⟩
 ctx_has v
 refine⟨dJ (zD _ "" "" "" _ .non .non .non),_,by rw[ag F,ag F];exact Y,?_⟩
 ctx_has v
 refine⟨dJ (zC _ _ "" "" _ _ .non .non),_,by rw[ag F,ag F,ag F];exact Y,?_⟩
 ctx_has v
 refine⟨dJ (DG _ _ _ "" _ _ _ .non),_,by rw[ag F,ag F,ag F,ag F];exact Y,?_⟩
 ctx_has v
 refine⟨dJ (Ih _ _ _ _ _ _ _ _),k _ ⟨dx,_,ae,?_⟩ ⟨dx,_,ae,?_⟩ ?_⟩
 .simp only[br,dB,String.reduceEq,if_true,if_false,true_and,Je,and_self]
 .simp only[br,dB,String.reduceEq,if_true,if_false,true_and,Je,and_self]
 .intro b o hb e
  rw[ag hb,ag hb,ag hb,ag hb,ag hb];exact e
theorem qp (T:Txt w K mg) (L:bW K (aC K (ah mg "Many") "fewest") "fewest" "Many.fewest" dq ["self","rooms"]):FnR P w K mg base (aC K (ah mg "Many") "fewest") 1 ["self","rooms"] (xm mg):=by
 ctx_has z qV <;> obtain⟨p,r,av,cs,lo,hi,kvs,rm,rfl,M,k⟩:=h
 .rfl
 refine⟨_,(ak (az (aD bU T.b_len (ac (bj (N:=["cell","self","rooms"]) (nt:=1) (js:=[0,1]) (aI ["self","rooms"] (aj dq).names) (bT K (aM T.cl_Many T.no_Many_cells (pvM 0))) (aA 0) aP (fH (fU (aD (jZ rfl) T.b_all (ac (bj (N:=["value","self"]) (nt:=1) (js:=[1]) (aI ["cell","self","rooms"] (Hx (aj dq).kind (aj dq).names _)) (bT K (bQ hu (pvM 2) (pvM 0))) (aA 0) aP bx (aU gA (pvM 0) (aM T.cl_Many T.no_Many_among (pvM 1)))) af)))) (pvM 0)) af)))),?_⟩
 obtain⟨am,ce,⟨dx,fs,h1,f1,f2,f3,f4,f5,f6,f7,f8⟩,ha,hc⟩:=M.ob;have Y:=M.rd;obtain⟨z1,z2,z3⟩:=M.sm;ctx_has v h1 f2 hc
 intro q hq;refine db aV (λv=>match v with | .str c=>(rm c).all (λx=>decide (x∈av)) | _=>false) id hq (λH' s=>.of (s _ _ hc)) (by simp;omega) ?_ ?_ ?_
 .intro x H2 Q2 hx sm q2
  obtain⟨c,F,rfl⟩:=i4.mp hx;obtain⟨a,hv,ab⟩:=M.rf c F;have aa:=sm _ _ Y;have B:=sm _ _ ab;ctx_has v aa hv B
  intro g hg;refine ci aV (λv=>match v with | .int i=>.bl (decide (i∈av)) | _=>.non) hg (λH' s=>.of (s _ _ B)) (by simp;have:=z3 c F;omega) ?_ ?_
  .intro y H3 Q3 hy s3 q3
   obtain⟨i,_,rfl⟩:=i4.mp hy;have ad:=s3 _ _ (sm _ _ h1);have Z:=s3 _ _ (sm _ _ ha);ctx_has v ad f1 Z
   refine⟨rfl,cj _,?_⟩
   rw[df];exact q3 H3 (au.refl _)
  .intro H3 s3 h3
   ctx_has v
   refine⟨(rm c).map (λi=>decide (i∈av)),by rw[h3,m6,m6];rfl,?_⟩
   have:=q2 H3 s3
   rw[List.all_map];exact this
 .intro x H2 Q2 hx _ sm q2
  ctx_has v
  exact q2 H2 (au.refl _)
 .intro H2 sm h2
  ctx_has v h2
  have:=k H2 sm
  rw[d_,JI,d_];exact this
theorem tU (T:Txt w K mg) (L:bW K (aC K (ah mg "Many") "most") "most" "Many.most" eS ["self","rooms"]):FnR P w K mg base (aC K (ah mg "Many") "most") 1 ["self","rooms"] (ue mg):=by
 ctx_has z uD <;> obtain⟨p,r,av,cs,lo,hi,kvs,rm,rfl,M,k⟩:=h
 .rfl
 refine⟨_,(ak (az (aD bU T.b_len (ac (bj (N:=["cell","self","rooms"]) (nt:=1) (js:=[0,1]) (aI ["self","rooms"] (aj eS).names) (bT K (aM T.cl_Many T.no_Many_cells (pvM 0))) (aA 0) aP (fH (fU (aD (gy rfl) T.b_any (ac (bj (N:=["value","self"]) (nt:=1) (js:=[1]) (aI ["cell","self","rooms"] (Hx (aj eS).kind (aj eS).names _)) (bT K (bQ hu (pvM 2) (pvM 0))) (aA 0) aP bx (aU gA (pvM 0) (aM T.cl_Many T.no_Many_among (pvM 1)))) af)))) (pvM 0)) af)))),?_⟩
 obtain⟨am,ce,⟨dx,fs,h1,f1,f2,f3,f4,f5,f6,f7,f8⟩,ha,hc⟩:=M.ob;have Y:=M.rd;obtain⟨z1,z2,z3⟩:=M.sm;ctx_has v h1 f2 hc
 intro q hq;refine db aV (λv=>match v with | .str c=>(rm c).any (λx=>decide (x∈av)) | _=>false) id hq (λH' s=>.of (s _ _ hc)) (by simp;omega) ?_ ?_ ?_
 .intro x H2 Q2 hx sm q2
  obtain⟨c,F,rfl⟩:=i4.mp hx;obtain⟨a,hv,ab⟩:=M.rf c F;have aa:=sm _ _ Y;have B:=sm _ _ ab;ctx_has v aa hv B
  intro g hg;refine ci aV (λv=>match v with | .int i=>.bl (decide (i∈av)) | _=>.non) hg (λH' s=>.of (s _ _ B)) (by simp;have:=z3 c F;omega) ?_ ?_
  .intro y H3 Q3 hy s3 q3
   obtain⟨i,_,rfl⟩:=i4.mp hy;have ad:=s3 _ _ (sm _ _ h1);have Z:=s3 _ _ (sm _ _ ha);ctx_has v ad f1 Z
   refine⟨rfl,cj _,?_⟩
   rw[df];exact q3 H3 (au.refl _)
  .intro H3 s3 h3
   ctx_has v
   refine⟨(rm c).map (λi=>decide (i∈av)),by rw[h3,m6,m6];rfl,?_⟩
   have:=q2 H3 s3
   rw[any_map];exact this
 .intro x H2 Q2 hx _ sm q2
  ctx_has v
  exact q2 H2 (au.refl _)
 .intro H2 sm h2
  ctx_has v h2
  have:=k H2 sm
  rw[d_,JI,d_];exact this
theorem om (T:Txt w K mg) (L:bW K (aC K (ah mg "Many") "may_keep") "may_keep" "Many.may_keep" fV ["self","rooms"]) (B:FnR P w K mg base (aC K (ah mg "Many") "fewest") 1 ["self","rooms"] (xm mg)) (F:FnR P w K mg base (aC K (ah mg "Many") "most") 1 ["self","rooms"] (ue mg)):FnR P w K mg base (aC K (ah mg "Many") "may_keep") 22 ["self","rooms"] (dM mg):=by
 ctx_has z nV <;> obtain⟨p,r,av,cs,lo,hi,kvs,rm,rfl,M,k⟩:=h
 .rfl
 refine⟨_,(ak (az (aU jY (aD (sr rfl) T.b_max (ac (aM T.cl_Many T.no_Many_low (pvM 0)) (ac (bS T.cl_Many B (hr.mono (by ctx_has m)) (pvM 0) (ac (pvM 1) af)) af))) (aD (sS rfl) T.b_min (ac (aM T.cl_Many T.no_Many_high (pvM 0)) (ac (bS T.cl_Many F (hr.mono (by ctx_has m)) (pvM 0) (ac (pvM 1) af)) af)))))),?_⟩
 obtain⟨am,ce,⟨dx,fs,h1,f1,f2,f3,f4,f5,f6,f7,f8⟩,ha,hc⟩:=M.ob;ctx_has v h1 f3 f4 f5 f6
 refine⟨p,r,av,cs,lo,hi,kvs,rm,rfl,M,λH1 Y=>?_⟩
 have Z:=Y _ _ h1;ctx_has v Z f4 f6
 refine⟨p,r,av,cs,lo,hi,kvs,rm,rfl,M.same Y,λH2 s2=>?_⟩
 ctx_has v
 have:=k H2 (Y.trans s2)
 have e:iA lo hi (eB av rm cs) (cQ av rm cs)=decide ((if (eB av rm cs:Int) > lo then(eB av rm cs:Int) else lo)<=if (cQ av rm cs:Int) < hi then(cQ av rm cs:Int) else hi):=by
  unfold iA;rw[n9];simp only[l_,decide_eq_true_eq]
  split <;> split <;> omega
 rw[e] at this;exact this
theorem mo (T:Txt w K mg) (L:bW K (aC K (ah mg "Many") "may_break") "may_break" "Many.may_break" fD ["self","rooms"]) (B:FnR P w K mg base (aC K (ah mg "Many") "fewest") 1 ["self","rooms"] (xm mg)) (F:FnR P w K mg base (aC K (ah mg "Many") "most") 1 ["self","rooms"] (ue mg)):FnR P w K mg base (aC K (ah mg "Many") "may_break") 22 ["self","rooms"] (cT mg):=by
 ctx_has z lG <;> obtain⟨p,r,av,cs,lo,hi,kvs,rm,rfl,M,k⟩:=h
 .rfl
 refine⟨_,(ak (az (kD (aU AZ (bS T.cl_Many B (hr.mono (by ctx_has m)) (pvM 0) (ac (pvM 1) af)) (aM T.cl_Many T.no_Many_low (pvM 0))) (cO (aU AZ (aM T.cl_Many T.no_Many_high (pvM 0)) (bS T.cl_Many F (hr.mono (by ctx_has m)) (pvM 0) (ac (pvM 1) af))))))),?_⟩
 obtain⟨am,ce,⟨dx,fs,h1,f1,f2,f3,f4,f5,f6,f7,f8⟩,ha,hc⟩:=M.ob;ctx_has v h1 f3 f4 f5 f6
 refine⟨p,r,av,cs,lo,hi,kvs,rm,rfl,M,λH1 Y=>?_⟩
 have Z:=Y _ _ h1;ctx_has v Z f3 f4 f6
 refine ft (λh=>?_) (λh=>?_)
 .have:=k H1 Y
  unfold gE at this;rw[decide_eq_true h,Bool.true_or] at this;exact this
 .refine⟨p,r,av,cs,lo,hi,kvs,rm,rfl,M.same Y,λH2 s2=>⟨_,rfl,?_⟩⟩
  have:=k H2 (Y.trans s2)
  unfold gE at this;rw[decide_eq_false h,Bool.false_or] at this;exact this
def nG (mg:Str->Option Value) (H:Hp) (p:Addr):Wi->Prop
 | .un cs=>OBU mg H p cs cs
 | .mn av cs lo hi=>∃F B,ko mg H p (.ref F) (.ref B) lo hi/\H F>>(av.map V.int)/\H B>>(cs.map V.str)
 | .sm ts lo hi=>OBS mg H p (ts,lo,hi) (ts.map (·.2))
 | .tb cs rows=>OBT mg H p (cs,rows)
 | .wy cs ps es=>OBW mg H p (cs,ps,es)
 | .bh cs gap=>OBB mg H p (cs,gap)
theorem nG.obj {W:Wi} (h:nG mg H p W) (B : ∀a xs,H a>>xs->H' a>>xs) (kd : ∀a ks,H a=some (.dT ks)->H' a=some (.dT ks)) (L : ∀C dx fs,H p=some (.ins C dx fs)->H' p=some (.ins C dx fs)):nG mg H' p W:=by
 cases W with
 | un cs =>
  obtain⟨dx,fs,Z,h1,h2,F,r⟩:=h;exact⟨dx,fs,Z,L _ _ _ h1,h2,B _ _ F,r⟩
 | mn av cs lo hi =>
  obtain⟨am,Z,⟨dx,fs,h1,r⟩,h2,F⟩:=h;exact⟨am,Z,⟨dx,fs,L _ _ _ h1,r⟩,B _ _ h2,B _ _ F⟩
 | sm ts lo hi =>
  obtain⟨dx,fs,te,h1,h2,r⟩:=h;exact⟨dx,fs,te,L _ _ _ h1,h2.keep B,r⟩
 | tb cs rows =>
  obtain⟨dx,fs,w,c,t,vs,h1,h2,F,Y,h5,r⟩:=h;exact⟨dx,fs,w,c,t,vs,L _ _ _ h1,cL (W:=.tb cs rows) h2 B,B _ _ F,B _ _ Y,h5.keep B,r⟩
 | wy cs ps es =>
  obtain⟨dx,fs,w,c,e,l,h1,h2,F,Y,h5,r⟩:=h;exact⟨dx,fs,w,c,e,l,L _ _ _ h1,cL (W:=.wy cs ps es) h2 B,B _ _ F,B _ _ Y,kd _ _ h5,r⟩
 | bh cs gap =>
  obtain⟨dx,fs,w,c,h1,h2,F,r⟩:=h;exact⟨dx,fs,w,c,L _ _ _ h1,cL (W:=.bh cs gap) h2 B,B _ _ F,r⟩
theorem nG.keep {W:Wi} (h:nG mg H p W) (k:fk H H'):nG mg H' p W:=h.obj k.tup k.dt λ_ _ _ e=>k.ins _ _ _ _ e
def CsK (mg:Str->Option Value):List (Addr × Sp):=[(ah mg "Unlike",dE mg),(ah mg "Many",dM mg),(ah mg "Sum",dN mg),(ah mg "Table",dH mg),(ah mg "Way",dF mg),(ah mg "Behind",dO mg)]
def CsB (mg:Str->Option Value):List (Addr × Sp):=[(ah mg "Unlike",cV mg),(ah mg "Many",cT mg),(ah mg "Sum",cW mg),(ah mg "Table",cY mg),(ah mg "Way",cU mg),(ah mg "Behind",cX mg)]
theorem DR {P:Addr->Sp->Prop} {a1 F a3 a4 B L:Addr} {Y b2 b3 Z b5 b6:Sp} (h1:P a1 Y) (h2:P F b2) (h3:P a3 b3) (h4:P a4 Z) (h5:P B b5) (h6:P L b6) : ∀C sp,(C,sp)∈[(a1,Y),(F,b2),(a3,b3),(a4,Z),(B,b5),(L,b6)]->P C sp:=λC sp h=>by
 simp only[i7,Prod.mk.injEq,n6,or_false] at h;rcases h with⟨rfl,rfl⟩ | ⟨rfl,rfl⟩ | ⟨rfl,rfl⟩ | ⟨rfl,rfl⟩ | ⟨rfl,rfl⟩ | ⟨rfl,rfl⟩
 .exact h1
 .exact h2
 .exact h3
 .exact h4
 .exact h5
 .exact h6
structure Cn (mg:Str->Option Value) (H:Hp) (i r:Addr) (W:Wi) (kvs:List (Key × V)) (rm:Str->List Int):Prop where
 ob:nG mg H i W
 rd:H r<*kvs
 rf:aY H kvs (bN W) rm
 ok : ∃ws ns,okW ws ns W
 cl:(bN W).length<=5
 ne : ∀c∈bN W,rm c≠[]/\(rm c).length<=4/\(rm c).Pairwise (· < ·)
theorem nh (ne : ∀c∈cs,rm c≠[]/\(rm c).length<=4/\(rm c).Pairwise (· < ·)) : ∀c∈cs,1<=(rm c).length/\(rm c).length<=4/\(rm c).Nodup:=λc B=>⟨J2.mpr (ne c B).1,(ne c B).2.1,(ne c B).2.2.imp λh=>by omega⟩
theorem nS (ne : ∀c∈cs,rm c≠[]/\(rm c).length<=4/\(rm c).Pairwise (· < ·)) : ∀c∈cs,rm c≠[]/\(rm c).length<=10/\(rm c).Pairwise (· < ·):=λc B=>⟨(ne c B).1,i8 (ne c B).2.1 ∅,(ne c B).2.2⟩
theorem lI {i r:Addr} {W:Wi} {Q:VK} (M:Cn mg H i r W kvs rm) (k : ∀(b:Bool) H',(b=true↔∃g,okF rm (bN W) g/\bM W g=true)->au H H'->Q (.bl b) H') :
  ∃C sp,(C,sp)∈CsK mg/\∃dx fs,H i=some (.ins C dx fs)/\fs.lookup (b_ "may_keep")=none/\sp [.ref i,.ref r] H Q E0:=by
 obtain⟨ob,B,L,⟨ws,ns,ok⟩,cl,ne⟩:=M;cases W with
 | un cs =>
  obtain⟨dx,fs,h1,h2,F⟩:=yz (cs:=cs) ob;exact⟨_,dE mg,by simp[CsK],dx,fs,h1,h2,i,r,cs,cs,kvs,rm,rfl,⟨ob,B,L,.refl _,ok.2.1,cl,nh ne⟩,k⟩
 | mn av cs lo hi =>
  obtain⟨am,ce,m,h2,F⟩:=id ob;obtain⟨dx,fs,h1,_,_,_,_,_,_,q1,q2⟩:=m.ex;exact⟨_,dM mg,by simp[CsK],dx,fs,h1,q1,i,r,av,cs,lo,hi,kvs,rm,rfl,⟨⟨am,ce,m,h2,F⟩,B,L,ok.2.2.2,i8 cl ∅,λc Y=>i8 (ne c Y).2.1 ∅⟩,λH' s=>k _ H' (Ac (λc Y=>(nh ne c Y).1) ok.1.2.1).symm s⟩
 | sm ts lo hi =>
  obtain⟨dx,fs,h1,h2,F⟩:=yC (cs:=ts.map (λx:Int × Str=>x.2)) ob
  exact⟨_,dN mg,by simp[CsK],dx,fs,h1,h2,i,r,(ts,lo,hi),ts.map (λx:Int × Str=>x.2),kvs,rm,rfl,⟨ob,B,L,⟨rfl,ok.1.1,λx Z=>⟨(ok.2 x Z).1,(ok.2 x Z).2.1⟩⟩,ok.1.2.1,cl,nh ne⟩,k⟩
 | tb cs rows =>
  obtain⟨dx,fs,h1,_,h2,F⟩:=yw ob;exact⟨_,dH mg,by simp[CsK],dx,fs,h1,h2,i,r,(cs,rows),kvs,rm,rfl,⟨ob,B,L,⟨ok.1.1,ok.1.2.1,ok.1.2.2.2,ok.2.1,ok.2.2.1,i8 ok.2.2.2 ∅⟩,nS ne⟩,k⟩
 | wy cs ps es =>
  obtain⟨dx,fs,h1,_,h2,F⟩:=zt ob;exact⟨_,dF mg,by simp[CsK],dx,fs,h1,h2,i,r,(cs,ps,es),kvs,rm,rfl,⟨ob,B,L,⟨ok.1.1,ok.1.2.1,ok.1.2.2.2,ok.2.1,ok.2.2.1,ok.2.2.2⟩,nS ne⟩,k⟩
 | bh cs gap =>
  obtain⟨dx,fs,h1,_,h2,F⟩:=zr ob;exact⟨_,dO mg,by simp[CsK],dx,fs,h1,h2,i,r,(cs,gap),kvs,rm,rfl,⟨ob,B,L,⟨ok.1,ok.2.1,ok.2.2.2⟩,nS ne⟩,k⟩
theorem kr {i r:Addr} {W:Wi} {Q:VK} (M:Cn mg H i r W kvs rm) (k : ∀(b:Bool) H',(b=true↔∃g,okF rm (bN W) g/\bM W g=false)->au H H'->Q (.bl b) H') :
  ∃C sp,(C,sp)∈CsB mg/\∃dx fs,H i=some (.ins C dx fs)/\fs.lookup (b_ "may_break")=none/\sp [.ref i,.ref r] H Q E0:=by
 obtain⟨ob,F,L,⟨ws,ns,ok⟩,cl,ne⟩:=M;cases W with
 | un cs =>
  obtain⟨dx,fs,h1,h2,B⟩:=yz (cs:=cs) ob;exact⟨_,cV mg,by simp[CsB],dx,fs,h1,B,i,r,cs,cs,kvs,rm,rfl,⟨ob,F,L,.refl _,ok.2.1,cl,nh ne⟩,k⟩
 | mn av cs lo hi =>
  obtain⟨am,ce,m,h2,B⟩:=id ob;obtain⟨dx,fs,h1,_,_,_,_,_,_,q1,q2⟩:=m.ex;exact⟨_,cT mg,by simp[CsB],dx,fs,h1,q2,i,r,av,cs,lo,hi,kvs,rm,rfl,⟨⟨am,ce,m,h2,B⟩,F,L,ok.2.2.2,i8 cl ∅,λc Y=>i8 (ne c Y).2.1 ∅⟩,λH' s=>k _ H' (xc (λc Y=>(nh ne c Y).1) ok.1.2.1).symm s⟩
 | sm ts lo hi =>
  obtain⟨dx,fs,h1,h2,B⟩:=yC (cs:=ts.map (λx:Int × Str=>x.2)) ob
  exact⟨_,cW mg,by simp[CsB],dx,fs,h1,B,i,r,(ts,lo,hi),ts.map (λx:Int × Str=>x.2),kvs,rm,rfl,⟨ob,F,L,⟨rfl,ok.1.1,λx Z=>⟨(ok.2 x Z).1,(ok.2 x Z).2.1⟩⟩,ok.1.2.1,cl,nh ne⟩,k⟩
 | tb cs rows =>
  obtain⟨dx,fs,h1,_,h2,B⟩:=yw ob;exact⟨_,cY mg,by simp[CsB],dx,fs,h1,B,i,r,(cs,rows),kvs,rm,rfl,⟨ob,F,L,⟨ok.1.1,ok.1.2.1,ok.1.2.2.2,ok.2.1,ok.2.2.1,i8 ok.2.2.2 ∅⟩,nS ne⟩,k⟩
 | wy cs ps es =>
  obtain⟨dx,fs,h1,_,h2,B⟩:=zt ob;exact⟨_,cU mg,by simp[CsB],dx,fs,h1,B,i,r,(cs,ps,es),kvs,rm,rfl,⟨ob,F,L,⟨ok.1.1,ok.1.2.1,ok.1.2.2.2,ok.2.1,ok.2.2.1,ok.2.2.2⟩,nS ne⟩,k⟩
 | bh cs gap =>
  obtain⟨dx,fs,h1,_,h2,B⟩:=zr ob;exact⟨_,cX mg,by simp[CsB],dx,fs,h1,B,i,r,(cs,gap),kvs,rm,rfl,⟨ob,F,L,⟨ok.1,ok.2.1,ok.2.2.2⟩,nS ne⟩,k⟩
def CU:Wi->Str
 | .un _ => "Unlike"
 | .mn _ _ _ _ => "Many"
 | .sm _ _ _ => "Sum"
 | .tb _ _ => "Table"
 | .wy _ _ _ => "Way"
 | .bh _ _ => "Behind"
def eU:Wx->Str
 | .pl W=>CU W
 | .sa _ _ _ => "Same"
def iw:Wx->Str
 | .pl W=>jT W
 | .sa _ _ _ => "same"
def HX (mg:Str->Option Value) (H:Hp) (p:Addr) (X:Wx):Prop:=∃w,HW mg (eU X) H p w/\WX H w X
theorem HX.keep {X:Wx} (h:HX mg H p X) (k:fk H H'):HX mg H' p X:=by
 obtain⟨w,⟨dx,fs,h1,r⟩,h2⟩:=h;exact⟨w,⟨dx,fs,k.ins _ _ _ _ h1,r⟩,eI h2 k.tup⟩
theorem IC (h:OBT mg H p (cs,rows)):HX mg H p (.pl (.tb cs rows)):=by
 obtain⟨dx,fs,w,c,t,vs,h1,h2,Y,Z,L,B,_,_,F,_⟩:=h;exact⟨w,⟨dx,fs,h1,B,F⟩,h2⟩
theorem Ip {ps:List (Int × Int × Int)} {es:List Int} (h:OBW mg H p (cs,ps,es)):HX mg H p (.pl (.wy cs ps es)):=by
 obtain⟨dx,fs,w,c,e,l,h1,h2,Y,Z,L,B,_,_,_,F,_⟩:=h;exact⟨w,⟨dx,fs,h1,B,F⟩,h2⟩
theorem Ii (h:OBB mg H p (cs,gap)):HX mg H p (.pl (.bh cs gap)):=by
 obtain⟨dx,fs,w,c,h1,h2,L,B,_,_,F,_⟩:=h;exact⟨w,⟨dx,fs,h1,B,F⟩,h2⟩
def HV (mg:Str->Option Value):Sp:=λvs H Q _=>∃(w:Addr) (W:Wi),vs=[.ref w]/\WS H w W/\(∃ws ns,okW ws ns W)/\∀p H',H p=none->nG mg H' p W->HX mg H' p (.pl W)->au H H'->Q (.ref p) H'
theorem fz {x:Addr} (L:H x=none) (F:H dx=none) (B:dx≠x):au H (upd (upd H dx (.own x)) x (.ins C dx [])):=(au.upd0 F).upd_new (by rw[ag B.symm];exact L)
theorem dj {x:Addr} (B:H x=none) (s:au H H1) (b:gK x H1 H2):au H H2:=λa o e=>b a o (ap e B) (s a o e)
abbrev EN:=Fn P w K mg base "plain_wish_of" 6 ["wish"] (HV mg)
theorem mW (T:Txt w K mg) (L:FnL K mg "plain_wish_of" fW ["wish"]) (F:FnR P w K mg base (Mk K (ah mg "Unlike")) 2 ["self","wish"] (yL mg)) (aa:FnR P w K mg base (Mk K (ah mg "Many")) 2 ["self","wish"] (vz mg)) (aj:FnR P w K mg base (Mk K (ah mg "Sum")) 2 ["self","wish"] (yH mg)) (Z:FnR P w K mg base (Mk K (ah mg "Table")) 2 ["self","wish"] (yX mg "Table")) (ag:FnR P w K mg base (Mk K (ah mg "Way")) 2 ["self","wish"] (vA mg "Way")) (B:FnR P w K mg base (Mk K (ah mg "Behind")) 2 ["self","wish"] (zh mg "Behind")) : @EN P w K mg base:=by
 ctx_has z oy <;> obtain⟨w,W,rfl,hW,an,k⟩:=h
 .rfl
 refine⟨_,(ai (bF (aO bY (aE ba (pvM 0) ao) aJ) (ak (az (gN F (hr.mono (by ctx_has m)) rfl T.at_Unlike (ac (pvM 0) af)))) aR)
  (ai (bF (aO bY (aE ba (pvM 0) ao) aJ) (ak (az (gN aa (hr.mono (by ctx_has m)) rfl T.at_Many (ac (pvM 0) af)))) aR)
  (ai (bF (aO bY (aE ba (pvM 0) ao) aJ) (ak (az (gN aj (hr.mono (by ctx_has m)) rfl T.at_Sum (ac (pvM 0) af)))) aR)
  (ai (bF (aO bY (aE ba (pvM 0) ao) aJ) (ak (az (gN Z (hr.mono (by ctx_has m)) rfl T.at_Table (ac (pvM 0) af)))) aR)
  (ai (bF (aO bY (aE ba (pvM 0) ao) aJ) (ak (az (gN ag (hr.mono (by ctx_has m)) rfl T.at_Way (ac (pvM 0) af)))) aR)
  (ak (az (gN B (hr.mono (by ctx_has m)) rfl T.at_Behind (ac (pvM 0) af))))))))),?_⟩
 cases W with
 | un cs =>
  obtain⟨c,h1,h2⟩:=id hW;refine kI rfl h1 λR=>?_
  ctx_has v h1
  intro x dx Y ad ab;have s1:=fz (C:=ah mg (b_ "Unlike")) Y ad ab;exact⟨x,dx,w,cs,cs,rfl,ae,cL hW λa xs e=>s1 _ _ e,λH2 ob hw b2=>⟨rfl,k x H2 Y ob ⟨w,hw,cL hW λa xs e=>dj Y s1 b2 _ _ e⟩ (dj Y s1 b2)⟩⟩
 | mn av cs lo hi =>
  obtain⟨am,c,h1,h2,h3⟩:=id hW;refine bR rfl h1 (by decide+kernel) (kI rfl h1 λR=>?_)
  ctx_has v h1
  intro x dx Y ad ab;have s1:=fz (C:=ah mg (b_ "Many")) Y ad ab;exact⟨x,dx,w,_,_,lo,hi,rfl,ae,s1 _ _ h1,λH2 ob hw b2=>⟨rfl,k x H2 Y ⟨am,c,ob,dj Y s1 b2 _ _ h2,dj Y s1 b2 _ _ h3⟩ ⟨w,hw,cL hW λa xs e=>dj Y s1 b2 _ _ e⟩ (dj Y s1 b2)⟩⟩
 | sm ts lo hi =>
  obtain⟨t,h1,h2⟩:=id hW;refine bR rfl h1 (by decide+kernel) (bR rfl h1 (by decide+kernel) (kI rfl h1 λR=>?_))
  ctx_has v h1
  intro x dx Y ad ab;have s1:=fz (C:=ah mg (b_ "Sum")) Y ad ab;exact⟨x,dx,w,(ts,lo,hi),ts.map (·.2),rfl,ae,cL hW λa xs e=>s1 _ _ e,λH2 ob hw b2=>⟨rfl,k x H2 Y ob ⟨w,hw,cL hW λa xs e=>dj Y s1 b2 _ _ e⟩ (dj Y s1 b2)⟩⟩
 | tb cs rows =>
  obtain⟨c,t,vs,h1,h2⟩:=id hW;refine bR rfl h1 (by decide+kernel) (bR rfl h1 (by decide+kernel) (bR rfl h1 (by decide+kernel) (kI rfl h1 λR=>?_)))
  ctx_has v h1
  intro x dx Y ad ab;have s1:=fz (C:=ah mg (b_ "Table")) Y ad ab;exact⟨x,dx,w,(cs,rows),rfl,ae,cL hW λa xs e=>s1 _ _ e,λH2 ob b2=>⟨rfl,k x H2 Y ob (IC ob) (dj Y s1 b2)⟩⟩
 | wy cs ps es =>
  obtain⟨c,t,e,vs,h1,h2⟩:=id hW;obtain⟨ws,ns,ok⟩:=an;refine bR rfl h1 (by decide+kernel) (bR rfl h1 (by decide+kernel) (bR rfl h1 (by decide+kernel) (bR rfl h1 (by decide+kernel) (kI rfl h1 λR=>?_))))
  ctx_has v h1
  intro x dx Y ad ab;have s1:=fz (C:=ah mg (b_ "Way")) Y ad ab;exact⟨x,dx,w,(cs,ps,es),rfl,ae,cL hW λa xs e=>s1 _ _ e,⟨ok.1.1,ok.1.2.1,ok.1.2.2.2,ok.2.1,ok.2.2.1,ok.2.2.2⟩,λH2 ob b2=>⟨rfl,k x H2 Y ob (Ip ob) (dj Y s1 b2)⟩⟩
 | bh cs gap =>
  obtain⟨c,h1,h2⟩:=id hW;refine bR rfl h1 (by decide+kernel) (bR rfl h1 (by decide+kernel) (bR rfl h1 (by decide+kernel) (bR rfl h1 (by decide+kernel) (bR rfl h1 (by decide+kernel) ?_))))
  ctx_has v h1
  intro x dx Y ad ab;have s1:=fz (C:=ah mg (b_ "Behind")) Y ad ab;exact⟨x,dx,w,(cs,gap),rfl,ae,cL hW λa xs e=>s1 _ _ e,λH2 ob b2=>⟨rfl,k x H2 Y ob (Ii ob) (dj Y s1 b2)⟩⟩
abbrev jy:=Str × List Int × Wi
def kl (dat:jy):List Str:=dat.1 :: bN dat.2.2
def Dg (dat:jy):Prop:=(∃ws ns,okW ws ns dat.2.2)/\(bN dat.2.2).length<=5/\dat.2.1.length<=20/\dat.1∉bN dat.2.2
def xU (dat:jy) (g:Str->Int):Bool:=dI (.sa dat.1 dat.2.1 dat.2.2) g
def WSX (H:Hp) (w:Addr) (dat:jy):Prop:=WX H w (.sa dat.1 dat.2.1 dat.2.2)
theorem AH {w:Addr} {dat:jy} (h:WSX H w dat) (k:fk H H'):WSX H' w dat:=eI h k.tup
def OBX (mg:Str->Option Value) (H:Hp) (p:Addr) (dat:jy):Prop:=∃dx fs w u i,H p=some (.ins (ah mg "Same") dx fs)/\WSX H w dat/\H u>>(dat.2.1.map V.int)/\nG mg H i dat.2.2/\fs.lookup (b_ "wish")=some (.ref w)/\fs.lookup (b_ "cell")=some (.str dat.1)/\fs.lookup (b_ "among")=some (.ref u)/\fs.lookup (b_ "inner")=some (.ref i) /\
 fs.lookup (b_ "kept")=none/\fs.lookup (b_ "may_keep")=none/\fs.lookup (b_ "may_break")=none/\fs.lookup (b_ "may_be_among")=none/\fs.lookup (b_ "may_be_none_of_them")=none
theorem vE {dat:jy} (h:OBX mg H p dat) (k:fk H H'):OBX mg H' p dat:=by
 obtain⟨dx,fs,w,u,i,h1,h2,B,F,r⟩:=h;exact⟨dx,fs,w,u,i,k.ins _ _ _ _ h1,AH h2 k,k.tup _ _ B,F.keep k,r⟩
theorem yu {dat:jy} (h:OBX mg H p dat) : ∃dx fs,H p=some (.ins (ah mg "Same") dx fs)/\fs.lookup (b_ "kept")=none/\fs.lookup (b_ "may_keep")=none/\fs.lookup (b_ "may_break")=none:=by
 obtain⟨dx,fs,w,u,i,h1,h2,Y,Z,_,_,_,_,F,L,B,_⟩:=h;exact⟨dx,fs,h1,F,L,B⟩
theorem jK {W:Wi} {g':Str->Int} (h : ∀c∈bN W,g c=g' c):bM W g=bM W g':=by
 have e : ∀cs:List Str,(∀c∈cs,g c=g' c)->cs.map g=cs.map g':=λcs h=>q_ h
 cases W with
 | un cs=>show decide (cs.map g).Nodup=decide (cs.map g').Nodup;rw[e cs h]
 | mn av cs lo hi =>
  have e2:(cs.filter λc=>decide (g c∈av))=cs.filter λc=>decide (g' c∈av):=List.filter_congr λc F=>by rw[h c F]
  simp only[bM,e2]
 | sm ts lo hi=>show eC ((ts.map λx=>x.1 * g x.2).sum) lo hi=eC ((ts.map λx=>x.1 * g' x.2).sum) lo hi;rw[q_ λx B=>by rw[h x.2 (List.mem_map_of_mem (f:=Prod.snd) B)]]
 | tb cs rows=>show decide (cs.map g∈rows)=decide (cs.map g'∈rows);rw[e cs h]
 | wy cs ps es=>show tX es (gs ps (some 0) (cs.map g))=tX es (gs ps (some 0) (cs.map g'));rw[e cs h]
 | bh cs gap=>show chB gap (cs.map g)=chB gap (cs.map g');rw[e cs h]
structure ja (mg:Str->Option Value) (H:Hp) (p r:Addr) (dat:jy) (kvs:List (Key × V)) (rm:Str->List Int):Prop where
 ob:OBX mg H p dat
 rd:H r<*kvs
 rf:aY H kvs (kl dat) rm
 ok:Dg dat
 ne : ∀c∈kl dat,rm c≠[]/\(rm c).length<=4/\(rm c).Pairwise (· < ·)
theorem ja.same {mg:Str->Option Value} {H H':Hp} {p r:Addr} {dat:jy} {kvs:List (Key × V)} {rm:Str->List Int} (h:ja mg H p r dat kvs rm) (s:au H H'):ja mg H' p r dat kvs rm :=
 ⟨vE h.ob (au.keepTI s),s _ _ h.rd,h.rf.same (λa vs e=>s _ _ e),h.ok,h.ne⟩
def gF (mg:Str->Option Value):Sp:=λvs H Q _=>∃(p r:Addr) (dat:jy) (kvs:List (Key × V)) (rm:Str->List Int),vs=[.ref p,.ref r]/\ja mg H p r dat kvs rm/\∀(b:Bool) H',(b=true↔∃g,okF rm (kl dat) g/\xU dat g=true)->au H H'->Q (.bl b) H'
def fJ (mg:Str->Option Value):Sp:=λvs H Q _=>∃(p r:Addr) (dat:jy) (kvs:List (Key × V)) (rm:Str->List Int),vs=[.ref p,.ref r]/\ja mg H p r dat kvs rm/\∀(b:Bool) H',(b=true↔∃g,okF rm (kl dat) g/\xU dat g=false)->au H H'->Q (.bl b) H'
theorem xp {x:V} {g':Str->Int} (h:cD H x cs g) (h':cD H x cs g') : ∀c∈cs,g c=g' c:=by
 obtain⟨a,kvs,rfl,h1,h2,_⟩:=h;obtain⟨Z,L,e,B,F,_⟩:=h';cases e;rw[h1] at B;cases B;intro c Y;have:=(h2 c Y).symm.trans (F c Y)
 exact V.int.inj (ge this)
def zg (mg:Str->Option Value) (C:Str):Sp:=λvs H Q _=>∃(p dx w:Addr) (dat:jy),vs=[.ref p,.ref w]/\H p=some (.ins (ah mg C) dx [])/\WSX H w dat/\Dg dat/\∀H',OBX mg H' p dat->gK p H H'->Q .non H'
def xw (mg:Str->Option Value):Sp:=λvs H Q _=>∃(p r:Addr) (dat:jy) (kvs:List (Key × V)) (rm:Str->List Int),vs=[.ref p,.ref r]/\ja mg H p r dat kvs rm/\∀H',au H H'->Q (.bl ((rm dat.1).any λv=>decide (v∈dat.2.1))) H'
def xX (mg:Str->Option Value):Sp:=λvs H Q _=>∃(p r:Addr) (dat:jy) (kvs:List (Key × V)) (rm:Str->List Int),vs=[.ref p,.ref r]/\ja mg H p r dat kvs rm/\∀H',au H H'->Q (.bl ((rm dat.1).any λv=>decide (v∉dat.2.1))) H'
theorem ja.inn {r i:Addr} {dat:jy} (M:ja mg H p r dat kvs rm) (hi:nG mg H i dat.2.2):Cn mg H i r dat.2.2 kvs rm :=
 ⟨hi,M.rd,λc B=>M.rf c (k6 _ B),M.ok.1,M.ok.2.1,λc B=>M.ne c (k6 _ B)⟩
theorem dr {dat:jy} (Y:Dg dat) (F:Bool):(∃g,okF rm (kl dat) g/\xU dat g=F)↔((∃v∈rm dat.1,v∈dat.2.1)/\∃g,okF rm (bN dat.2.2) g/\bM dat.2.2 g=F)\/((∃v∈rm dat.1,v∉dat.2.1)/\∃g,okF rm (bN dat.2.2) g/\bM dat.2.2 g = !F):=by
 constructor
 .rintro⟨g,h1,h2⟩
  have h2:decide (decide (g dat.1∈dat.2.1)=bM dat.2.2 g)=F:=h2
  have Z:okF rm (bN dat.2.2) g:=λc B=>h1 c (k6 _ B)
  have L:=h1 dat.1 m8
  by_cases z:g dat.1∈dat.2.1
  .refine .inl ⟨⟨_,L,z⟩,g,Z,?_⟩
   rw[decide_eq_true z] at h2;cases e:bM dat.2.2 g <;> rw[e] at h2 <;> simpa using h2
  .refine .inr ⟨⟨_,L,z⟩,g,Z,?_⟩
   rw[decide_eq_false z] at h2;cases e:bM dat.2.2 g <;> rw[e] at h2 <;> cases F <;> simp at h2 ⊢
 .have key : ∀v∈rm dat.1,∀g,okF rm (bN dat.2.2) g->okF rm (kl dat) (cy g dat.1 v)/\cy g dat.1 v dat.1=v/\bM dat.2.2 (cy g dat.1 v)=bM dat.2.2 g:=λv L g hg=>by
   have ne : ∀c∈bN dat.2.2,c≠dat.1:=λc B e=>Y.2.2.2 (e ▸ B)
   refine⟨λc B=>?_,bm _ _ _,jK λc B=>cG _ _ (ne c B)⟩
   rcases i7.mp B with e | B
   .rw[e,bm];exact L
   .rw[cG _ _ (ne c B)];exact hg c B
  rintro(⟨⟨v,L,z⟩,g,h1,h2⟩ | ⟨⟨v,L,z⟩,g,h1,h2⟩)
  .obtain⟨a1,a2,a3⟩:=key v L g h1
   refine⟨_,a1,?_⟩
   show decide (decide (cy g dat.1 v dat.1∈dat.2.1)=bM dat.2.2 (cy g dat.1 v))=F
   rw[a2,a3,h2,decide_eq_true z];cases F <;> rfl
  .obtain⟨a1,a2,a3⟩:=key v L g h1
   refine⟨_,a1,?_⟩
   show decide (decide (cy g dat.1 v dat.1∈dat.2.1)=bM dat.2.2 (cy g dat.1 v))=F
   rw[a2,a3,h2,decide_eq_false z];cases F <;> rfl
theorem mj (T:Txt w K mg) (L:bW K (gJ K (ah mg "Wish") "__init__") "__init__" "Wish.__init__" bz ["self","wish"]):FnR P w K mg base (gJ K (ah mg "Wish") "__init__") 1 ["self","wish"] (dA mg "Same"):=by
 ctx_has z bP <;> obtain⟨p,dx,fs,w,rfl,hp,B,k⟩:=h
 .rfl
 refine⟨_,(ak (bA T.cl_Same T.no_Same_wish (pvM 0) (pvM 1) rfl)),?_⟩
 ctx_has v hp
 exact⟨B,k⟩
theorem mQ (T:Txt w K mg) (L:bW K (Mk K (ah mg "Same")) "__init__" "Same.__init__" fS ["self","wish"]) (B:FnR P w K mg base (gJ K (ah mg "Wish") "__init__") 1 ["self","wish"] (dA mg "Same")) (Ff : @EN P w K mg base):FnR P w K mg base (Mk K (ah mg "Same")) 8 ["self","wish"] (zg mg "Same"):=by
 ctx_has z nK <;> obtain⟨p,dx,w,dat,rfl,hp,hW,aa,k⟩:=h
 .rfl
 refine⟨_,(ai (cJ (iR B (hr.mono (by ctx_has m)) rfl T.at_Wish (ac (pvM 0) (ac (pvM 1) af))))
  (ai (bA T.cl_Same T.no_Same_cell (pvM 0) (aE ba (pvM 1) ao) rfl)
  (ai (bA T.cl_Same T.no_Same_among (pvM 0) (aE ba (pvM 1) ao) rfl)
  (ak (bA T.cl_Same T.no_Same_inner (pvM 0) (aw Ff (ac (aE ba (pvM 1) ao) af)) rfl))))),?_⟩
 obtain⟨c,us,W⟩:=dat;obtain⟨t,u,Z,h2,h3⟩:=hW;ctx_has v Z
 have Y:w≠p:=aX Z hp (by intro z;cases z)
 refine⟨p,dx,[],.ref w,rfl,hp,∅,?_⟩
 refine⟨_,by rw[ag Y];exact Z,_,rfl,dx,_,ae,dJ (zD _ "" "" "" _ .non .non .non),_,by rw[ag Y,ag Y];exact Z,_,rfl,dx,_,ae,dJ (zC _ _ "" "" _ _ .non .non),_,by rw[ag Y,ag Y,ag Y];exact Z,_,rfl,?_⟩
 rw[lU,lU];have b1 : ∀o,gK p H (upd H p o):=λo b x hb e=>by rw[ag hb];exact e
 have kt : ∀o a xs,H a>>xs->upd H p o a>>xs:=λo a xs e=>b1 o _ _ (aX e hp (by intro z;cases z)) e
 refine⟨u,W,rfl,cL h3 (kt _),aa.1,λi H2 hi ob _ s2=>⟨dx,_,s2 _ _ ae,dJ (DG _ _ _ "" _ _ _ .non),?_⟩⟩
 have g2:=s2 _ _ ae;have ip:i≠p:=λe=>by rw[e,ae] at hi;cases hi
 have k2 : ∀o a x,a≠p->H2 a=some x->upd H2 p o a=some x:=λo a x hb e=>by rw[ag hb];exact e
 have F : ∀o a xs,H a>>xs->upd H2 p o a>>xs:=λo a xs e=>k2 o _ _ (aX e hp (by intro z;cases z)) (s2 _ _ (kt _ _ _ e))
 refine k _ ⟨dx,_,w,t,i,ae,⟨t,u,F _ _ _ Z,F _ _ _ h2,cL h3 (F _)⟩,F _ _ _ h2,ob.obj (λa xs e=>k2 _ _ _ (aX e g2 (by intro z;cases z)) e) (λa xs e=>k2 _ _ _ (aX e g2 (by intro z;cases z)) e) (λC dx fs e=>k2 _ _ _ ip e),?_⟩ ?_
 .simp only[br,dB,String.reduceEq,if_true,if_false,true_and,Je,and_self]
 .intro b o hb e
  exact k2 _ _ _ hb (s2 _ _ (b1 _ b o hb e))
theorem yS (h:cD H (.ref f) ws g) (F : ∀c∈cs,c∈ws) (hl:ws.length<=40) (B : ∀c∈cs,-2000000<=g c/\g c<=2000000):eo H f cs g:=by
 obtain⟨a,kvs,e,h1,h2,L,Y⟩:=h;cases e;exact⟨⟨kvs,h1,λc Z=>h2 c (F c Z),Y,i8 L hl⟩,B⟩
theorem jC (T:Txt w K mg) (L:bW K (aC K (ah mg "Same") "may_be_among") "may_be_among" "Same.may_be_among" cK ["self","rooms"]):FnR P w K mg base (aC K (ah mg "Same") "may_be_among") 1 ["self","rooms"] (xw mg):=by
 ctx_has z jR <;> obtain⟨p,r,dat,kvs,rm,rfl,M,k⟩:=h
 .rfl
 refine⟨_,(ak (az (aD (gy rfl) T.b_any (ac (bj (N:=["value","self"]) (nt:=1) (js:=[0]) (aI ["self","rooms"] (aj cK).names) (bT K (bQ hu (pvM 1) (aM T.cl_Same T.no_Same_cell (pvM 0)))) (aA 0) aP bx (aU gA (pvM 0) (aM T.cl_Same T.no_Same_among (pvM 1)))) af)))),?_⟩
 obtain⟨dx,fs,w,u,i,h1,h2,h3,h4,l1,l2,l3,l4,r⟩:=M.ob;obtain⟨a0,Y,B⟩:=M.rf dat.1 m8;have aa:=M.ne dat.1 m8;have Z:=M.rd;ctx_has v h1 l2 Z Y B
 refine λD hD=>dG aV (λj ys H'=>ys=((rm dat.1).take j).map (λv=>V.bl (decide (v∈dat.2.1)))/\au H H'/\H' D*>ys) ⟨rfl,au.upd0 hD,ae⟩ (λj ys H' F=>by obtain⟨_,s,_⟩:=F;exact(.of (s _ _ B))) ?_ ?_
 .rintro j x ys H1 hj hx ⟨rfl,s1,h1D⟩
  obtain⟨v,hv,rfl⟩ : ∃v,(rm dat.1)[j]? = some v/\V.int v=x:=by
   rw[fx] at hx;cases e:(rm dat.1)[j]? with
   | none=>rw[e] at hx;cases hx
   | some u=>rw[e] at hx;exact⟨u,rfl,ge hx⟩
  have g1:=s1 _ _ h1;have g3:=s1 _ _ h3;ctx_has v g1 l3 g3
  refine⟨rfl,cj _,h1D,?_,?_,λb o e=>(by rw[ag (ap e hD)];exact s1 _ _ e),ae⟩
  .rw[d_,Ju]
   exact aK ()
  .rw[ki,hv,df]
   simp
 .rintro ys H1 ⟨rfl,s1,h1D⟩
  rw[d_,m_] at h1D;have:=k H1 s1
  refine⟨D,rfl,(rm dat.1).map λv=>decide (v∈dat.2.1),by rw[h1D,m6];rfl,?_⟩
  rw[any_map];exact this
theorem gk (T:Txt w K mg) (L:bW K (aC K (ah mg "Same") "may_be_none_of_them") "may_be_none_of_them" "Same.may_be_none_of_them" bI ["self","rooms"]):FnR P w K mg base (aC K (ah mg "Same") "may_be_none_of_them") 1 ["self","rooms"] (xX mg):=by
 ctx_has z gn <;> obtain⟨p,r,dat,kvs,rm,rfl,M,k⟩:=h
 .rfl
 refine⟨_,(ak (az (aD (gy rfl) T.b_any (ac (bj (N:=["value","self"]) (nt:=1) (js:=[0]) (aI ["self","rooms"] (aj bI).names) (bT K (bQ hu (pvM 1) (aM T.cl_Same T.no_Same_cell (pvM 0)))) (aA 0) aP bx (aU sI (pvM 0) (aM T.cl_Same T.no_Same_among (pvM 1)))) af)))),?_⟩
 obtain⟨dx,fs,w,u,i,h1,h2,h3,h4,l1,l2,l3,l4,r⟩:=M.ob;obtain⟨a0,Y,B⟩:=M.rf dat.1 m8;have aa:=M.ne dat.1 m8;have Z:=M.rd;ctx_has v h1 l2 Z Y B
 refine λD hD=>dG aV (λj ys H'=>ys=((rm dat.1).take j).map (λv=>V.bl (decide (v∉dat.2.1)))/\au H H'/\H' D*>ys) ⟨rfl,au.upd0 hD,ae⟩ (λj ys H' F=>by obtain⟨_,s,_⟩:=F;exact(.of (s _ _ B))) ?_ ?_
 .rintro j x ys H1 hj hx ⟨rfl,s1,h1D⟩
  obtain⟨v,hv,rfl⟩ : ∃v,(rm dat.1)[j]? = some v/\V.int v=x:=by
   rw[fx] at hx;cases e:(rm dat.1)[j]? with
   | none=>rw[e] at hx;cases hx
   | some u=>rw[e] at hx;exact⟨u,rfl,ge hx⟩
  have g1:=s1 _ _ h1;have g3:=s1 _ _ h3;ctx_has v g1 l3 g3
  refine⟨rfl,cj _,h1D,?_,?_,λb o e=>(by rw[ag (ap e hD)];exact s1 _ _ e),ae⟩
  .rw[d_,Ju]
   exact aK ()
  .rw[ki,hv,df]
   simp
 .rintro ys H1 ⟨rfl,s1,h1D⟩
  rw[d_,m_] at h1D;have:=k H1 s1
  refine⟨D,rfl,(rm dat.1).map λv=>decide (v∉dat.2.1),by rw[h1D,m6];rfl,?_⟩
  rw[any_map];exact this
theorem pN {l us:List Int}:(l.any λv=>decide (v∈us))=true↔∃v∈l,v∈us:=by simp
theorem gZ {l us:List Int}:(l.any λv=>decide (v∉us))=true↔∃v∈l,v∉us:=by simp
theorem nB (T:Txt w K mg) (L:bW K (aC K (ah mg "Same") "may_keep") "may_keep" "Same.may_keep" fX ["self","rooms"]) (F:FnR P w K mg base (aC K (ah mg "Same") "may_be_among") 1 ["self","rooms"] (xw mg)) (B:FnR P w K mg base (aC K (ah mg "Same") "may_be_none_of_them") 1 ["self","rooms"] (xX mg)) (ab:FnR P w K mg base (aC K (ah mg "Unlike") "may_keep") 22 ["self","rooms"] (dE mg)) (aj:FnR P w K mg base (aC K (ah mg "Many") "may_keep") 22 ["self","rooms"] (dM mg)) (ao:FnR P w K mg base (aC K (ah mg "Sum") "may_keep") 22 ["self","rooms"] (dN mg)) (ag:FnR P w K mg base (aC K (ah mg "Table") "may_keep") 22 ["self","rooms"] (dH mg)) (ap:FnR P w K mg base (aC K (ah mg "Way") "may_keep") 22 ["self","rooms"] (dF mg)) (aa:FnR P w K mg base (aC K (ah mg "Behind") "may_keep") 22 ["self","rooms"] (dO mg)) (Z:FnR P w K mg base (aC K (ah mg "Unlike") "may_break") 22 ["self","rooms"] (cV mg)) (ai:FnR P w K mg base (aC K (ah mg "Many") "may_break") 22 ["self","rooms"] (cT mg)) (am:FnR P w K mg base (aC K (ah mg "Sum") "may_break") 22 ["self","rooms"] (cW mg)) (ad:FnR P w K mg base (aC K (ah mg "Table") "may_break") 22 ["self","rooms"] (cY mg)) (an:FnR P w K mg base (aC K (ah mg "Way") "may_break") 22 ["self","rooms"] (cU mg)) (Y:FnR P w K mg base (aC K (ah mg "Behind") "may_break") 22 ["self","rooms"] (cX mg)):FnR P w K mg base (aC K (ah mg "Same") "may_keep") 23 ["self","rooms"] (gF mg):=by
 ctx_has z nZ <;> obtain⟨p,r,dat,kvs,rm,rfl,M,k⟩:=h
 .rfl
 refine⟨_,(ak (az (kD (im (bS T.cl_Same F (hr.mono (by ctx_has m)) (pvM 0) (ac (pvM 1) af)) (cO (fe (DR ⟨T.cl_Unlike,ab⟩ ⟨T.cl_Many,aj⟩ ⟨T.cl_Sum,ao⟩ ⟨T.cl_Table,ag⟩ ⟨T.cl_Way,ap⟩ ⟨T.cl_Behind,aa⟩) (hr.mono (by ctx_has m)) (aM T.cl_Same T.no_Same_inner (pvM 0)) (ac (pvM 1) af)))) (cO (im (bS T.cl_Same B (hr.mono (by ctx_has m)) (pvM 0) (ac (pvM 1) af)) (cO (fe (DR ⟨T.cl_Unlike,Z⟩ ⟨T.cl_Many,ai⟩ ⟨T.cl_Sum,am⟩ ⟨T.cl_Table,ad⟩ ⟨T.cl_Way,an⟩ ⟨T.cl_Behind,Y⟩) (hr.mono (by ctx_has m)) (aM T.cl_Same T.no_Same_inner (pvM 0)) (ac (pvM 1) af)))))))),?_⟩
 obtain⟨dx,fs,w,u,i,h1,h2,h3,h4,l1,l2,l3,l4,r1,r2,r3,r4,r5⟩:=M.ob;ctx_has v h1 r4
 refine⟨p,r,dat,kvs,rm,rfl,M,λH1 s1=>⟨_,rfl,?_⟩⟩
 by_cases hA:((rm dat.1).any λv=>decide (v∈dat.2.1))=true
 .rw[if_pos hA]
  refine⟨dx,fs,s1 _ _ h1,_,l4,i,rfl,lI ((M.same s1).inn (h4.keep (au.keepTI s1))) λb1 H2 ax s2=>⟨_,rfl,?_⟩⟩
  have s3:=s1.trans s2;cases b1 with
  | true =>
   rw[if_pos rfl];refine k true H2 ?_ s3
   rw[dr M.ok];exact⟨λ_=>.inl ⟨pN.mp hA,ax.mp rfl⟩,λ_=>rfl⟩
  | false =>
   rw[if_neg ∅]
   have ar : ¬ ((∃v∈rm dat.1,v∈dat.2.1)/\∃g,okF rm (bN dat.2.2) g/\bM dat.2.2 g=true):=λz=>by cases ax.mpr z.2
   refine⟨dx,fs,s3 _ _ h1,r5,p,r,dat,kvs,rm,rfl,M.same s3,λHB sB=>⟨_,rfl,?_⟩⟩
   have aq:=s3.trans sB
   by_cases hN:((rm dat.1).any λv=>decide (v∉dat.2.1))=true
   .rw[if_pos hN]
    refine⟨dx,fs,aq _ _ h1,_,l4,i,rfl,kr ((M.same aq).inn (h4.keep (au.keepTI aq))) λb2 HC aw sC=>k b2 HC ?_ (aq.trans sC)⟩
    rw[dr M.ok,aw];exact⟨λz=>.inr ⟨gZ.mp hN,z⟩,λz=>z.elim (λz=>absurd z ar) λz=>z.2⟩
   .rw[if_neg hN]
    refine k false HB ?_ aq
    rw[dr M.ok];exact⟨λz=>(by cases z),λz=>z.elim (λz=>absurd z ar) λz=>absurd (gZ.mpr z.1) hN⟩
 .rw[if_neg hA]
  have ar : ¬ ((∃v∈rm dat.1,v∈dat.2.1)/\∃g,okF rm (bN dat.2.2) g/\bM dat.2.2 g=true):=λz=>hA (pN.mpr z.1)
  refine⟨dx,fs,s1 _ _ h1,r5,p,r,dat,kvs,rm,rfl,M.same s1,λHB sB=>⟨_,rfl,?_⟩⟩
  have aq:=s1.trans sB
  by_cases hN:((rm dat.1).any λv=>decide (v∉dat.2.1))=true
  .rw[if_pos hN]
   refine⟨dx,fs,aq _ _ h1,_,l4,i,rfl,kr ((M.same aq).inn (h4.keep (au.keepTI aq))) λb2 HC aw sC=>k b2 HC ?_ (aq.trans sC)⟩
   rw[dr M.ok,aw];exact⟨λz=>.inr ⟨gZ.mp hN,z⟩,λz=>z.elim (λz=>absurd z ar) λz=>z.2⟩
  .rw[if_neg hN]
   refine k false HB ?_ aq
   rw[dr M.ok];exact⟨λz=>(by cases z),λz=>z.elim (λz=>absurd z ar) λz=>absurd (gZ.mpr z.1) hN⟩
theorem me (T:Txt w K mg) (L:bW K (aC K (ah mg "Same") "may_break") "may_break" "Same.may_break" fC ["self","rooms"]) (F:FnR P w K mg base (aC K (ah mg "Same") "may_be_among") 1 ["self","rooms"] (xw mg)) (B:FnR P w K mg base (aC K (ah mg "Same") "may_be_none_of_them") 1 ["self","rooms"] (xX mg)) (ab:FnR P w K mg base (aC K (ah mg "Unlike") "may_keep") 22 ["self","rooms"] (dE mg)) (aj:FnR P w K mg base (aC K (ah mg "Many") "may_keep") 22 ["self","rooms"] (dM mg)) (ao:FnR P w K mg base (aC K (ah mg "Sum") "may_keep") 22 ["self","rooms"] (dN mg)) (ag:FnR P w K mg base (aC K (ah mg "Table") "may_keep") 22 ["self","rooms"] (dH mg)) (ap:FnR P w K mg base (aC K (ah mg "Way") "may_keep") 22 ["self","rooms"] (dF mg)) (aa:FnR P w K mg base (aC K (ah mg "Behind") "may_keep") 22 ["self","rooms"] (dO mg)) (Z:FnR P w K mg base (aC K (ah mg "Unlike") "may_break") 22 ["self","rooms"] (cV mg)) (ai:FnR P w K mg base (aC K (ah mg "Many") "may_break") 22 ["self","rooms"] (cT mg)) (am:FnR P w K mg base (aC K (ah mg "Sum") "may_break") 22 ["self","rooms"] (cW mg)) (ad:FnR P w K mg base (aC K (ah mg "Table") "may_break") 22 ["self","rooms"] (cY mg)) (an:FnR P w K mg base (aC K (ah mg "Way") "may_break") 22 ["self","rooms"] (cU mg)) (Y:FnR P w K mg base (aC K (ah mg "Behind") "may_break") 22 ["self","rooms"] (cX mg)):FnR P w K mg base (aC K (ah mg "Same") "may_break") 23 ["self","rooms"] (fJ mg):=by
 ctx_has z mh <;> obtain⟨p,r,dat,kvs,rm,rfl,M,k⟩:=h
 .rfl
 refine⟨_,(ak (az (kD (im (bS T.cl_Same F (hr.mono (by ctx_has m)) (pvM 0) (ac (pvM 1) af)) (cO (fe (DR ⟨T.cl_Unlike,Z⟩ ⟨T.cl_Many,ai⟩ ⟨T.cl_Sum,am⟩ ⟨T.cl_Table,ad⟩ ⟨T.cl_Way,an⟩ ⟨T.cl_Behind,Y⟩) (hr.mono (by ctx_has m)) (aM T.cl_Same T.no_Same_inner (pvM 0)) (ac (pvM 1) af)))) (cO (im (bS T.cl_Same B (hr.mono (by ctx_has m)) (pvM 0) (ac (pvM 1) af)) (cO (fe (DR ⟨T.cl_Unlike,ab⟩ ⟨T.cl_Many,aj⟩ ⟨T.cl_Sum,ao⟩ ⟨T.cl_Table,ag⟩ ⟨T.cl_Way,ap⟩ ⟨T.cl_Behind,aa⟩) (hr.mono (by ctx_has m)) (aM T.cl_Same T.no_Same_inner (pvM 0)) (ac (pvM 1) af)))))))),?_⟩
 obtain⟨dx,fs,w,u,i,h1,h2,h3,h4,l1,l2,l3,l4,r1,r2,r3,r4,r5⟩:=M.ob;ctx_has v h1 r4
 refine⟨p,r,dat,kvs,rm,rfl,M,λH1 s1=>⟨_,rfl,?_⟩⟩
 by_cases hA:((rm dat.1).any λv=>decide (v∈dat.2.1))=true
 .rw[if_pos hA]
  refine⟨dx,fs,s1 _ _ h1,_,l4,i,rfl,kr ((M.same s1).inn (h4.keep (au.keepTI s1))) λb1 H2 ax s2=>⟨_,rfl,?_⟩⟩
  have s3:=s1.trans s2;cases b1 with
  | true =>
   rw[if_pos rfl];refine k true H2 ?_ s3
   rw[dr M.ok];exact⟨λ_=>.inl ⟨pN.mp hA,ax.mp rfl⟩,λ_=>rfl⟩
  | false =>
   rw[if_neg ∅]
   have ar : ¬ ((∃v∈rm dat.1,v∈dat.2.1)/\∃g,okF rm (bN dat.2.2) g/\bM dat.2.2 g=false):=λz=>by cases ax.mpr z.2
   refine⟨dx,fs,s3 _ _ h1,r5,p,r,dat,kvs,rm,rfl,M.same s3,λHB sB=>⟨_,rfl,?_⟩⟩
   have aq:=s3.trans sB
   by_cases hN:((rm dat.1).any λv=>decide (v∉dat.2.1))=true
   .rw[if_pos hN]
    refine⟨dx,fs,aq _ _ h1,_,l4,i,rfl,lI ((M.same aq).inn (h4.keep (au.keepTI aq))) λb2 HC aw sC=>k b2 HC ?_ (aq.trans sC)⟩
    rw[dr M.ok,aw];exact⟨λz=>.inr ⟨gZ.mp hN,z⟩,λz=>z.elim (λz=>absurd z ar) λz=>z.2⟩
   .rw[if_neg hN]
    refine k false HB ?_ aq
    rw[dr M.ok];exact⟨λz=>(by cases z),λz=>z.elim (λz=>absurd z ar) λz=>absurd (gZ.mpr z.1) hN⟩
 .rw[if_neg hA]
  have ar : ¬ ((∃v∈rm dat.1,v∈dat.2.1)/\∃g,okF rm (bN dat.2.2) g/\bM dat.2.2 g=false):=λz=>hA (pN.mpr z.1)
  refine⟨dx,fs,s1 _ _ h1,r5,p,r,dat,kvs,rm,rfl,M.same s1,λHB sB=>⟨_,rfl,?_⟩⟩
  have aq:=s1.trans sB
  by_cases hN:((rm dat.1).any λv=>decide (v∉dat.2.1))=true
  .rw[if_pos hN]
   refine⟨dx,fs,aq _ _ h1,_,l4,i,rfl,lI ((M.same aq).inn (h4.keep (au.keepTI aq))) λb2 HC aw sC=>k b2 HC ?_ (aq.trans sC)⟩
   rw[dr M.ok,aw];exact⟨λz=>.inr ⟨gZ.mp hN,z⟩,λz=>z.elim (λz=>absurd z ar) λz=>z.2⟩
  .rw[if_neg hN]
   refine k false HB ?_ aq
   rw[dr M.ok];exact⟨λz=>(by cases z),λz=>z.elim (λz=>absurd z ar) λz=>absurd (gZ.mpr z.1) hN⟩
def tF (mg:Str->Option Value) (H:Hp) (p:Addr) (X:Wx):Prop:=HX mg H p X/\match X with
 | .pl W=>nG mg H p W
 | .sa c us W=>OBX mg H p (c,us,W)
def okO:Wx->Prop
 | .pl W=>(∃ws ns,okW ws ns W)/\(bN W).length<=5
 | .sa c us W=>Dg (c,us,W)
theorem tF.keep {mg:Str->Option Value} {H H':Hp} {p:Addr} {X:Wx} (h:tF mg H p X) (k:fk H H'):tF mg H' p X:=by
 refine⟨h.1.keep k,?_⟩
 cases X with
 | pl W=>exact nG.keep h.2 k
 | sa c us W=>exact vE h.2 k
theorem IZ {us:List Int} {W:Wi} (h:OBX mg H p (c,us,W)):HX mg H p (.sa c us W):=by
 obtain⟨dx,fs,w,u,i,h1,h2,L,Y,B,_,_,_,F,_⟩:=h;exact⟨w,⟨dx,fs,h1,B,F⟩,h2⟩
theorem Cq {X:Wx} (h:okO X):szX X:=by
 cases X with
 | pl W=>obtain⟨⟨_,_,h⟩,_⟩:=h;exact A2 h
 | sa c us W=>obtain⟨⟨_,_,h⟩,_⟩:=h;exact A2 h
theorem oM {X:Wx} {g':Str->Int} (h : ∀c∈cN X,g c=g' c):dI X g=dI X g':=by
 cases X with
 | pl W=>exact jK h
 | sa c us W =>
  show decide (decide (g c∈us)=bM W g)=decide (decide (g' c∈us)=bM W g')
  rw[h c m8,jK λc B=>h c (k6 _ B)]
def IQ (mg:Str->Option Value):Sp:=λvs H Q _=>∃(w:Addr) (X:Wx),vs=[.ref w]/\WX H w X/\okO X/\∀p H',H p=none->tF mg H' p X->au H H'->Q (.ref p) H'
def gU (mg:Str->Option Value) (C:Str):Sp:=λvs H Q _=>∃(p f w:Addr) (X:Wx) (g:Str->Int),vs=[.ref p,.ref f]/\eU X=C/\HW mg C H p w/\WX H w X/\szX X/\eo H f (cN X) g/\∀H',au H H'->Q (.bl (dI X g)) H'
def GY:Sp:=λvs H Q _=>∃(w f:Addr) (X:Wx) (g:Str->Int),vs=[.ref w,.ref f]/\WX H w X/\okO X/\eo H f (cN X) g/\∀H',au H H'->Q (.bl (dI X g)) H'
abbrev Cp:=Fn P w K mg base "wish_of" 10 ["wish"] (IQ mg)
theorem yk (T:Txt w K mg) (L:FnL K mg "wish_of" ow ["wish"]) (Ff : @EN P w K mg base) (B:FnR P w K mg base (Mk K (ah mg "Same")) 8 ["self","wish"] (zg mg "Same")) : @Cp P w K mg base:=by
 ctx_has z xi <;> obtain⟨w,X,rfl,F,Y,k⟩:=h
 .rfl
 refine⟨_,(ai (bF (aO bY (aE ba (pvM 0) ao) aJ) (ak (az (gN B (hr.mono (by ctx_has m)) rfl T.at_Same (ac (pvM 0) af)))) aR)
  (ak (az (aw Ff (ac (pvM 0) af))))),?_⟩
 cases X with
 | pl W =>
  have k2 : ∀p H',H p=none->nG mg H' p W->HX mg H' p (.pl W)->au H H'->Q (.ref p) H':=λp H' hp ob Z s=>k p H' hp ⟨Z,ob⟩ s
  clear k;have F:WS H w W:=F
  cases W with
  | un cs =>
   obtain⟨c,h1,h2⟩:=id F;ctx_has v h1
   exact⟨w,_,rfl,F,Y.1,k2⟩
  | mn av cs lo hi =>
   obtain⟨am,c,h1,h2,h3⟩:=id F;ctx_has v h1
   exact⟨w,_,rfl,F,Y.1,k2⟩
  | sm ts lo hi =>
   obtain⟨t,h1,h2⟩:=id F;ctx_has v h1
   exact⟨w,_,rfl,F,Y.1,k2⟩
  | tb cs rows =>
   obtain⟨c,t,vs,h1,h2⟩:=id F;ctx_has v h1
   exact⟨w,_,rfl,F,Y.1,k2⟩
  | wy cs ps es =>
   obtain⟨c,t,e,vs,h1,h2⟩:=id F;ctx_has v h1
   exact⟨w,_,rfl,F,Y.1,k2⟩
  | bh cs gap =>
   obtain⟨c,h1,h2⟩:=id F;ctx_has v h1
   exact⟨w,_,rfl,F,Y.1,k2⟩
 | sa c us W =>
  obtain⟨t,u,h1,h2,h3⟩:=id F;ctx_has v h1
  intro x dx Z ab aa;have s1:=fz (C:=ah mg (b_ "Same")) Z ab aa;exact⟨x,dx,w,(c,us,W),rfl,ae,eI F λa xs e=>s1 _ _ e,Y,λH2 ob b2=>⟨rfl,k x H2 Z ⟨IZ ob,ob⟩ (dj Z s1 b2)⟩⟩
theorem pT (T:Txt w K mg) (L:bW K (aC K (ah mg "Unlike") "kept") "kept" "Unlike.kept" ij ["self","filling"]) (Fp : @Dz7 P w K mg base):FnR P w K mg base (aC K (ah mg "Unlike") "kept") 6 ["self","filling"] (gU mg "Unlike"):=by
 ctx_has z qe <;> obtain⟨p,f,w,X,g,rfl,B,Z,hW,Y,F,k⟩:=h
 .rfl
 refine⟨_,(ak (az (aw Fp (ac (aM T.cl_Unlike T.no_Unlike_wish (pvM 0)) (ac (pvM 1) af))))),?_⟩
 obtain⟨dx,fs,h1,l1,_⟩:=Z;cases X with
 | sa c us W=>cases B
 | pl W =>
  ctx_has v h1 l1
  exact⟨w,f,W,g,rfl,(by cases W <;> first | rfl | cases B),hW,Y,F,k⟩
theorem uR (T:Txt w K mg) (L:bW K (aC K (ah mg "Many") "kept") "kept" "Many.kept" jG ["self","filling"]) (Fv : @Dz8 P w K mg base):FnR P w K mg base (aC K (ah mg "Many") "kept") 6 ["self","filling"] (gU mg "Many"):=by
 ctx_has z tJ <;> obtain⟨p,f,w,X,g,rfl,B,Z,hW,Y,F,k⟩:=h
 .rfl
 refine⟨_,(ak (az (aw Fv (ac (aM T.cl_Many T.no_Many_wish (pvM 0)) (ac (pvM 1) af))))),?_⟩
 obtain⟨dx,fs,h1,l1,_⟩:=Z;cases X with
 | sa c us W=>cases B
 | pl W =>
  ctx_has v h1 l1
  exact⟨w,f,W,g,rfl,(by cases W <;> first | rfl | cases B),hW,Y,F,k⟩
theorem vv (T:Txt w K mg) (L:bW K (aC K (ah mg "Sum") "kept") "kept" "Sum.kept" kJ ["self","filling"]) (Z : @Dz9 P w K mg base):FnR P w K mg base (aC K (ah mg "Sum") "kept") 6 ["self","filling"] (gU mg "Sum"):=by
 ctx_has z vd <;> obtain⟨p,f,w,X,g,rfl,B,hO,hW,Y,F,k⟩:=h
 .rfl
 refine⟨_,(ak (az (aw Z (ac (aM T.cl_Sum T.no_Sum_wish (pvM 0)) (ac (pvM 1) af))))),?_⟩
 obtain⟨dx,fs,h1,l1,_⟩:=hO;cases X with
 | sa c us W=>cases B
 | pl W =>
  ctx_has v h1 l1
  exact⟨w,f,W,g,rfl,(by cases W <;> first | rfl | cases B),hW,Y,F,k⟩
theorem rG (T:Txt w K mg) (L:bW K (aC K (ah mg "Table") "kept") "kept" "Table.kept" iH ["self","filling"]) (Fs : @GQ P w K mg base):FnR P w K mg base (aC K (ah mg "Table") "kept") 6 ["self","filling"] (gU mg "Table"):=by
 ctx_has z rN <;> obtain⟨p,f,w,X,g,rfl,B,Z,hW,Y,F,k⟩:=h
 .rfl
 refine⟨_,(ak (az (aw Fs (ac (aM T.cl_Table T.no_Table_wish (pvM 0)) (ac (pvM 1) af))))),?_⟩
 obtain⟨dx,fs,h1,l1,_⟩:=Z;cases X with
 | sa c us W=>cases B
 | pl W =>
  ctx_has v h1 l1
  exact⟨w,f,W,g,rfl,(by cases W <;> first | rfl | cases B),hW,Y,F,k⟩
theorem vX (T:Txt w K mg) (L:bW K (aC K (ah mg "Way") "kept") "kept" "Way.kept" lu ["self","filling"]) (Fx : @HN P w K mg base):FnR P w K mg base (aC K (ah mg "Way") "kept") 6 ["self","filling"] (gU mg "Way"):=by
 ctx_has z wJ <;> obtain⟨p,f,w,X,g,rfl,B,Z,hW,Y,F,k⟩:=h
 .rfl
 refine⟨_,(ak (az (aw Fx (ac (aM T.cl_Way T.no_Way_wish (pvM 0)) (ac (pvM 1) af))))),?_⟩
 obtain⟨dx,fs,h1,l1,_⟩:=Z;cases X with
 | sa c us W=>cases B
 | pl W =>
  ctx_has v h1 l1
  exact⟨w,f,W,g,rfl,(by cases W <;> first | rfl | cases B),hW,Y,F,k⟩
theorem pW (T:Txt w K mg) (L:bW K (aC K (ah mg "Behind") "kept") "kept" "Behind.kept" iq ["self","filling"]) (Fo : @GU P w K mg base):FnR P w K mg base (aC K (ah mg "Behind") "kept") 6 ["self","filling"] (gU mg "Behind"):=by
 ctx_has z qS <;> obtain⟨p,f,w,X,g,rfl,B,Z,hW,Y,F,k⟩:=h
 .rfl
 refine⟨_,(ak (az (aw Fo (ac (aM T.cl_Behind T.no_Behind_wish (pvM 0)) (ac (pvM 1) af))))),?_⟩
 obtain⟨dx,fs,h1,l1,_⟩:=Z;cases X with
 | sa c us W=>cases B
 | pl W =>
  ctx_has v h1 l1
  exact⟨w,f,W,g,rfl,(by cases W <;> first | rfl | cases B),hW,Y,F,k⟩
theorem uy (T:Txt w K mg) (L:bW K (aC K (ah mg "Same") "kept") "kept" "Same.kept" jt ["self","filling"]) (FI:Fn P w K mg base "same_kept" 5 ["wish","filling"] (uh)):FnR P w K mg base (aC K (ah mg "Same") "kept") 6 ["self","filling"] (gU mg "Same"):=by
 ctx_has z tG <;> obtain⟨p,f,w,X,g,rfl,hC,Y,Z,B,F,k⟩:=h
 .rfl
 refine⟨_,(ak (az (aw FI (ac (aM T.cl_Same T.no_Same_wish (pvM 0)) (ac (pvM 1) af))))),?_⟩
 obtain⟨dx,fs,h1,l1,_⟩:=Y;cases X with
 | pl W=>cases W <;> cases hC
 | sa c us W =>
  ctx_has v h1 l1
  exact⟨w,f,c,us,W,g,rfl,Z,B,F,k⟩
open L2.Irr
theorem FnR.lift {R:Addr->Prop} (F:FnR P w K mg base R j ps sp) (h:j<=k):FnR P w K mg base R k ps sp:=by
 obtain⟨f,fd,F,r⟩:=F;exact⟨f,fd,F.mono h,r⟩
def CsO (mg:Str->Option Value):List (Addr × Sp):=[(ah mg "Unlike",gU mg "Unlike"),(ah mg "Many",gU mg "Many"),(ah mg "Sum",gU mg "Sum"),(ah mg "Table",gU mg "Table"),(ah mg "Way",gU mg "Way"),(ah mg "Behind",gU mg "Behind"),(ah mg "Same",gU mg "Same")]
def F9 (mg:Str->Option Value):List (Addr × Sp):=[(ah mg "Unlike",dE mg),(ah mg "Many",dM mg),(ah mg "Sum",dN mg),(ah mg "Table",dH mg),(ah mg "Way",dF mg),(ah mg "Behind",dO mg),(ah mg "Same",gF mg)]
def E5 (mg:Str->Option Value):List (Addr × Sp):=[(ah mg "Unlike",cV mg),(ah mg "Many",cT mg),(ah mg "Sum",cW mg),(ah mg "Table",cY mg),(ah mg "Way",cU mg),(ah mg "Behind",cX mg),(ah mg "Same",fJ mg)]
theorem Bw {P:Addr->Sp->Prop} {a1 Y a3 a4 F Z L:Addr} {b1 b2 b3 b4 b5 b6 B:Sp} (h1:P a1 b1) (h2:P Y b2) (h3:P a3 b3) (h4:P a4 b4) (h5:P F b5) (h6:P Z b6) (h7:P L B) : ∀C sp,(C,sp)∈[(a1,b1),(Y,b2),(a3,b3),(a4,b4),(F,b5),(Z,b6),(L,B)]->P C sp:=λC sp h=>by
 simp only[i7,Prod.mk.injEq,n6,or_false] at h;rcases h with⟨rfl,rfl⟩ | ⟨rfl,rfl⟩ | ⟨rfl,rfl⟩ | ⟨rfl,rfl⟩ | ⟨rfl,rfl⟩ | ⟨rfl,rfl⟩ | ⟨rfl,rfl⟩
 .exact h1
 .exact h2
 .exact h3
 .exact h4
 .exact h5
 .exact h6
 .exact h7
theorem CM {X:Wx} {Q:VK} (h:tF mg H p X) (Z:szX X) (F:eo H f (cN X) g) (k : ∀H',au H H'->Q (.bl (dI X g)) H') :
  ∃C sp,(C,sp)∈CsO mg/\∃dx fs,H p=some (.ins C dx fs)/\fs.lookup (b_ "kept")=none/\sp [.ref p,.ref f] H Q E0:=by
 obtain⟨⟨w,⟨dx,fs,h1,Y,B⟩,L⟩,_⟩:=h;exact⟨_,gU mg (eU X),(by cases X with
  | pl W=>cases W <;> simp[CsO,eU,CU]
  | sa c us W=>simp[CsO,eU]),dx,fs,h1,B,p,f,w,X,g,rfl,rfl,⟨dx,fs,h1,Y,B⟩,L,Z,F,k⟩
structure GK (mg:Str->Option Value) (H:Hp) (p r:Addr) (X:Wx) (kvs:List (Key × V)) (rm:Str->List Int):Prop where
 ob:tF mg H p X
 rd:H r<*kvs
 rf:aY H kvs (cN X) rm
 ok:okO X
 ne : ∀c∈cN X,rm c≠[]/\(rm c).length<=4/\(rm c).Pairwise (· < ·)
theorem wK {i r:Addr} {X:Wx} {Q:VK} (M:GK mg H i r X kvs rm) (k : ∀(b:Bool) H',(b=true↔∃g,okF rm (cN X) g/\dI X g=true)->au H H'->Q (.bl b) H') :
  ∃C sp,(C,sp)∈F9 mg/\∃dx fs,H i=some (.ins C dx fs)/\fs.lookup (b_ "may_keep")=none/\sp [.ref i,.ref r] H Q E0:=by
 obtain⟨ob,B,F,ok,ne⟩:=M;cases X with
 | pl W =>
  obtain⟨C,sp,h1,r⟩:=lI (Q:=Q) ⟨ob.2,B,F,ok.1,ok.2,ne⟩ k;exact⟨C,sp,(by simp only[CsK,F9,i7,n6,or_false] at h1 ⊢;rcases h1 with h | h | h | h | h | h <;> simp[h]),r⟩
 | sa c us W =>
  obtain⟨dx,fs,h1,_,h2,L⟩:=yu ob.2;exact⟨_,gF mg,by simp[F9],dx,fs,h1,h2,i,r,(c,us,W),kvs,rm,rfl,⟨ob.2,B,F,ok,ne⟩,k⟩
theorem sh {i r:Addr} {X:Wx} {Q:VK} (M:GK mg H i r X kvs rm) (k : ∀(b:Bool) H',(b=true↔∃g,okF rm (cN X) g/\dI X g=false)->au H H'->Q (.bl b) H') :
  ∃C sp,(C,sp)∈E5 mg/\∃dx fs,H i=some (.ins C dx fs)/\fs.lookup (b_ "may_break")=none/\sp [.ref i,.ref r] H Q E0:=by
 obtain⟨ob,B,F,ok,ne⟩:=M;cases X with
 | pl W =>
  obtain⟨C,sp,h1,r⟩:=kr (Q:=Q) ⟨ob.2,B,F,ok.1,ok.2,ne⟩ k;exact⟨C,sp,(by simp only[CsB,E5,i7,n6,or_false] at h1 ⊢;rcases h1 with h | h | h | h | h | h <;> simp[h]),r⟩
 | sa c us W =>
  obtain⟨dx,fs,h1,_,h2,L⟩:=yu ob.2;exact⟨_,fJ mg,by simp[E5],dx,fs,h1,L,i,r,(c,us,W),kvs,rm,rfl,⟨ob.2,B,F,ok,ne⟩,k⟩
structure jQ (H:Hp) (w r:Addr) (X:Wx) (kvs:List (Key × V)) (rm:Str->List Int):Prop where
 ws:WX H w X
 rd:H r<*kvs
 rf:aY H kvs (cN X) rm
 ok:okO X
 ne : ∀c∈cN X,rm c≠[]/\(rm c).length<=4/\(rm c).Pairwise (· < ·)
theorem jQ.same {H H':Hp} {w r:Addr} {X:Wx} {kvs:List (Key × V)} {rm:Str->List Int} (h:jQ H w r X kvs rm) (s:au H H'):jQ H' w r X kvs rm :=
 ⟨eI h.ws λa xs e=>s _ _ e,s _ _ h.rd,h.rf.same (λa vs e=>s _ _ e),h.ok,h.ne⟩
def Hj:Sp:=λvs H Q _=>∃(w r:Addr) (X:Wx) (kvs:List (Key × V)) (rm:Str->List Int),vs=[.ref w,.ref r]/\jQ H w r X kvs rm/\∀(b:Bool) H',(b=true↔∃g,okF rm (cN X) g/\dI X g=true)->au H H'->Q (.bl b) H'
def GS:Sp:=λvs H Q _=>∃(w r:Addr) (X:Wx) (kvs:List (Key × V)) (rm:Str->List Int),vs=[.ref w,.ref r]/\jQ H w r X kvs rm/\∀(b:Bool) H',(b=true↔∃g,okF rm (cN X) g/\dI X g=false)->au H H'->Q (.bl b) H'
theorem wQ (T:Txt w K mg) (L:FnL K mg "is_kept" nI ["wish","filling"]) (Fd : @Cp P w K mg base) (Y:FnR P w K mg base (aC K (ah mg "Unlike") "kept") 6 ["self","filling"] (gU mg "Unlike")) (aa:FnR P w K mg base (aC K (ah mg "Many") "kept") 6 ["self","filling"] (gU mg "Many")) (ad:FnR P w K mg base (aC K (ah mg "Sum") "kept") 6 ["self","filling"] (gU mg "Sum")) (Z:FnR P w K mg base (aC K (ah mg "Table") "kept") 6 ["self","filling"] (gU mg "Table")) (ag:FnR P w K mg base (aC K (ah mg "Way") "kept") 6 ["self","filling"] (gU mg "Way")) (B:FnR P w K mg base (aC K (ah mg "Behind") "kept") 6 ["self","filling"] (gU mg "Behind")) (ab:FnR P w K mg base (aC K (ah mg "Same") "kept") 6 ["self","filling"] (gU mg "Same")):Fn P w K mg base "is_kept" 12 ["wish","filling"] (GY):=by
 ctx_has z wY <;> obtain⟨w,f,X,g,rfl,hW,ai,F,k⟩:=h
 .rfl
 refine⟨_,(ak (az (fe (Bw ⟨T.cl_Unlike,Y⟩ ⟨T.cl_Many,aa⟩ ⟨T.cl_Sum,ad⟩ ⟨T.cl_Table,Z⟩ ⟨T.cl_Way,ag⟩ ⟨T.cl_Behind,B⟩ ⟨T.cl_Same,ab⟩) (hr.mono (by ctx_has m)) (aw Fd (ac (pvM 0) af)) (ac (pvM 1) af)))),?_⟩
 ctx_has v
 refine⟨w,X,rfl,hW,ai,λp H1 hp ob s1=>⟨p,rfl,?_⟩⟩
 exact CM ob (Cq ai) (F.same s1) λH' s=>k H' (s1.trans s)
abbrev E8:=Fn P w K mg base "may_be_kept" 24 ["wish","rooms"] (Hj)
theorem qc (T:Txt w K mg) (L:FnL K mg "may_be_kept" ig ["wish","rooms"]) (Fd : @Cp P w K mg base) (F:FnR P w K mg base (aC K (ah mg "Unlike") "may_keep") 22 ["self","rooms"] (dE mg)) (Z:FnR P w K mg base (aC K (ah mg "Many") "may_keep") 22 ["self","rooms"] (dM mg)) (ab:FnR P w K mg base (aC K (ah mg "Sum") "may_keep") 22 ["self","rooms"] (dN mg)) (Y:FnR P w K mg base (aC K (ah mg "Table") "may_keep") 22 ["self","rooms"] (dH mg)) (ad:FnR P w K mg base (aC K (ah mg "Way") "may_keep") 22 ["self","rooms"] (dF mg)) (B:FnR P w K mg base (aC K (ah mg "Behind") "may_keep") 22 ["self","rooms"] (dO mg)) (aa:FnR P w K mg base (aC K (ah mg "Same") "may_keep") 23 ["self","rooms"] (gF mg)) : @E8 P w K mg base:=by
 ctx_has z qy <;> obtain⟨w,r,X,kvs,rm,rfl,M,k⟩:=h
 .rfl
 refine⟨_,(ak (az (fe (Bw ⟨T.cl_Unlike,FnR.lift F ∅⟩ ⟨T.cl_Many,FnR.lift Z ∅⟩ ⟨T.cl_Sum,FnR.lift ab ∅⟩ ⟨T.cl_Table,FnR.lift Y ∅⟩ ⟨T.cl_Way,FnR.lift ad ∅⟩ ⟨T.cl_Behind,FnR.lift B ∅⟩ ⟨T.cl_Same,aa⟩) (hr.mono (by ctx_has m)) (aw Fd (ac (pvM 0) af)) (ac (pvM 1) af)))),?_⟩
 ctx_has v
 refine⟨w,X,rfl,M.ws,M.ok,λp H1 hp ob s1=>⟨p,rfl,?_⟩⟩
 have M1:=M.same s1;exact wK ⟨ob,M1.rd,M1.rf,M.ok,M.ne⟩ λb H' hb s=>k b H' hb (s1.trans s)
abbrev GC:=Fn P w K mg base "may_be_broken" 24 ["wish","rooms"] (GS)
theorem nA (T:Txt w K mg) (L:FnL K mg "may_be_broken" fY ["wish","rooms"]) (Fd : @Cp P w K mg base) (F:FnR P w K mg base (aC K (ah mg "Unlike") "may_break") 22 ["self","rooms"] (cV mg)) (Z:FnR P w K mg base (aC K (ah mg "Many") "may_break") 22 ["self","rooms"] (cT mg)) (ab:FnR P w K mg base (aC K (ah mg "Sum") "may_break") 22 ["self","rooms"] (cW mg)) (Y:FnR P w K mg base (aC K (ah mg "Table") "may_break") 22 ["self","rooms"] (cY mg)) (ad:FnR P w K mg base (aC K (ah mg "Way") "may_break") 22 ["self","rooms"] (cU mg)) (B:FnR P w K mg base (aC K (ah mg "Behind") "may_break") 22 ["self","rooms"] (cX mg)) (aa:FnR P w K mg base (aC K (ah mg "Same") "may_break") 23 ["self","rooms"] (fJ mg)) : @GC P w K mg base:=by
 ctx_has z ny <;> obtain⟨w,r,X,kvs,rm,rfl,M,k⟩:=h
 .rfl
 refine⟨_,(ak (az (fe (Bw ⟨T.cl_Unlike,FnR.lift F ∅⟩ ⟨T.cl_Many,FnR.lift Z ∅⟩ ⟨T.cl_Sum,FnR.lift ab ∅⟩ ⟨T.cl_Table,FnR.lift Y ∅⟩ ⟨T.cl_Way,FnR.lift ad ∅⟩ ⟨T.cl_Behind,FnR.lift B ∅⟩ ⟨T.cl_Same,aa⟩) (hr.mono (by ctx_has m)) (aw Fd (ac (pvM 0) af)) (ac (pvM 1) af)))),?_⟩
 ctx_has v
 refine⟨w,X,rfl,M.ws,M.ok,λp H1 hp ob s1=>⟨p,rfl,?_⟩⟩
 have M1:=M.same s1;exact sh ⟨ob,M1.rd,M1.rf,M.ok,M.ne⟩ λb H' hb s=>k b H' hb (s1.trans s)
abbrev yi (mg:Str->Option Value):List Addr:=[ah mg "Unlike",ah mg "Many",ah mg "Sum",ah mg "Table",ah mg "Way",ah mg "Behind",ah mg "Same"]
def IX (mg:Str->Option Value):Sp:=λvs H Q _=>∃(p:Addr) (X:Wx),vs=[.ref p,.str (iw X)]/\HX mg H p X/\∀H',au H H'->Q (.bl true) H'
def cu:List Str:=["unlike","many","sum","table","way","behind","same"]
theorem uP {K:fy} {H:Hp} : ∀bs:List Bool,gT K H (bs.map V.bl) (bs.map Ky)
 | []=>.nil
 | b :: bs=>.cons (.bl b) (uP bs)
theorem Cb : ∀bs:List Bool,Ja (bs.map Ky) (bs.map Ky)=true
 | []=>rfl
 | b :: bs=>by rw[i_,Ja,Cb bs];cases b <;> rfl
theorem zS (nd:(yi mg).Nodup) (X:Wx):(yi mg).map (λD=>decide (ah mg (eU X)=D))=cu.map (λs=>decide (s=iw X)):=by
 simp only[yi,m7,i7,n6,or_false,not_or] at nd;obtain⟨⟨a1,Z,a3,a4,L,a6⟩,⟨b1,b2,b3,b4,b5⟩,⟨F,c2,Y,c4⟩,⟨d1,d2,B⟩,⟨e1,e2⟩,f1,_⟩:=nd;cases X with
 | sa c us W=>simp only[yi,cu,eU,iw,i_,map_nil,k_ a6,k_ b5,k_ c4,k_ B,k_ e2,k_ f1,dB,String.reduceEq,decide_true,decide_false]
 | pl W=>cases W <;> simp only[yi,cu,eU,iw,CU,jT,i_,map_nil,a1,Z,a3,a4,L,a6,b1,b2,b3,b4,b5,F,c2,Y,c4,d1,d2,B,e1,e2,f1,k_ a1,k_ Z,k_ a3,k_ a4,k_ L,k_ b1,k_ b2,k_ b3,k_ b4,k_ F,k_ c2,k_ Y,k_ d1,k_ d2,k_ e1,dB,String.reduceEq,decide_true,decide_false]
theorem fL (hK:X.K=K):bK X (.builtin "isinstance") (E2 K):=by
 subst hK;exact A3
theorem C8 (X:Wx):ah mg (eU X)∈yi mg:=by
 cases X with
 | pl W=>cases W <;> simp[eU,CU]
 | sa c us W=>simp[eU]
abbrev G6:=Fn P w K mg base "_law_sort_right" 1 ["_law_thing","_law_sort"] (IX mg)
theorem lc (T:Txt w K mg) (L:FnL K mg "_law_sort_right" dw ["_law_thing","_law_sort"]) : @G6 P w K mg base:=by
 ctx_has z kU <;> obtain⟨p,X,rfl,hX,k⟩:=h
 .rfl
 refine⟨_,(ai (aF 2 (cA (ac (aD (fL (K:=K) rfl) T.b_isinstance (ac (pvM 0) (ac (gl (v:=.ref (ah mg "Unlike")) rfl T.at_Unlike rfl) af))) (ac (aD (fL (K:=K) rfl) T.b_isinstance (ac (pvM 0) (ac (gl (v:=.ref (ah mg "Many")) rfl T.at_Many rfl) af))) (ac (aD (fL (K:=K) rfl) T.b_isinstance (ac (pvM 0) (ac (gl (v:=.ref (ah mg "Sum")) rfl T.at_Sum rfl) af))) (ac (aD (fL (K:=K) rfl) T.b_isinstance (ac (pvM 0) (ac (gl (v:=.ref (ah mg "Table")) rfl T.at_Table rfl) af))) af))))))
  (ai (aF 2 (aQ zm (pvM 2) (cA (ac (aD (fL (K:=K) rfl) T.b_isinstance (ac (pvM 0) (ac (gl (v:=.ref (ah mg "Way")) rfl T.at_Way rfl) af))) (ac (aD (fL (K:=K) rfl) T.b_isinstance (ac (pvM 0) (ac (gl (v:=.ref (ah mg "Behind")) rfl T.at_Behind rfl) af))) (ac (aD (fL (K:=K) rfl) T.b_isinstance (ac (pvM 0) (ac (gl (v:=.ref (ah mg "Same")) rfl T.at_Same rfl) af))) af))))))
  (ai (dP 3 (N:=["_law_one","_law_sort"]) (nt:=1) (js:=[1]) (aI ["_law_thing","_law_sort","_law_truths","_law_due"] (aj dw).names) (gG K (cA (ac aJ (ac aJ (ac aJ (ac aJ (ac aJ (ac aJ (ac aJ af))))))))) (aA 0) aP bx (aU bY (pvM 0) (pvM 1)))
  (ak (az (im (aU (pR (wr hr)) (pvM 2) (pvM 3)) (cO (aD (fL (K:=K) rfl) T.b_isinstance (ac (pvM 0) (ac (gl (v:=.ref (ah mg "Wish")) rfl T.at_Wish rfl) af)))))))))),?_⟩
 obtain⟨w,⟨dx,fs,h1,l1,l2⟩,hw⟩:=hX;have io:=T.insA;have hC:=C8 (mg:=mg) X;have ab:=zS io.nd X;have B : ∀(D:Addr) (H':Hp) (Q':VK),D∈yi mg->au H H'->Q' (.bl (decide (ah mg (eU X)=D))) H'->E2 K [.ref p,.ref D] H' Q':=λD H' Q' hD s q=>⟨p,D,rfl,_,dx,fs,_,_,s _ _ h1,io,hC,.inl ⟨hD,q⟩⟩
 ctx_has v
 refine B _ _ _ (by simp) (λa o e=>e) ?_
 refine B _ _ _ (by simp) (λa o e=>e) ?_
 refine B _ _ _ (by simp) (λa o e=>e) ?_
 refine B _ _ _ (by simp) (λa o e=>e) ⟨∅,λq1 am=>?_⟩
 have s1:=au.upd0 (o:=.lst [.bl (decide (ah mg (eU X)=ah mg "Unlike")),.bl (decide (ah mg (eU X)=ah mg "Many")),.bl (decide (ah mg (eU X)=ah mg "Sum")),.bl (decide (ah mg (eU X)=ah mg "Table"))]) am;refine B _ _ _ (by simp) s1 ?_
 refine B _ _ _ (by simp) s1 ?_
 refine B _ _ _ (by simp) s1 ⟨∅,λq2 Y=>?_⟩
 have F:[decide (ah mg (eU X)=ah mg "Unlike"),decide (ah mg (eU X)=ah mg "Many"),decide (ah mg (eU X)=ah mg "Sum"),decide (ah mg (eU X)=ah mg "Table"),decide (ah mg (eU X)=ah mg "Way"),decide (ah mg (eU X)=ah mg "Behind"),decide (ah mg (eU X)=ah mg "Same")]=cu.map (λs=>decide (s=iw X)):=ab
 clear ab;generalize decide (ah mg (eU X)=ah mg "Unlike")=b1 at F s1 Y ⊢;generalize decide (ah mg (eU X)=ah mg "Many")=b2 at F s1 Y ⊢;generalize decide (ah mg (eU X)=ah mg "Sum")=b3 at F s1 Y ⊢;generalize decide (ah mg (eU X)=ah mg "Table")=b4 at F s1 Y ⊢;generalize decide (ah mg (eU X)=ah mg "Way")=b5 at F s1 Y ⊢;generalize decide (ah mg (eU X)=ah mg "Behind")=b6 at F s1 Y ⊢;generalize decide (ah mg (eU X)=ah mg "Same")=Z at F s1 Y ⊢;have s2:=s1.upd_new (o:=.lst [.bl b5,.bl b6,.bl Z]) Y;refine⟨_,(au.upd0 Y) _ _ ae,_,ae,(by show 7<=hB;decide),λq3 an=>⟨∅,λq4 aa=>?_⟩⟩
 have s3:=s2.upd_new (o:=.lst [.bl b1,.bl b2,.bl b3,.bl b4,.bl b5,.bl b6,.bl Z]) an;have s4:=s3.upd_new (o:=.lst (cu.map V.str)) aa;have g3:upd (upd (upd (upd H q1 (.lst [.bl b1,.bl b2,.bl b3,.bl b4])) q2 (.lst [.bl b5,.bl b6,.bl Z])) q3 (.lst [.bl b1,.bl b2,.bl b3,.bl b4,.bl b5,.bl b6,.bl Z])) q4 (.lst (cu.map V.str)) q3*>(([b1,b2,b3,b4,b5,b6,Z]).map V.bl):=(au.upd0 (o:=.lst (cu.map V.str)) aa) q3 _ ae
 have g4:upd (upd (upd (upd H q1 (.lst [.bl b1,.bl b2,.bl b3,.bl b4])) q2 (.lst [.bl b5,.bl b6,.bl Z])) q3 (.lst [.bl b1,.bl b2,.bl b3,.bl b4,.bl b5,.bl b6,.bl Z])) q4 (.lst (cu.map V.str)) q4*>(cu.map V.str):=ae
 refine⟨cu.map V.str,g4,?_⟩
 change ∀D,upd (upd (upd (upd H q1 (.lst [.bl b1,.bl b2,.bl b3,.bl b4])) q2 (.lst [.bl b5,.bl b6,.bl Z])) q3 (.lst [.bl b1,.bl b2,.bl b3,.bl b4,.bl b5,.bl b6,.bl Z])) q4 (.lst (cu.map V.str)) D=none->mt (Itl K q4) _ _ _ _ _ (upd (upd (upd (upd H q1 (.lst [.bl b1,.bl b2,.bl b3,.bl b4])) q2 (.lst [.bl b5,.bl b6,.bl Z])) q3 (.lst [.bl b1,.bl b2,.bl b3,.bl b4,.bl b5,.bl b6,.bl Z])) q4 (.lst (cu.map V.str))) D;rw[F] at g3;generalize upd (upd (upd (upd H q1 (.lst [.bl b1,.bl b2,.bl b3,.bl b4])) q2 (.lst [.bl b5,.bl b6,.bl Z])) q3 (.lst [.bl b1,.bl b2,.bl b3,.bl b4,.bl b5,.bl b6,.bl Z])) q4 (.lst (cu.map V.str))=H4 at s4 g3 g4 ⊢;clear s1 s2 s3 am Y an aa F;refine λD hD=>dG cm (λj ys H'=>ys=(cu.take j).map (λs=>V.bl (decide (s=iw X)))/\au H4 H'/\H' D*>ys) ⟨rfl,au.upd0 hD,ae⟩ (λj ys H' ad=>by obtain⟨_,s,_⟩:=ad;exact(.of (s _ _ g4))) ?_ ?_
 .rintro j x ys H5 hj hx ⟨rfl,s5,h5⟩
  obtain⟨c,hc,rfl⟩ : ∃c,cu[j]? = some c/\V.str c=x:=by
   rw[fx] at hx;cases e:cu[j]? with
   | none=>rw[e] at hx;cases hx
   | some u=>rw[e] at hx;exact⟨u,rfl,ge hx⟩
  ctx_has v
  refine⟨h5,?_,by rw[ki,hc];simp,λb o e=>(by rw[ag (ap e hD)];exact s5 _ _ e),ae⟩
  rw[d_];exact aK (i8 (G4 _ _) ∅)
 .rintro ys H5 ⟨rfl,s5,h5⟩
  rw[d_,m_] at h5;have e5:(cu.map λs=>V.bl (decide (s=iw X)))=(cu.map λs=>decide (s=iw X)).map V.bl:=by rw[m6];rfl
  rw[e5] at h5;refine⟨.list ((cu.map λs=>decide (s=iw X)).map Ky),.list ((cu.map λs=>decide (s=iw X)).map Ky),.lst (.of (s5 _ _ g3)) (uP _),.lst (.of h5) (uP _),rfl,rfl,by simp[KH,Jj,cu],true,?_,?_⟩
  .rw[show z_ (.list ((cu.map λs=>decide (s=iw X)).map Ky)) (.list ((cu.map λs=>decide (s=iw X)).map Ky))=true from Cb _]
  .rw[if_pos rfl]
   exact⟨p,_,rfl,_,dx,fs,_,_,(s4.trans s5) _ _ h1,io,hC,.inr ⟨rfl,k _ (s4.trans s5)⟩⟩
theorem Go {w:Addr} {X:Wx} {Q:VK} (L:WX H w X) (B:szX X) (F:eo H f (cN X) g) (k : ∀H',au H H'->Q (.bl (dI X g)) H'):ml [.ref w,.ref f] H Q E0\/uh [.ref w,.ref f] H Q E0:=by
 cases X with
 | pl W=>exact .inl ⟨w,f,W,g,rfl,L,B,F,k⟩
 | sa c us W=>exact .inr ⟨w,f,c,us,W,g,rfl,L,B,F,k⟩
theorem AW {X:Wx} {B:Bool} (sub : ∀c∈cN X,c∈ws) (ne : ∀c∈ws,rm c≠[]):(∃g,okF rm (cN X) g/\dI X g=B)↔∃g,okF rm ws g/\dI X g=B:=by
 constructor
 .rintro⟨g,h1,h2⟩
  obtain⟨g',F,L⟩:=vO h1 ne;exact⟨g',F,by rw[oM L];exact h2⟩
 .rintro⟨g,h1,h2⟩
  exact⟨g,λc Y=>h1 c (sub c Y),h2⟩
structure FV (H:Hp) (w a r:Addr) (X:Wx) (ws:List Str) (kvs:List (Key × V)) (rm:Str->List Int):Prop where
 W:WX H w X
 rd:H r<*kvs
 rf:aY H kvs ws rm
 ok:okO X
 gd : ∀c∈ws,rm c≠[]/\(rm c).length<=4/\(rm c).Pairwise (· < ·)
 ha:H a*>(ws.map V.str)
 nd:ws.Nodup
 wl:ws.length<=5
 sub : ∀c∈cN X,c∈ws
 pl : ∀x∈kvs,eP x.2=true
 bd : ∀c∈ws,∀v∈rm c,-2000000<=v/\v<=2000000
def qH:Sp:=λvs H Q _=>∃(w a r:Addr) (X:Wx) (ws:List Str) (kvs:List (Key × V)) (rm:Str->List Int),vs=[.ref w,.ref a,.ref r]/\FV H w a r X ws kvs rm/\∀H',au H H'->Q (.bl true) H'
theorem qZ (T:Txt w K mg) (L:FnL K mg "_law_truth" je ["_law_found","_law_due"]):Fn P w K mg base "_law_truth" 1 ["_law_found","_law_due"] (yq):=by
 ctx_has z rT <;> obtain⟨b,c,rfl,k⟩:=h
 .rfl
 refine⟨_,(ak (az (im (aD BM T.b_isinstance (ac (pvM 0) (ac (GM (T := "bool") rfl T.b_bool (by decide+kernel)) af))) (cO (aU bY (pvM 0) (pvM 1)))))),?_⟩
 ctx_has v
 cases b <;> cases c <;> exact k
abbrev GJ:=Fn P w K mg base "_law_right" 30 ["_law_wish_here","_law_names_here","_law_rooms_here"] (qH)
theorem rg (T:Txt w K mg) (L:FnL K mg "_law_right" jg ["_law_wish_here","_law_names_here","_law_rooms_here"]) (Fq : @GN P w K mg base) (Fr : @F7 P w K mg base) (FF : @HR P w K mg base) (Fj:Fn P w K mg base "_law_truth" 1 ["_law_found","_law_due"] (yq)) (FK:Fn P w K mg base "is_kept" 12 ["wish","filling"] (GY)) (Fh : @E8 P w K mg base) (Fg : @GC P w K mg base) : @GJ P w K mg base:=by
 ctx_has z rA <;> obtain⟨w,a,r,X,ws,kvs,rm,rfl,M,k⟩:=h
 .rfl
 refine⟨_,(ai (aF 3 (cA af))
  (ai (bq (gG K (aw Fq (ac (pvM 1) (ac (pvM 2) af)))) (aA 4) (ai (aF 5 (zL Fr FF (ac (pvM 0) (ac (pvM 4) af))))
  (ai (aF 6 (be kL T.b_dict (ac (pvM 4) af)))
  (ai (bF (PW.pt (rW (nk (fU (aw Fj (ac (aw FK (ac (pvM 0) (ac (pvM 6) af))) (ac (pvM 5) af))))) (nJ (aO (Dx (Nat.lt_of_succ_lt hu)) (pvM 6) (pvM 4))))) (ak (az cR)) aR)
  (ak (cJ (kF t4 t5 dW (pvM 3) (ac (pvM 5) af))))))))
  (ai (aF 6 (be kL T.b_dict (ac (pvM 2) af)))
  (ai (bF (nk (fU (aw Fj (ac (aw Fh (ac (pvM 0) (ac (pvM 6) af))) (ac (aU tN cR (pvM 3)) af))))) (ak (az cR)) aR)
  (ak (az (im (aw Fj (ac (aw Fg (ac (pvM 0) (ac (pvM 6) af))) (ac (aU tN cR (pvM 3)) af))) (cO (aU (Ef (Nat.lt_of_succ_lt hu)) (pvM 6) (pvM 2)))))))))),?_⟩
 ctx_has v
 refine⟨∅,λkh ad=>?_⟩
 have s0:au H (upd H kh (.lst [])):=au.upd0 ad
 refine⟨a,r,ws,kvs,rm,rfl,s0 _ _ M.ha,s0 _ _ M.rd,M.rf.same (λa vs e=>s0 _ _ e),M.nd,M.wl,λc B=>(M.gd c B).2.1,λp xs H1 fp h1 fa aH an=>?_⟩
 have Z:=s0.trans an;have a3:=an _ _ (show upd H kh (.lst []) kh*>[] from ae)
 ctx_has v h1
 have pk:p≠kh:=λe=>by rw[e,ae] at fp;cases fp
 refine bX cm (λj σ H2=>∃(bs:List Bool) (v5 v6 v7:Option V),σ=[-w,-a,-r,-kh,v5,v6,v7]/\bs.length=j/\(∀b∈bs,∃g,okF rm ws g/\dI X g=b)/\(∀j',j' < j->∀z,xs[j']? = some z->∀g,cD H1 z ws g->dI X g∈bs)/\H2 kh*>(bs.map V.bl)/\(∀b o,b≠kh->H1 b=some o->H2 b=some o))
  ⟨[],_,_,_,rfl,rfl,by simp,by simp,a3,λb o _ e=>e⟩ (λj σ H' ay=>by obtain⟨_,_,_,_,_,_,_,_,_,sm⟩:=ay;exact(.of (sm _ _ pk h1))) ?_ ?_
 .rintro j x σ H2 hj hx ⟨bs,v5,v6,v7,rfl,hbl,hso,hco,h2,sm2⟩
  obtain⟨g0,aq,ah⟩:=fa.sound x (g7 hx);obtain⟨ax,kx,rfl,a7,aD,a4⟩:=id ah;have aB:=a4.2;have dk : ∀b kv,H1 b<*kv->H2 b<*kv:=λb kv e=>sm2 _ _ (aX e a3 (by intro z;cases z)) e
  have a9 : ∀b vs,H b>>vs->H2 b>>vs:=λb vs e=>sm2 _ _ (ap e ad) (Z _ _ e)
  have a0:=dk _ _ a7;have aC:=ah.keep dk;ctx_has v
  have a6 : ∀c∈cN X,-2000000<=g0 c/\g0 c<=2000000:=λc B=>M.bd c (M.sub c B) _ (aq c (M.sub c B))
  have ao:ws.length<=40:=i8 M.wl ∅
  have W2:=eI M.W a9;refine Go W2 (Cq M.ok) (yS aC M.sub ao a6) λH3 s3=>?_
  have aa:=s3 _ _ a0;ctx_has v aa
  intro q hq;have Y:au H3 (upd H3 q (.dK kx)):=au.upd0 hq
  refine⟨w,q,X,g0,rfl,eI W2 λa xs e=>Y _ _ (s3 _ _ e),M.ok,yS ⟨q,kx,rfl,ae,aD,a4⟩ M.sub ao a6,λH5 s5=>?_⟩
  refine⟨_,_,rfl,?_⟩
  ctx_has v decide_true Jb h9
  refine⟨kx,s5 _ _ (show upd H3 q (.dK kx) q<*kx from ae),s5 _ _ (Y _ _ aa),aB,?_⟩
  have aj:=s5 _ _ (Y _ _ (s3 _ _ h2));ctx_has v aj
  refine⟨rb (show(bs.map V.bl).length<=2000 by simp;omega) ∅,bs++[dI X g0],by simp;omega,λb hb=>?_,λj' a2 z hz g hg=>?_,by rw[ae];simp,λb o hb e=>?_⟩
  .rcases j9.mp hb with z | z
   .exact hso b z
   .rw[gr.mp z];exact⟨g0,aq,rfl⟩
  .by_cases ej:j'=j
   .subst ej
    rw[hx] at hz;cases hz;rw[oM (λc B=>xp hg ah c (M.sub c B))]
    simp
   .exact k9 _ (hco j' () z hz g hg)
  .rw[ag hb];exact s5 _ _ (Y _ _ (s3 _ _ (sm2 _ _ hb e)))
 .rintro σ H2 ⟨bs,v5,v6,v7,rfl,hbl,hso,hco,h2,sm2⟩
  have hC : ∀g,okF rm ws g->dI X g∈bs:=λg hg=>by
   obtain⟨x,hx,hf⟩:=fa.comp g hg;obtain⟨j',a2,e'⟩:=v9 hx;exact hco j' a2 x (by rw[<- e'];simp) g hf
  have a8 : ∀c∈ws,rm c≠[]:=λc B=>(M.gd c B).1
  have eT : ∀b0 b:Bool,(b=true↔∃g,okF rm (cN X) g/\dI X g=b0)->decide (b0∈bs)=b:=λb0 b hb=>by
   rw[n9,decide_eq_true_eq,hb,AW M.sub a8]
   constructor
   .intro h;obtain⟨g,h1,h2⟩:=hso _ h;exact⟨g,h1,h2⟩
   .rintro⟨g,h1,h2⟩;rw[<- h2];exact hC g h1
  have a1:au H H2:=λb o e=>sm2 _ _ (ap e ad) (Z _ _ e)
  have a5:=a1 _ _ M.rd;ctx_has v a5
  intro q hq;have s3:au H2 (upd H2 q (.dK kvs)):=au.upd0 hq
  have am:=a1.trans s3;have M3:jQ (upd H2 q (.dK kvs)) w q X kvs rm:=⟨eI M.W λa xs e=>am _ _ e,ae,λc B=>(M.rf.same (λa vs e=>am _ _ e)) c (M.sub c B),M.ok,λc B=>M.gd c (M.sub c B)⟩
  refine⟨w,q,X,kvs,rm,rfl,M3,λb1 H4 aE Y=>?_⟩
  have ar:=Y _ _ (s3 _ _ h2);ctx_has v ar
  refine⟨rfl,vF _,?_⟩
  rw[yD,eT true b1 aE];refine⟨b1,b1,rfl,?_⟩
  ctx_has v decide_true Jb h9
  refine⟨w,q,X,kvs,rm,rfl,M3.same Y,λb2 H5 aG s5=>?_⟩
  have aj:=s5 _ _ ar;ctx_has v aj
  refine⟨rfl,vF _,?_⟩
  rw[yD,eT false b2 aG];refine⟨b2,b2,rfl,?_⟩
  ctx_has v decide_true Jb h9
  have ab:=Y.trans s5;exact⟨kvs,ab _ _ (show upd H2 q (.dK kvs) q<*kvs from ae),ab _ _ (s3 _ _ a5),M.pl,k _ (am.trans ab)⟩
def HJ (t u:TS):TS:=λD σ H=>∃R:St->Hp->Prop,t { D with nx:=R } σ H/\∀ σ H,R σ H->u D σ H
theorem Di {t u:TS} (h1:PS X st t) (h2:PSs X rest u):PSs X (st :: rest) (HJ t u):=by
 unfold PS at h1;unfold PSs at h2 ⊢;intro pins s σ H D I h;obtain⟨R,h,F⟩:=h;refine wpAny_execs_cons (thn (h1 pins s σ H { D with nx:=R } I h) λf B q=>?_)
 cases f with
 | next =>
  obtain⟨σ',H',L,q⟩:=q;exact h2 pins B σ' H' D L (F _ _ q)
 | ret v=>exact q
 | brk=>exact q
 | cont=>exact q
theorem CD {a b c d rest:TS} (h : ∀R:TS,R=rest->jo a (jo b (jo c (jo d R))) D σ H):jo a (jo b (jo c (jo d rest))) D σ H:=h rest rfl
theorem EY {a b:TS} (R:St->Hp->Prop) (h1:a { D with nx:=R } σ H) (h2 : ∀ σ H,R σ H->b D σ H):HJ a b D σ H:=⟨R,h1,h2⟩
theorem uA {α:Type} : ∀{l m:List α},l.Nodup->(∀x∈l,x∈m)->l.length<=m.length
 | [],m,_,_=>y6 _
 | x :: l,m,hn,h=>by
  rw[m7] at hn;obtain⟨s,t,rfl⟩:=List.append_of_mem (h x m8);have:=uA (m:=s++t) hn.2 λy B=>by
   rcases j9.mp (h y (k6 _ B)) with z | z
   .exact k9 _ z
   .rcases i7.mp z with z | z
    .subst z;exact absurd B hn.1
    .exact p9 _ z
  simp at this ⊢
  omega
def yK (K:fy):Sp:=λvs H Q _=>∃(a:Addr) (ns:List Int),vs=[.ref a]/\SqL K H a (ns.map V.int)/\ns.length<=63/\∀H',Q (.bl true) H'
theorem wx {c:Str} : ∀{as:List (Addr × Str × Addr)},c∉as.map (·.2.1)->bJ (dY as) (i9 c)=none
 | [],_=>rfl
 | x :: as,h=>by
  have h1:x.2.1≠c:=λe=>h (by rw[i_,e];exact m8)
  have h2:c∉as.map (·.2.1):=λe=>h (by rw[i_];exact k6 _ e)
  unfold dY;rw[i_,aW (λe=>h1 (Sum.inr.inj e))]
  exact wx h2
theorem Ds {x:Addr × Str × Addr} (L:(as.map (·.2.1)).Nodup) (Y:as[i]? = some x):bv (dY (as.take i)) (i9 x.2.1) (.ref x.2.2)=dY (as.take (i+1)):=by
 have F:as.take (i+1)=as.take i++[x]:=by rw[ki,Y];rfl
 have B:((as.take i++[x]).map (·.2.1)).Nodup:=by
  rw[<- F,map_take];exact L.sublist (Jy _ _)
 rw[t6,t_] at B;rw[fh _ (wx λh=>B.2.2 _ h _ (by simp) rfl),F]
 unfold dY;rw[t6];rfl
theorem EX (F:(as.map (·.2.1)).Nodup) {x:Addr × Str × Addr} (B:x∈as):bJ (dY as) (i9 x.2.1)=some (.ref x.2.2):=by
 induction as with
 | nil=>cases B
 | cons y as L =>
  rw[i_,m7] at F;unfold dY;rw[i_];rcases i7.mp B with rfl | B
  .exact bu rfl
  .rw[aW (λe=>F.1 (by rw[show y.2.1=x.2.1 from Sum.inr.inj e];exact i4.mpr ⟨x,B,rfl⟩))]
   exact L F.2 B
theorem gf.putD {q c t:Addr} {us:List V} {Ws:List Wx} (h:gf H p c t vs us as rm Ws) (L:H q<*kvs):gf (upd H q o) p c t vs us as rm Ws:=by
 have B : ∀b u,(∀kvs,u≠.dK kvs)->H b=some u->upd H q o b=some u:=λb u F e=>by rw[ag (aX e L (F _))];exact e
 exact⟨B _ _ (by intro _ z;cases z) h.hp,h.hc.keep λo u e=>B _ _ (by intro _ z;cases z) e,h.ca.keep λb xs e=>B _ _ (by intro _ z;cases z) e,B _ _ (by intro _ z;cases z) h.ht,h.wa.keep λb xs e=>B _ _ (by intro _ z;cases z) e⟩
theorem DP (hp:ms.Perm ns) (L:ms.Pairwise (·<=·)) (Y:ns.Nodup):ms.Pairwise (· < ·):=by
 have F:ms.Nodup:=hp.nodup_iff.mpr Y
 exact(L.and F).imp λB=>by obtain⟨h1,h2⟩:=B;exact()
theorem zZ (as:List (Addr × Str × Addr)) : ∀x∈dY as,eP x.2=true:=λx B=>by
 obtain⟨y,_,rfl⟩:=i4.mp B;rfl
theorem vo {W:Wi} (h:okW ws ns W):(bN W).Nodup/\∀x∈bN W,x∈ws:=by
 cases W with
 | un cs=>exact⟨h.2.1,h.2.2.1⟩
 | mn av cs lo hi=>exact⟨h.1.2.1,h.1.2.2.1⟩
 | sm ts lo hi=>exact⟨h.1.2.1,h.1.2.2.1⟩
 | tb cs rows=>exact⟨h.1.2.1,h.1.2.2.1⟩
 | wy cs ps es=>exact⟨h.1.2.1,h.1.2.2.1⟩
 | bh cs gap=>exact⟨h.2.1,h.2.2.1⟩
theorem Gc {X:Wx} (h:okX ws ns X) (hl:ws.length<=5):okO X:=by
 cases X with
 | pl W =>
  obtain⟨B,F⟩:=vo h;exact⟨⟨_,_,h⟩,i8 (uA B F) hl⟩
 | sa c us W =>
  obtain⟨B,F⟩:=vo h.2.2.1;exact⟨⟨_,_,h.2.2.1⟩,i8 (uA B F) hl,h.2.1.2.2,h.2.2.2⟩
theorem DU {w:Addr} {X:Wx} (h:WX H w X) : ∃vs,H w>>(.str (iw X) :: vs):=by
 cases X with
 | sa c us W=>obtain⟨t,u,h1,_⟩:=h;exact⟨_,h1⟩
 | pl W =>
  cases W with
  | un cs=>obtain⟨c,h1,_⟩:=h;exact⟨_,h1⟩
  | mn av cs lo hi=>obtain⟨B,c,h1,_⟩:=h;exact⟨_,h1⟩
  | sm ts lo hi=>obtain⟨t,h1,_⟩:=h;exact⟨_,h1⟩
  | tb cs rows=>obtain⟨c,t,vs,h1,_⟩:=h;exact⟨_,h1⟩
  | wy cs ps es=>obtain⟨c,t,e,vs,h1,_⟩:=h;exact⟨_,h1⟩
  | bh cs gap=>obtain⟨c,h1,_⟩:=h;exact⟨_,h1⟩
structure Ax (H:Hp) (na ra le t:Addr) (ws:List Str) (kvs kv:List (Key × V)) (rm rl:Str->List Int) (bs:List (Addr × Wx)):Prop where
 hna:H na*>(ws.map V.str)
 hra:H ra<*kvs
 hle:H le<*kv
 fr:aY H kvs ws rm
 fl:aY H kv ws rl
 ht:H t>>(bs.map λx=>V.ref x.1)
 hb : ∀x∈bs,WX H x.1 x.2
theorem Ax.same {H H':Hp} {na ra le t:Addr} {ws:List Str} {kvs kv:List (Key × V)} {rm rl:Str->List Int} {bs:List (Addr × Wx)} (h:Ax H na ra le t ws kvs kv rm rl bs) (s:au H H'):Ax H' na ra le t ws kvs kv rm rl bs :=
 ⟨s _ _ h.hna,s _ _ h.hra,s _ _ h.hle,h.fr.same (λa vs e=>s _ _ e),h.fl.same (λa vs e=>s _ _ e),s _ _ h.ht,λx B=>eI (h.hb x B) λa xs e=>s _ _ e⟩
structure DV (ws:List Str) (kvs:List (Key × V)) (rm:Str->List Int):Prop where
 gd : ∀c∈ws,rm c≠[]/\(rm c).length<=4/\(rm c).Pairwise (· < ·)
 pl : ∀x∈kvs,eP x.2=true
 bd : ∀c∈ws,∀v∈rm c,-2000000<=v/\v<=2000000
structure F20 (ws:List Str) (kvs kv:List (Key × V)) (rm rl:Str->List Int) (bs:List (Addr × Wx)):Prop where
 nd:ws.Nodup
 wl:ws.length<=5
 rr:DV ws kvs rm
 ll:DV ws kv rl
 ok : ∀x∈bs,okO x.2/\∀c∈cN x.2,c∈ws
 bl:bs.length<=40
theorem yG {t:Addr} {bs:List (Addr × Wx)} {x:Addr × Wx} {Q:VK} (h:Ax H na ra le t ws kvs kv rm rl bs) (f:F20 ws kvs kv rm rl bs) (B:x∈bs) (k : ∀H',au H H'->Q (.bl true) H'):qH [.ref x.1,.ref na,.ref ra] H Q E0/\qH [.ref x.1,.ref na,.ref le] H Q E0 :=
 ⟨⟨x.1,na,ra,x.2,ws,kvs,rm,rfl,⟨h.hb x B,h.hra,h.fr,(f.ok x B).1,f.rr.gd,h.hna,f.nd,f.wl,(f.ok x B).2,f.rr.pl,f.rr.bd⟩,k⟩,⟨x.1,na,le,x.2,ws,kv,rl,rfl,⟨h.hb x B,h.hle,h.fl,(f.ok x B).1,f.ll.gd,h.hna,f.nd,f.wl,(f.ok x B).2,f.ll.pl,f.ll.bd⟩,k⟩⟩
theorem EG {t:Addr} {bs:List (Addr × Wx)} {x:Addr × Wx} (h:Ax H na ra le t ws kvs kv rm rl bs) (f:F20 ws kvs kv rm rl bs) (B:x∈bs):jQ H x.1 ra x.2 kvs rm/\jQ H x.1 le x.2 kv rl :=
 ⟨⟨h.hb x B,h.hra,λc F=>h.fr c ((f.ok x B).2 c F),(f.ok x B).1,λc F=>f.rr.gd c ((f.ok x B).2 c F)⟩,⟨h.hb x B,h.hle,λc F=>h.fl c ((f.ok x B).2 c F),(f.ok x B).1,λc F=>f.ll.gd c ((f.ok x B).2 c F)⟩⟩
abbrev nz3:List Str:=["_law_script","_law_deal_here","_law_cells","_law_wishes","_law_names_here","_law_rooms_here","_law_less","_law_name","_law_room","_law_things","_law_wish_here","_law_thing"]
theorem Gi (T:Txt w K mg) (L:Fun K "law" "law" oO f fd) (FH : @Dz1 P w K mg base) (Fe : @Dz4 P w K mg base) (FG : @Hw P w K mg base) (Fd : @Cp P w K mg base) (Fk : @G6 P w K mg base) (Ft : @GJ P w K mg base) (Fh : @E8 P w K mg base) (Fg : @GC P w K mg base) (Z:FnR P w K mg base (aC K (ah mg "Unlike") "may_keep") 22 ["self","rooms"] (dE mg)) (ax:FnR P w K mg base (aC K (ah mg "Many") "may_keep") 22 ["self","rooms"] (dM mg)) (a2:FnR P w K mg base (aC K (ah mg "Sum") "may_keep") 22 ["self","rooms"] (dN mg)) (am:FnR P w K mg base (aC K (ah mg "Table") "may_keep") 22 ["self","rooms"] (dH mg)) (a1:FnR P w K mg base (aC K (ah mg "Way") "may_keep") 22 ["self","rooms"] (dF mg)) (ab:FnR P w K mg base (aC K (ah mg "Behind") "may_keep") 22 ["self","rooms"] (dO mg)) (ar:FnR P w K mg base (aC K (ah mg "Same") "may_keep") 23 ["self","rooms"] (gF mg)) (Y:FnR P w K mg base (aC K (ah mg "Unlike") "may_break") 22 ["self","rooms"] (cV mg)) (aq:FnR P w K mg base (aC K (ah mg "Many") "may_break") 22 ["self","rooms"] (cT mg)) (ay:FnR P w K mg base (aC K (ah mg "Sum") "may_break") 22 ["self","rooms"] (cW mg)) (aa:FnR P w K mg base (aC K (ah mg "Table") "may_break") 22 ["self","rooms"] (cY mg)) (a0:FnR P w K mg base (aC K (ah mg "Way") "may_break") 22 ["self","rooms"] (cU mg)) (F:FnR P w K mg base (aC K (ah mg "Behind") "may_break") 22 ["self","rooms"] (cX mg)) (an:FnR P w K mg base (aC K (ah mg "Same") "may_break") 23 ["self","rooms"] (fJ mg)):ji P w K mg base CX0 45 f fd ["_law_script"] (yK K):=by
 have nd:=B9.nd;refine L.ok B9 (λvs H Q E h=>?_) (λcdv A outer s H vs Q E hr h=>?_) <;> obtain⟨a,ns,rfl,hS,bG,k⟩:=h
 .rfl
 have hu:=Eu hr;refine⟨_,(ai (aF 1 (aw FH (ac (pvM 0) (ac ao af))))
  (ai (Cy (aw FG (ac (pvM 1) (ac ao (ac ao (ac ao af))))) (gu (n:=2) rfl (bO (aA 2) (bO (aA 3) gp))))
  (ai (dP 4 (N:=["_law_cell"]) (nt:=1) (js:=[]) (aI nz3 (aj oO).names) (GP (K:=K) rfl (pvM 2)) (aA 0) aP bx (aE ba (pvM 0) ao))
  (ai (aF 5 ff)
  (ai (aF 6 ff)
  (Di (bq (GP (K:=K) rfl (pvM 2)) (gu (n:=2) rfl (bO (aA 7) (bO (aA 8) gp))) (ai (ia hu (pvM 5) (pvM 7) (pvM 8) rfl)
  (ak (ia hu (pvM 6) (pvM 7) (be cS T.b_tuple (ac (aD uC T.b_sorted (ac (aw Fe (ac (pvM 1) (ac (pvM 8) (ac ao af)))) af)) af)) rfl))))
  (ai (dP 9 (N:=["_law_wish_here"]) (nt:=1) (js:=[]) (aI nz3 (aj oO).names) (bT K (pvM 3)) (aA 0) aP bx (aw Fd (ac (pvM 0) af)))
  (ai (bq (gG K (aQ zm (be qo T.b_list (ac (pvM 3) af)) (be qo T.b_list (ac (Da (pvM 3) (de (mL iW ao))) af)))) (aA 10) (ai (bF (nk (fU (aw Fk (ac (aw Fd (ac (pvM 10) af)) (ac (aE ba (pvM 10) ao) af))))) (ak (az cR)) aR)
  (ak (bF (PW.pt (rW (nk (fU (aw Ft (ac (pvM 10) (ac (pvM 4) (ac (pvM 6) af)))))) (nJ (nk (fU (aw Ft (ac (pvM 10) (ac (pvM 4) (ac (pvM 5) af))))))))) (ak (az cR)) aR))))
  (ai (bq (Dz (K:=K) rfl rfl T.b_zip (ac (pvM 9) (ac (pvM 3) af))) (gu (n:=2) rfl (bO (aA 11) (bO (aA 10) gp))) (ak (bF (PW.pt (rW (aO Bs (fe (Bw ⟨T.cl_Unlike,FnR.lift Z ∅⟩ ⟨T.cl_Many,FnR.lift ax ∅⟩ ⟨T.cl_Sum,FnR.lift a2 ∅⟩ ⟨T.cl_Table,FnR.lift am ∅⟩ ⟨T.cl_Way,FnR.lift a1 ∅⟩ ⟨T.cl_Behind,FnR.lift ab ∅⟩ ⟨T.cl_Same,ar⟩) (hr.mono (by ctx_has m)) (pvM 11) (ac (pvM 5) af)) (aw Fh (ac (pvM 10) (ac (pvM 5) af)))) (nJ (aO Bs (fe (Bw ⟨T.cl_Unlike,FnR.lift Y ∅⟩ ⟨T.cl_Many,FnR.lift aq ∅⟩ ⟨T.cl_Sum,FnR.lift ay ∅⟩ ⟨T.cl_Table,FnR.lift aa ∅⟩ ⟨T.cl_Way,FnR.lift a0 ∅⟩ ⟨T.cl_Behind,FnR.lift F ∅⟩ ⟨T.cl_Same,an⟩) (hr.mono (by ctx_has m)) (pvM 11) (ac (pvM 6) af)) (aw Fg (ac (pvM 10) (ac (pvM 6) af))))))) (ak (az cR)) aR)))
  (ak (az cR))))))))))),?_⟩
 refine CD λR hR=>?_
 ctx_has v
 refine⟨a,ns,0,rfl,hS,bG,∅,∅,λd l H1 hd hl D1 ci=>?_⟩
 refine⟨d,l,5,3,3,rfl,D1,∅,∅,∅,∅,∅,∅,λp c t ys us as ws ps rm Ws H2 a7 hO hsz D2 B2=>?_⟩
 have bJ:=a7.hp;obtain⟨aT,b8⟩:=id a7.ca;have bi:(as.map (·.2.1)).Nodup:=by rw[hO.eq];exact hO.nd
 have aN:ws.length<=5:=by have:=hsz.1;omega
 have c6:as.length<=5:=by rw[<- hO.eq,d_] at aN;exact aN
 clear hS ci D1 hd hl;ctx_has v bJ iZt
 refine⟨ys,a7.hc,λDn aW=>?_⟩
 refine dG aV (λj zs H'=>zs=(as.take j).map (λx=>V.str x.2.1)/\au H2 H'/\H' Dn*>zs) ⟨rfl,au.upd0 aW,ae⟩ (λj zs H' bZ=>by obtain⟨_,s,_⟩:=bZ;exact((a7.same s).hc.sq)) ?_ ?_
 .rintro j x zs H3 hj B ⟨rfl,s3,h3⟩
  rw[aT] at B;obtain⟨y,hy,rfl⟩ : ∃y,as[j]? = some y/\V.ref y.1=x:=by
   rw[fx] at B;cases e:as[j]? with
   | none=>rw[e] at B;cases B
   | some u=>rw[e] at B;exact⟨u,rfl,ge B⟩
  have e1:=s3 _ _ (b8 y (g7 hy)).1;ctx_has v e1
  refine⟨h3,?_,by rw[ki,hy];simp,λb o e=>(by rw[ag (ap e aW)];exact s3 _ _ e),ae⟩
  rw[d_];exact aK (i8 (G4 _ _) ())
 rintro zs H3 ⟨rfl,s3,h3⟩
 rw[aT,d_,m_] at h3;have bK:H3 Dn*>(ws.map V.str):=by rw[h3,<- hO.eq,m6];rfl
 intro ra b0;have bP:=a7.same s3;have D3:=D2.same s3;have aG:=D2.ne aW;have aB:=D3.ne b0;have s4:=au.upd0 (o:=.dK []) b0;have bw:=s4 _ _ bK;have a9:upd H3 ra (.dK []) ra<*[]:=ae
 have aU:=bP.same s4;have D4:=D3.same s4;generalize upd H3 ra (.dK [])=H4 at s4 bw a9 aU D4 ⊢;clear h3 bK bP D3 s3 s4 b0 aW a7 D2 B2 bJ b8;subst hR;ctx_has v
 intro le aZ;have a8:=D4.ne aZ;have s5:=au.upd0 (o:=.dK []) aZ;have bm:ra≠le:=λe=>by rw[e,aZ] at a9;cases a9
 refine EY (λσ H'=>∃(kv:List (Key × V)) (rl:Str->List Int) (v7 v8:Option V),σ=[-a,-d,-c,-t,-Dn,-ra,-le,v7,v8,none,none,none]/\H' ra<*(dY as)/\H' le<*kv/\aY H' kv ws rl/\DV ws kv rl/\H' Dn*>(ws.map V.str)/\gf H' p c t ys us as rm Ws) ?_ ?_
 .ctx_has v iZt
  refine⟨ys,(aU.same s5).hc,?_⟩
  refine bX aV (λi σ H'=>∃(kv:List (Key × V)) (rl:Str->List Int) (v7 v8:Option V),σ=[-a,-d,-c,-t,-Dn,-ra,-le,v7,v8,none,none,none]/\H' ra<*(dY (as.take i))/\H' le<*kv/\aY H' kv (ws.take i) rl/\DV (ws.take i) kv rl/\H' Dn*>(ws.map V.str)/\gf H' p c t ys us as rm Ws/\kv.length<=i/\aL H' d l)
   ⟨[],λ_=>[],_,_,rfl,s5 _ _ a9,ae,λc hc=>by simp at hc,⟨λc hc=>by simp at hc,by simp,λc hc=>by simp at hc⟩,s5 _ _ bw,aU.same s5,y6 _,D4.same s5⟩ (λi σ H' bI=>by obtain⟨_,_,_,_,_,_,_,_,_,_,h,_⟩:=bI;exact(h.hc.sq)) ?_ ?_
  .rintro i x σ H6 hi B ⟨kv,rl,v7,v8,rfl,h6r,h6l,a4,a3,h6n,hH6,hkl,D6⟩
   rw[aT] at B;obtain⟨y,hy,rfl⟩ : ∃y,as[i]? = some y/\V.ref y.1=x:=by
    rw[fx] at B;cases e:as[i]? with
    | none=>rw[e] at B;cases B
    | some u=>rw[e] at B;exact⟨u,rfl,ge B⟩
   have ad:=g7 hy;have bE:ws[i]? = some y.2.1:=by rw[<- hO.eq,fx,hy];rfl
   have bM:y.2.1∈ws:=g7 bE
   have cA:i < as.length:=(g_.mp hy).1
   have e1:=(hH6.ca.2 y ad).1;have e2:=(hH6.ca.2 y ad).2;have cC:(dY (as.take i)).length<=40:=by unfold dY;rw[d_];exact i8 (G4 _ _) ()
   ctx_has v e1 h6r
   refine⟨aK (),?_⟩
   rw[Ds bi hy];have bo : ∀b vs,H6 b>>vs->upd H6 ra (.dK (dY (as.take (i+1)))) b>>vs:=λb vs e=>by rw[ag (aX e h6r (by intro z;cases z))];exact e
   have bS:upd H6 ra (.dK (dY (as.take (i+1)))) ra<*(dY (as.take (i+1))):=ae
   have bU:upd H6 ra (.dK (dY (as.take (i+1)))) le<*kv:=by rw[ag bm.symm];exact h6l
   have b6:upd H6 ra (.dK (dY (as.take (i+1)))) Dn*>(ws.map V.str):=by rw[ag (aX h6n h6r (by intro z;cases z))];exact h6n
   have D7:=D6.put (o:=.dK (dY (as.take (i+1)))) aB.1 aB.2;have b7:=hH6.putD (o:=.dK (dY (as.take (i+1)))) h6r;have bg:=a4.same bo;have e3:=bo _ _ e2;generalize upd H6 ra (.dK (dY (as.take (i+1))))=H7 at bS bU b6 D7 b7 bg e3 ⊢;clear bo h6r h6l h6n D6 hH6 a4 e1 e2;have hg:=hO.gd _ bM;have c2:=hsz.2 _ bM;have c4:=J2.mpr hg.1;refine⟨d,l,y.2.2,1,(rm y.2.1).map V.int,rfl,D7,.inr e3,∅,by rw[d_];omega,by rw[d_];omega,λsp c7 rest H8 cB bu cq h8 D8 B8=>?_⟩
   obtain⟨vs,c9,rfl,br⟩:=lZ V.int BS (λ_=>rfl) bu
   have c8:vs.length<=(rm y.2.1).length:=by have:=br.length_eq;simp at this;omega
   have ce:(rm y.2.1).Nodup:=hg.2.2.1.imp λh=>by omega
   refine⟨sp,rfl,vs,h8,(),λsq ms cp bp bV=>⟨_,ae,λtp ck=>?_⟩⟩
   have s9:au H8 (upd (upd H8 sq (.lst (ms.map V.int))) tp (.tup (ms.map V.int))):=(au.upd0 cp).upd_new ck
   have b9:upd (upd H8 sq (.lst (ms.map V.int))) tp (.tup (ms.map V.int)) tp>>(ms.map V.int):=ae
   generalize upd (upd H8 sq (.lst (ms.map V.int))) tp (.tup (ms.map V.int))=H9 at s9 b9 ⊢;have aM:=s9 _ _ (B8 le _ a8.1 a8.2 bU);have bC : ∀b vs,H9 b>>vs->∀o,upd H9 le (.dK o) b>>vs:=λb vs e o=>by rw[ag (aX e aM (by intro z;cases z))];exact e
   have cf : ∀b vs,H7 b>>vs->upd H9 le (.dK (bv kv (i9 y.2.1) (.ref tp))) b>>vs:=λb vs e=>bC _ _ (s9 _ _ (B8.tup D7 e)) _
   have aH : ∀x∈ws.take (i+1),x=y.2.1\/x∈ws.take i:=λx B=>by
    rw[ki,bE] at B;rcases j9.mp B with z | z
    .exact .inr z
    .exact .inl (gr.mp z)
   have bc:ms≠[]/\ms.length<=4/\ms.Pairwise (· < ·)/\∀v∈ms,-2000000<=v/\v<=2000000:=by
    have bN:=bp.length_eq;simp only[d_] at cq;refine⟨λz=>by rw[z] at bN;simp at bN;omega,(),DP bp bV (t_.mp (br.nodup_iff.mpr ce)).1,λv hv=>?_⟩
    have:=hO.nb v (hg.2.2.2 v (br.mem_iff.mp (k9 _ (bp.mem_iff.mp hv))))
    omega
   refine⟨kv,aM,aK (),by rw[ag bm];exact s9 _ _ (B8 ra _ aB.1 aB.2 bS),_,ae,cy rl y.2.1 ms,bg.putG cf (bC _ _ b9 _) aH,⟨λx B=>?_,kb a3.pl rfl,λx B=>?_⟩,by rw[ag (aX (s9 _ _ (B8 Dn _ aG.1 aG.2 b6)) aM (by intro z;cases z))];exact s9 _ _ (B8 Dn _ aG.1 aG.2 b6),((b7.but B8 D7).same s9).putD aM,i8 (cF _ _ _) (),(D8.same s9).put a8.1 a8.2⟩
   .unfold cy
    by_cases e:x=y.2.1
    .rw[if_pos e];exact⟨bc.1,bc.2.1,bc.2.2.1⟩
    .rw[if_neg e];exact a3.gd x ((aH x B).resolve_left e)
   .unfold cy
    by_cases e:x=y.2.1
    .rw[if_pos e];exact bc.2.2.2
    .rw[if_neg e];exact a3.bd x ((aH x B).resolve_left e)
  .rintro σ H6 ⟨kv,rl,v7,v8,rfl,h6r,h6l,a4,a3,h6n,hH6,hkl,D6⟩
   rw[aT,d_] at h6r a4 a3;rw[m_] at h6r;rw[nH (by rw[<- hO.eq,d_];exact i6 _)] at a4 a3
   exact⟨kv,rl,v7,v8,rfl,h6r,h6l,a4,a3,h6n,hH6⟩
 clear s5 aZ a8 aU D4 bw a9 aB aG bm;rintro σ H5 ⟨kv,rl,v7,v8,rfl,cb,bR,a4,a3,cc,aS⟩
 obtain⟨bs,cx,bY,hb⟩:=aS.wa;have f:F20 ws (dY as) kv rm rl bs:=⟨hO.nd,aN,⟨λc hc=>⟨(hO.gd c hc).1,by have:=hsz.2 c hc;omega,(hO.gd c hc).2.2.1⟩,zZ as,λc hc v hv=>by have:=hO.nb v ((hO.gd c hc).2.2.2 v hv);omega⟩,a3,λx B=>(by have h:=hO.ok x.2 (by rw[<- bY];exact i4.mpr ⟨x,B,rfl⟩);exact⟨Gc h aN,Ak h⟩),by have:=hO.wk;rw[<- bY,d_] at this;exact this⟩
 have M:Ax H5 Dn ra le t ws (dY as) kv rm rl bs:=⟨cc,cb,bR,λx B=>(by rw[<- hO.eq] at B;obtain⟨y,hy,rfl⟩:=i4.mp B;exact⟨y.2.2,EX bi hy,(aS.ca.2 y hy).2⟩),a4,by rw[<- cx];exact aS.ht,hb⟩
 clear aS cb bR a4 a3 cc hb;refine iy λR hR=>?_
 have m1:=M.ht;ctx_has v m1
 refine λD hD=>dG aV (λj zs H'=>∃os:List Addr,zs=os.map V.ref/\os.length=j/\(∀(n:Nat) o x,os[n]? = some o->bs[n]? = some x->tF mg H' o x.2)/\au H5 H'/\H' D*>zs) ⟨[],rfl,rfl,by simp,au.upd0 hD,ae⟩ (λj zs H' bA=>by obtain⟨_,_,_,_,s,_⟩:=bA;exact(.of (s _ _ m1))) ?_ ?_
 .rintro j x zs H6 hj B ⟨os,rfl,bj,bf,s6,h6⟩
  obtain⟨y,hy,rfl⟩ : ∃y,bs[j]? = some y/\V.ref y.1=x:=by
   rw[fx] at B;cases e:bs[j]? with
   | none=>rw[e] at B;cases B
   | some u=>rw[e] at B;exact⟨u,rfl,ge B⟩
  have ad:=g7 hy;have c3:j < bs.length:=(g_.mp hy).1
  have cn:=f.bl;ctx_has v
  refine⟨y.1,y.2,rfl,(M.same s6).hb y ad,(f.ok y ad).1,λo H7 ho ob s7=>?_⟩
  have h7:=s7 _ _ h6;have kk:fk H7 (upd H7 D (.lst (os.map V.ref++[.ref o]))):=⟨λb vs e=>(by rw[ag (aX e h7 (by intro z;cases z))];exact e),λb C dx fs e=>(by rw[ag (aX e h7 (by intro z;cases z))];exact e),λb ks e=>(by rw[ag (aX e h7 (by intro z;cases z))];exact e)⟩
  refine⟨h7,by rw[d_];exact aK (),os++[o],by simp,by simp;omega,λn o' x' e1 e2=>?_,λb u e=>(by rw[ag (ap e hD)];exact s7 _ _ (s6 _ _ e)),ae⟩
  by_cases hn:n < os.length
  .rw[tj hn] at e1
   exact((bf n o' x' e1 e2).keep (au.keepTI s7)).keep kk
  .have hn2:n=os.length:=by
    have:=(g_.mp e1).1
    simp at this
    omega
   subst hn2;rw[t7 (i6 _),sub_self] at e1;rw[bj,hy] at e2;cases e1;cases e2;exact ob.keep kk
 rintro zs H6 ⟨os,rfl,bj,bf,s6,h6⟩
 rw[d_] at bj;have M6:=M.same s6;clear M s6 m1 hD;subst hR;refine iy λR hR=>?_
 have m1:=M6.ht;ctx_has v m1 Er
 intro l1 bD;have cn:=f.bl;have sA:=au.upd0 (o:=.lst (bs.map λx=>V.ref x.1)) bD
 refine⟨_,sA _ _ m1,λp1 bz=>⟨_,ae,λl2 b5=>?_⟩⟩
 have sB:=sA.upd_new (o:=.tup (bs.map λx=>V.ref x.1).reverse) bz
 have sC:=sB.upd_new (o:=.lst (bs.map λx=>V.ref x.1).reverse) b5
 refine⟨_,((au.upd0 bz).upd_new b5) _ _ ae,_,ae,?_,λp2 bB=>⟨_,ae,?_⟩⟩
 .rw[length_reverse,d_]
  exact Jc (aK ())
 have sD:=sC.upd_new (o:=.lst ((bs.map λx=>V.ref x.1)++(bs.map λx=>V.ref x.1).reverse)) bB
 have bk:upd (upd (upd (upd H6 l1 (.lst (bs.map λx=>V.ref x.1))) p1 (.tup (bs.map λx=>V.ref x.1).reverse)) l2 (.lst (bs.map λx=>V.ref x.1).reverse)) p2 (.lst ((bs.map λx=>V.ref x.1)++(bs.map λx=>V.ref x.1).reverse)) p2*>((bs++bs.reverse).map λx=>V.ref x.1):=by rw[ae,t6,map_reverse]
 generalize upd (upd (upd (upd H6 l1 (.lst (bs.map λx=>V.ref x.1))) p1 (.tup (bs.map λx=>V.ref x.1).reverse)) l2 (.lst (bs.map λx=>V.ref x.1).reverse)) p2 (.lst ((bs.map λx=>V.ref x.1)++(bs.map λx=>V.ref x.1).reverse))=H7 at sD bk ⊢
 have M7:=M6.same sD;have h7:=sD _ _ h6;have bh : ∀(n:Nat) o x,os[n]? = some o->bs[n]? = some x->tF mg H7 o x.2:=λn o x e1 e2=>(bf n o x e1 e2).keep (au.keepTI sD)
 clear sA sB sC sD bD bz b5 bB M6 h6 bf m1;refine bX cm (λi σ H'=>∃a6:Option V,σ=[-a,-d,-c,-t,-Dn,-ra,-le,v7,v8,-D,a6,none]/\au H7 H') ⟨_,rfl,λb o e=>e⟩ (λi σ H' cg=>by obtain⟨_,_,s⟩:=cg;exact(.of (s _ _ bk))) ?_ ?_
 .rintro i x σ H8 hi B ⟨a6,rfl,s8⟩
  obtain⟨y,hy,rfl⟩ : ∃y,(bs++bs.reverse)[i]? = some y/\V.ref y.1=x:=by
   rw[fx] at B;cases e:(bs++bs.reverse)[i]? with
   | none=>rw[e] at B;cases B
   | some u=>rw[e] at B;exact⟨u,rfl,ge B⟩
  have ad:y∈bs:=by
   rcases j9.mp (g7 hy) with z | z
   .exact z
   .exact mem_reverse.mp z
  have M8:=M7.same s8;ctx_has v
  refine⟨y.1,y.2,rfl,M8.hb y ad,(f.ok y ad).1,λo H9 ho ob s9=>?_⟩
  have M9:=M8.same s9;obtain⟨vs,g9⟩:=DU (M9.hb y ad);ctx_has v g9
  refine⟨o,y.2,rfl,ob.1,λc0 a5=>?_⟩
  have bb:=M9.same a5;ctx_has v Jb h9
  refine(yG bb f ad λcr aJ=>?_).2
  have c1:=bb.same aJ;ctx_has v Jb h9
  refine(yG c1 f ad λcu bn=>?_).1
  ctx_has v Jb h9
  exact((((s8.trans s9).trans a5).trans aJ).trans bn)
 rintro σ H8 ⟨a6,rfl,s8⟩
 have M8:=M7.same s8;have h8:=s8 _ _ h7;have bQ : ∀(n:Nat) o x,os[n]? = some o->bs[n]? = some x->tF mg H8 o x.2:=λn o x e1 e2=>(bh n o x e1 e2).keep (au.keepTI s8)
 clear M7 h7 bh s8 bk;subst hR;have m1:=M8.ht;ctx_has v h8 m1
 refine FQ (q:=true) (λi σ H'=>∃a6 bt:Option V,σ=[-a,-d,-c,-t,-Dn,-ra,-le,v7,v8,-D,a6,bt]/\au H8 H') ⟨_,_,rfl,λb o e=>e⟩ (λi σ H' bL=>by obtain⟨_,_,_,s⟩:=bL;exact(⟨.inl (.inl (s _ _ h8)),.of (s _ _ m1)⟩)) ?_ ?_
 .rintro i x z σ H9 tt B hz ⟨a6,bt,rfl,s9⟩ htt
  obtain⟨o,ho,rfl⟩ : ∃o,os[i]? = some o/\V.ref o=x:=by
   rw[fx] at B;cases e:os[i]? with
   | none=>rw[e] at B;cases B
   | some u=>rw[e] at B;exact⟨u,rfl,ge B⟩
  obtain⟨y,hy,rfl⟩ : ∃y,bs[i]? = some y/\V.ref y.1=z:=by
   rw[fx] at hz;cases e:bs[i]? with
   | none=>rw[e] at hz;cases hz
   | some u=>rw[e] at hz;exact⟨u,rfl,ge hz⟩
  have ad:=g7 hy;have a5:=s9.upd_new (o:=.tup [.ref o,.ref y.1]) htt;have bH:upd H9 tt (.tup [.ref o,.ref y.1]) tt>>[.ref o,.ref y.1]:=ae
  generalize upd H9 tt (.tup [.ref o,.ref y.1])=c0 at a5 bH ⊢;have bb:=M8.same a5;have ob:=(bQ i o y ho hy).keep (au.keepTI a5);obtain⟨w1,w2⟩:=EG bb f ad;ctx_has v bH
  refine wK ⟨ob,w1.rd,w1.rf,w1.ok,w1.ne⟩ λb1 cr cv aJ=>?_
  refine⟨y.1,ra,y.2,_,_,rfl,w1.same aJ,λb2 cu cw bn=>?_⟩
  have eb:b1=b2:=by rw[n9,cv,cw]
  subst eb;have sE:=aJ.trans bn;refine⟨by cases b1 <;> rfl,?_⟩
  rw[if_neg (by rw[decide_eq_true rfl];decide)]
  have w3:=w2.same sE;refine sh ⟨ob.keep (au.keepTI sE),w3.rd,w3.rf,w3.ok,w3.ne⟩ λb3 cD cj bW=>?_
  refine⟨y.1,le,y.2,_,_,rfl,w3.same bW,λb4 c5 co cz=>?_⟩
  have eb:b3=b4:=by rw[n9,cj,co]
  subst eb;refine⟨by cases b3 <;> rfl,?_⟩
  rw[if_neg (by rw[decide_eq_true rfl];decide)]
  exact((a5.trans sE).trans bW).trans cz
 .rintro σ H9 ⟨a6,bt,rfl,s9⟩
  ctx_has v
  exact k H9
theorem ft6 {f0:Addr} {f1:Addr} {Y:Addr} {F:Addr} {B:Addr} {Z:Addr}
  (F0:Fn P w K mg base "unlike_kept" 2 ["wish","filling"] (my "unlike")) (m0:mg "unlike_kept" = some (.ref f0)) (n0:nsIn K a "unlike" = some (-f0)) (F1:Fn P w K mg base "many_kept" 2 ["wish","filling"] (my "many")) (m1:mg "many_kept" = some (.ref f1)) (n1:nsIn K a "many" = some (-f1)) (F2:Fn P w K mg base "sum_kept" 2 ["wish","filling"] (my "sum")) (m2:mg "sum_kept" = some (.ref Y)) (n2:nsIn K a "sum" = some (-Y)) (F3:Fn P w K mg base "table_kept" 2 ["wish","filling"] (my "table")) (m3:mg "table_kept" = some (.ref F)) (n3:nsIn K a "table" = some (-F)) (F4:Fn P w K mg base "way_kept" 2 ["wish","filling"] (my "way")) (m4:mg "way_kept" = some (.ref B)) (n4:nsIn K a "way" = some (-B)) (F5:Fn P w K mg base "behind_kept" 2 ["wish","filling"] (my "behind")) (m5:mg "behind_kept" = some (.ref Z)) (n5:nsIn K a "behind" = some (-Z)) :
  ∀y∈qB,FnT P w K mg base a y 3 ["wish","filling"] (my y):=by
 intro y L;simp only[qB,i7,n6,or_false] at L;rcases L with rfl | rfl | rfl | rfl | rfl | rfl
 .exact oz F0 m0 n0 ∅ λ_ _ _ _ h=>h
 .exact oz F1 m1 n1 ∅ λ_ _ _ _ h=>h
 .exact oz F2 m2 n2 ∅ λ_ _ _ _ h=>h
 .exact oz F3 m3 n3 ∅ λ_ _ _ _ h=>h
 .exact oz F4 m4 n4 ∅ λ_ _ _ _ h=>h
 .exact oz F5 m5 n5 ∅ λ_ _ _ _ h=>h
theorem zx {Cs:List Addr} {B:Addr} (nd:Cs.Nodup) (cl : ∀C∈Cs,Cls K C) (ha:Cs.map (λC=>J4 K (.ref C) "__class__")=Cs.map λ_=>some (some (.builtin "object.__class__")))
  (hn:specialIn K (.builtin "object.__class__") "__get__" = some (some (.builtin "getset_descriptor.__get__"))) (ht:takesIn K (.builtin "object.__class__")=some true)
  (Z:Cs.map (λC=>mroIn K C (.type "object"))=Cs.map λ_=>some true) (F:Cs.map (λC=>Cs.map λD=>JN K (.ref C) (.ref D))=Cs.map λC=>Cs.map λD=>some (decide (C=D)))
  (L:Cs.map (λC=>JN K (.ref C) (.ref B))=Cs.map λ_=>some true):xb K Cs B :=
 ⟨nd,cl,KC.mp ha,hn,ht,KC.mp Z,λC Y=>KC.mp (KC.mp F C Y),KC.mp L⟩
abbrev AT (K:fy) (x:Str) (f:Addr):Prop:=nsIn K md x=some (some (j6 f))
abbrev LK (K:fy) (f:Addr) (x:Str) (st:Stmt) (oc:Value) (od:Option Addr) (sl:Array (Option Value)) (kV B pm:Value) (F:Option Addr) (cd ct:Value):Prop:=K.lookup f=some ⟨oc,od,.func (fnOf x x (cZ st) (cB st) (aj st) .none kV B pm F cd ct),sl⟩
abbrev CK (K:fy) (cd:Value) (x:Str):Prop:=codeIn K cd x=true
abbrev KK (K:fy) (f:Addr):Prop:=JM K (j6 f)=true
abbrev NB (K:fy) (x:Str):Prop:=nsIn K md x=some none
theorem Ht {us:List α} (h:us.length=1) : ∃u0,us=[u0]:=by
 match us,h with
 | [u0],_=>exact⟨u0,rfl⟩
theorem GW {us:List α} (h:us.length=2) : ∃u0 B,us=[u0,B]:=by
 match us,h with
 | [u0,B],_=>exact⟨u0,B,rfl⟩
theorem Hk {us:List α} (h:us.length=3) : ∃u0 B F,us=[u0,B,F]:=by
 match us,h with
 | [u0,B,F],_=>exact⟨u0,B,F,rfl⟩
theorem GV {us:List α} (h:us.length=4) : ∃u0 F L B,us=[u0,F,L,B]:=by
 match us,h with
 | [u0,F,L,B],_=>exact⟨u0,F,L,B,rfl⟩
theorem GZ {us:List α} (h:us.length=5) : ∃u0 L Y B F,us=[u0,L,Y,B,F]:=by
 match us,h with
 | [u0,L,Y,B,F],_=>exact⟨u0,L,Y,B,F,rfl⟩
local macro_rules | `(tactic| ctx_has b1) => `(tactic| exact λ_ _ _ _ _ _ us hl => by obtain ⟨u0, ee⟩ := Ht hl; subst ee; rfl)
local macro_rules | `(tactic| ctx_has b2) => `(tactic| exact λ_ _ _ _ _ _ us hl => by obtain ⟨u0, u1, ee⟩ := GW hl; subst ee; rfl)
local macro_rules | `(tactic| ctx_has b3) => `(tactic| exact λ_ _ _ _ _ _ us hl => by obtain ⟨u0, u1, u2, ee⟩ := Hk hl; subst ee; rfl)
local macro_rules | `(tactic| ctx_has b4) => `(tactic| exact λ_ _ _ _ _ _ us hl => by obtain ⟨u0, u1, u2, u3, ee⟩ := GV hl; subst ee; rfl)
local macro_rules | `(tactic| ctx_has b5) => `(tactic| exact λ_ _ _ _ _ _ us hl => by obtain ⟨u0, u1, u2, u3, u4, ee⟩ := GZ hl; subst ee; rfl)
local macro_rules | `(tactic| ctx_has bb) => `(tactic| first | ctx_has b1 | ctx_has b2 | ctx_has b3 | ctx_has b4 | ctx_has b5)
def DF (K:fy) (x:Str) (st:Stmt) (f:Addr):Prop:=∃(oc:Value) (od F:Option Addr) (sl:Array (Option Value)) (kV B pm cd ct:Value),AT K x f/\LK K f x st oc od sl kV B pm F cd ct/\CK K cd x/\KK K f
theorem dfI {F:Option Addr} {kV B:Value} (a:nsIn K md x=some (some (j6 f))) (l:K.lookup f=some ⟨oc,od,.func (fnOf x x (cZ st) (cB st) (aj st) .none kV B pm F cd ct),sl⟩) (c:codeIn K cd x=true) (k:JM K (j6 f)=true):DF K x st f:=⟨_,_,_,_,_,_,_,_,_,a,l,c,k⟩
theorem dfM (X:K.In h) (G:h.Ns md mg) (d:DF K x st f):mg x=some (.ref f):=by
 obtain⟨_,_,_,_,_,_,_,_,_,a,_⟩:=d;exact mg_of X G a
theorem dfL (X:K.In h) (G:h.Ns md mg) (d:DF K x st f) (B : ∀(kV doc pm:Value) (F:Option Addr) (cdv ct:Value) (us:List Value),us.length=ps.length->bindArgs (fnOf x x (cZ st) (cB st) (aj st) .none kV doc pm F cdv ct) ⟨us,[]⟩=pure (ps.zip us):=by ctx_has bb):FnL K mg x st ps:=by
 obtain⟨_,_,_,_,_,_,_,_,_,a,l,c,k⟩:=d;exact Gz X G a l c k B
def DM (K:fy) (R:Addr->Prop) (x q:Str) (st:Stmt):Prop:=∃(f:Addr) (oc:Value) (od F:Option Addr) (sl:Array (Option Value)) (kV B pm cd ct:Value),R f/\K.lookup f=some ⟨oc,od,.func (fnOf x q (cZ st) (cB st) (aj st) .none kV B pm F cd ct),sl⟩/\codeIn K cd q=true/\JM K (j6 f)=true
theorem dmI {R:Addr->Prop} {q:Str} {F:Option Addr} {kV B:Value} (r:R f) (l:K.lookup f=some ⟨oc,od,.func (fnOf x q (cZ st) (cB st) (aj st) .none kV B pm F cd ct),sl⟩) (c:codeIn K cd q=true) (k:JM K (j6 f)=true):DM K R x q st:=⟨_,_,_,_,_,_,_,_,_,_,r,l,c,k⟩
theorem dmL {R:Addr->Prop} {q:Str} (d:DM K R x q st) (B : ∀(kV doc pm:Value) (F:Option Addr) (cdv ct:Value) (us:List Value),us.length=ps.length->bindArgs (fnOf x q (cZ st) (cB st) (aj st) .none kV doc pm F cdv ct) ⟨us,[]⟩=pure (ps.zip us):=by ctx_has bb):bW K R x q st ps:=by
 obtain⟨_,_,_,_,_,_,_,_,_,_,r,l,c,k⟩:=d;exact Eb r l c k B
theorem Gs {l:PySem.W.OpenLaw} (X:K.In h) (G:h.Ns md mg) (ea:mg "law" = some (.ref fa))
  {b5:Addr}
  {F:Addr}
  {Y:Addr}
  {aa:Addr}
  {L:Addr}
  {ab:Addr}
  {B:Addr}
  {Z:Addr}
  {ac:Addr} {aO:Array DictEntry} {bB:Nat}
  {ck:Addr} {c4 cf ci ce bZ cj:Value} {cX cc:Option Addr} {cR:Array (Option Value)}
  {f0 f1 f2 f3 f4 f5 f6 f7 f8 f9 cW dh cr cL cz cn e8 c7 dP eb eA eC ey el dC dG dS dN dJ ep ej e0 ec dW du eh dY:Addr}
  (bG:nsIn K md "Wish" = some (-b5))
  (bm:nsIn K md "Unlike" = some (-F))
  (bh:Cls K F)
  (aY:aN K F "wish")
  (aI:aN K F "cells")
  (bL:nsIn K md "Many" = some (-Y))
  (bH:Cls K Y)
  (bp:aN K Y "wish")
  (bj:aN K Y "among")
  (be:aN K Y "cells")
  (b4:aN K Y "low")
  (bx:aN K Y "high")
  (bS:nsIn K md "Sum" = some (-aa))
  (bR:Cls K aa)
  (b2:aN K aa "wish")
  (bu:aN K aa "terms")
  (bK:aN K aa "low")
  (b8:aN K aa "high")
  (b0:nsIn K md "Table" = some (-L))
  (b1:Cls K L)
  (bf:aN K L "wish")
  (aS:aN K L "cells")
  (ba:aN K L "rows")
  (bQ:nsIn K md "Way" = some (-ab))
  (bT:Cls K ab)
  (b3:aN K ab "wish")
  (bs:aN K ab "cells")
  (b6:aN K ab "ends")
  (bw:aN K ab "leads")
  (bo:nsIn K md "Behind" = some (-B))
  (bb:Cls K B)
  (aU:aN K B "wish")
  (aL:aN K B "cells")
  (bg:aN K B "gap")
  (bD:nsIn K md "Same" = some (-Z))
  (bA:Cls K Z)
  (br:aN K Z "wish")
  (bq:aN K Z "cell")
  (bk:aN K Z "among")
  (bc:aN K Z "inner")
  (d0:DF K "_law_draw" jH f0)
  (d1:DF K "_law_deal" hU f1)
  (d2:DF K "_law_names" gv f2)
  (d3:DF K "_law_pool" jz f3)
  (d4:DF K "_law_rooms" gw f4)
  (d5:DF K "_law_some" jB f5)
  (d6:DF K "are_unlike" jf f6)
  (d7:DF K "is_between" iF f7)
  (d8:DF K "sum_of" lF f8)
  (d9:DF K "values_at" gY f9)
  (dn:DF K "unlike_kept" ib cW)
  (cN:DF K "many_kept" gX dh)
  (cA:DF K "sum_kept" lw cr)
  (c8:DF K "table_kept" iI cL)
  (cM:DF K "way_kept" kQ cz)
  (c0:DF K "behind_kept" fF cn)
  (eg:DF K "wish_kept" hE e8)
  (dp:DF K "same_kept" jJ c7)
  (eq:DF K "_law_kept" cg dP)
  (e3:DF K "_law_bounds" il eb)
  (dV:DF K "_law_sum" gB eA)
  (e5:DF K "_law_rows" gV eC)
  (ei:DF K "_law_way" iU ey)
  (ez:DF K "_law_wish" fN el)
  (e6:DF K "_law_fillings" gb dC)
  (dH:DF K "_law_hall" fQ dG)
  (bn:DM K (gJ K b5 "__init__") "__init__" "Wish.__init__" bz)
  (cS:DM K (Mk K B) "__init__" "Behind.__init__" fb)
  (cG:DM K (aC K B "may_keep") "may_keep" "Behind.may_keep" dz)
  (c3:DM K (aC K B "may_break") "may_break" "Behind.may_break" da)
  (db:DM K (Mk K L) "__init__" "Table.__init__" fB)
  (cq:DM K (aC K L "has_room") "has_room" "Table.has_room" dQ)
  (dd:DM K (aC K L "rows_in") "rows_in" "Table.rows_in" eD)
  (cQ:DM K (aC K L "may_keep") "may_keep" "Table.may_keep" fA)
  (cE:DM K (aC K L "may_break") "may_break" "Table.may_break" eV)
  (cC:DM K (Mk K ab) "__init__" "Way.__init__" gO)
  (dk:DM K (aC K ab "states_behind") "states_behind" "Way.states_behind" eu)
  (dj:DM K (aC K ab "last_states") "last_states" "Way.last_states" eW)
  (c5:DM K (aC K ab "may_keep") "may_keep" "Way.may_keep" fi)
  (cV:DM K (aC K ab "may_break") "may_break" "Way.may_break" eJ)
  (cO:DM K (Mk K aa) "__init__" "Sum.__init__" gL)
  (dT:DF K "parts_of" iP dS)
  (ee:DF K "spans_of" lm dN)
  (cx:DM K (aC K aa "may_end_well") "may_end_well" "Sum.may_end_well" eO)
  (c9:DM K (aC K aa "sums_with") "sums_with" "Sum.sums_with" fR)
  (cI:DM K (aC K aa "sums_kept") "sums_kept" "Sum.sums_kept" gc)
  (cu:DM K (aC K aa "may_keep") "may_keep" "Sum.may_keep" gz)
  (cp:DM K (aC K aa "may_break") "may_break" "Sum.may_break" fZ)
  (de:DM K (Mk K F) "__init__" "Unlike.__init__" eZ)
  (cT:DM K (aC K F "may_break") "may_break" "Unlike.may_break" eN)
  (ed:DF K "finds_value" dm dJ)
  (dg:DM K (aC K F "may_keep") "may_keep" "Unlike.may_keep" fc)
  (c6:DM K (Mk K Y) "__init__" "Many.__init__" ga)
  (c1:DM K (aC K Y "fewest") "fewest" "Many.fewest" dq)
  (cP:DM K (aC K Y "most") "most" "Many.most" eS)
  (dc:DM K (aC K Y "may_keep") "may_keep" "Many.may_keep" fV)
  (cY:DM K (aC K Y "may_break") "may_break" "Many.may_break" fD)
  (dZ:DF K "plain_wish_of" fW ep)
  (co:DM K (Mk K Z) "__init__" "Same.__init__" fS)
  (cU:DM K (aC K Z "may_be_among") "may_be_among" "Same.may_be_among" cK)
  (cJ:DM K (aC K Z "may_be_none_of_them") "may_be_none_of_them" "Same.may_be_none_of_them" bI)
  (df:DM K (aC K Z "may_keep") "may_keep" "Same.may_keep" fX)
  (cv:DM K (aC K Z "may_break") "may_break" "Same.may_break" fC)
  (dD:DF K "wish_of" ow ej)
  (cF:DM K (aC K F "kept") "kept" "Unlike.kept" ij)
  (di:DM K (aC K Y "kept") "kept" "Many.kept" jG)
  (dl:DM K (aC K aa "kept") "kept" "Sum.kept" kJ)
  (cw:DM K (aC K L "kept") "kept" "Table.kept" iH)
  (cy:DM K (aC K ab "kept") "kept" "Way.kept" lu)
  (c2:DM K (aC K B "kept") "kept" "Behind.kept" iq)
  (cD:DM K (aC K Z "kept") "kept" "Same.kept" jt)
  (dv:DF K "is_kept" nI e0)
  (dy:DF K "may_be_kept" ig ec)
  (dU:DF K "may_be_broken" fY dW)
  (ef:DF K "_law_sort_right" dw du)
  (dO:DF K "_law_truth" je eh)
  (eE:DF K "_law_right" jg dY)
  (dL:AT K "law" ck) (et:LK K ck "law" oO c4 cX cR cf ci ce cc bZ cj) (en:CK K bZ "law") (er:KK K ck)
  (z0:NB K "len")
  (z1:NB K "max")
  (z2:NB K "min")
  (z3:NB K "sum")
  (z4:NB K "list")
  (z5:NB K "reversed")
  (z6:NB K "range")
  (z7:NB K "isinstance")
  (z8:NB K "all")
  (z9:NB K "any")
  (eo:NB K "sorted")
  (eB:NB K "dict")
  (e4:NB K "tuple")
  (dR:NB K "bool")
  (ek:NB K "zip")
  (dt:NB K "set")
  (dA:NB K "int")
  (dF:NB K "enumerate")
  (e7:[F,Y,aa,L,ab,B,Z].Nodup)
  (dI:[F,Y,aa,L,ab,B,Z].map (λC=>J4 K (.ref C) "__class__")=[F,Y,aa,L,ab,B,Z].map λ_=>some (some (.builtin "object.__class__")))
  (e9:specialIn K (.builtin "object.__class__") "__get__" = some (some (.builtin "getset_descriptor.__get__")))
  (dM:takesIn K (.builtin "object.__class__")=some true)
  (dr:[F,Y,aa,L,ab,B,Z].map (λC=>mroIn K C (.type "object"))=[F,Y,aa,L,ab,B,Z].map λ_=>some true)
  (ew:[F,Y,aa,L,ab,B,Z].map (λC=>[F,Y,aa,L,ab,B,Z].map λD=>JN K (.ref C) (.ref D))=[F,Y,aa,L,ab,B,Z].map λC=>[F,Y,aa,L,ab,B,Z].map λD=>some (decide (C=D)))
  (dE:[F,Y,aa,L,ab,B,Z].map (λC=>JN K (.ref C) (.ref b5))=[F,Y,aa,L,ab,B,Z].map λ_=>some true)
  (aP:nsIn K md "KEEPERS" = some (-ac))
  (bE:K.lookup ac=some ⟨.type "dict",none,.dict aO bB,#[]⟩)
  (bF:PySem.W.KeysLit w.params aO.toList)
  (a6:nsIn K ac "unlike" = some (-cW))
  (aK:nsIn K ac "many" = some (-dh))
  (aT:nsIn K ac "sum" = some (-cr))
  (a8:nsIn K ac "table" = some (-cL))
  (aW:nsIn K ac "way" = some (-cz))
  (a5:nsIn K ac "behind" = some (-cn))
  (bU:nsIn K ac "same" = some (-c7)) :
  ∃fd:FuncData,(∀(s:Shared) (v:Value),BindsTo s fd ⟨[v],[]⟩ [("_law_script",v)])/\∀base:Heap,K.In base->base.Ns md mg->ji l.prog w K mg base CX0 45 fa fd ["_law_script"] (yK K):=by
 have e:=ea.symm.trans (mg_of X G dL);cases e;have bY:=fo (mg_of X G bG);subst bY;have bO:=fo (mg_of X G bm);subst bO;have bW:=fo (mg_of X G bL);subst bW;have cb:=fo (mg_of X G bS);subst cb;have bV:=fo (mg_of X G b0);subst bV;have ca:=fo (mg_of X G bQ);subst ca;have bN:=fo (mg_of X G bo);subst bN;have bX:=fo (mg_of X G bD);subst bX;have b9:=fo (mg_of X G aP);subst b9;have T:Txt w K mg:=⟨u_ X G z0,u_ X G z1,u_ X G z2,u_ X G z3,u_ X G z4,u_ X G z5,u_ X G z6,u_ X G z7,u_ X G z8,u_ X G z9,u_ X G eo,u_ X G eB,u_ X G e4,u_ X G dR,u_ X G ek,u_ X G dt,u_ X G dA,u_ X G dF,mg_of X G bm,bh,aY,aI,mg_of X G bL,bH,bp,bj,be,b4,bx,mg_of X G bS,bR,b2,bu,bK,b8,mg_of X G b0,b1,bf,aS,ba,mg_of X G bQ,bT,b3,bs,b6,bw,mg_of X G bo,bb,aU,aL,bg,mg_of X G bD,bA,br,bq,bk,bc,mg_of X G bG,mg_of X G aP,⟨_,_,bE,bF⟩,zx e7 (by simp only[i7,n6,or_false];rintro C (rfl | rfl | rfl | rfl | rfl | rfl | rfl) <;> first | exact bh | exact bH | exact bR | exact b1 | exact bT | exact bb | exact bA) dI e9 dM dr ew dE⟩
 have ev:FnL K mg "wish_kept" hE ["wish","filling"]:=dfL X G eg
 have cH:FnL K mg "_law_kept" cg ["_law_wish_here","_law_filling"]:=dfL X G eq
 have cm:FnL K mg "_law_wish" fN ["_law_deal_here","_law_names_here","_law_rooms_here","_law_pool_here","_law_sorts"]:=dfL X G ez
 have em:FnL K mg "finds_value" dm ["cell","rooms","holders","tried"]:=dfL X G ed
 refine⟨fnOf "law" "law" (cZ oO) (cB oO) (aj oO) .none cf ci ce cc bZ cj,λs v=>.of_eq rfl,λbase _ _=>?_⟩
 have Fa:=uf (P:=l.prog) (w:=w) (base:=base) T (dfL X G d0);have FH:=uK (P:=l.prog) (w:=w) (base:=base) T (dfL X G d1);have FC:=rK (P:=l.prog) (w:=w) (base:=base) T (dfL X G d2) Fa;have FJ:=uo (P:=l.prog) (w:=w) (base:=base) T (dfL X G d3) Fa;have FD:=rB (P:=l.prog) (w:=w) (base:=base) T (dfL X G d4) Fa;have Fe:=uJ (P:=l.prog) (w:=w) (base:=base) T (dfL X G d5) Fa;have FE:=rF (P:=l.prog) (w:=w) (base:=base) T (dfL X G d6);have Fc:=rQ (P:=l.prog) (w:=w) (base:=base) T (dfL X G d7);have FL:=Ar (P:=l.prog) (w:=w) (base:=base) T (dfL X G d8);have Fb:=tE (P:=l.prog) (w:=w) (base:=base) T (dfL X G d9);have Fp:=pX (P:=l.prog) (w:=w) (base:=base) T (dfL X G dn) FE Fb;have Fv:=tL (P:=l.prog) (w:=w) (base:=base) T (dfL X G cN) Fc;have Fz:=vD (P:=l.prog) (w:=w) (base:=base) T (dfL X G cA) Fc FL;have Fs:=rO (P:=l.prog) (w:=w) (base:=base) T (dfL X G c8) Fb;have Fx:=uX (P:=l.prog) (w:=w) (base:=base) T (dfL X G cM) Fb;have Fo:=pO (P:=l.prog) (w:=w) (base:=base) T (dfL X G c0) Fb;have FM:Fn l.prog w K mg base "wish_kept" 4 ["wish","filling"] (ml):=rj (ft6 Fp (dfM X G dn) a6 Fv (dfM X G cN) aK Fz (dfM X G cA) aT Fs (dfM X G c8) a8 Fx (dfM X G cM) aW Fo (dfM X G c0) a5) T ev
 have FI:=uc (P:=l.prog) (w:=w) (base:=base) T (dfL X G dp) FM;have Fr:=rJ (P:=l.prog) (w:=w) (base:=base) T cH;have FF:=ro (P:=l.prog) (w:=w) (base:=base) T cH Fr;have Fw:=qi (P:=l.prog) (w:=w) (base:=base) T (dfL X G e3) Fa;have Fy:=wm (P:=l.prog) (w:=w) (base:=base) T (dfL X G dV) Fa Fw;have Fu:=uI (P:=l.prog) (w:=w) (base:=base) T (dfL X G e5) Fa;have FA:=wI (P:=l.prog) (w:=w) (base:=base) T (dfL X G ei) Fa;have FB:Fn l.prog w K mg base "_law_wish" 15 ["_law_deal_here","_law_names_here","_law_rooms_here","_law_pool_here","_law_sorts"] (pH true):=(ma (n:=4) (h:=true) T cm Fa Fe Fy Fu FA (by unfold pG;rw[if_pos rfl];exact ma (n:=0) (h:=false) T cm Fa Fe Fy Fu FA (by unfold pG;rw[if_neg j7];exact AN cm))).mono ∅
 have Fq:=nL (P:=l.prog) (w:=w) (base:=base) T (dfL X G e6);have FG:=tI (P:=l.prog) (w:=w) (base:=base) T (dfL X G dH) Fa FC FJ FD FB;have aG:=lL (P:=l.prog) (w:=w) (base:=base) T (dmL bn);have a7:=kP (P:=l.prog) (w:=w) (base:=base) T (dmL cS) aG;have ai:=lA (P:=l.prog) (w:=w) (base:=base) T (dmL cG);have ad:=ku (P:=l.prog) (w:=w) (base:=base) T (dmL c3);have aB:=mi (P:=l.prog) (w:=w) (base:=base) T (dmL bn);have aA:=mK (P:=l.prog) (w:=w) (base:=base) T (dmL db) aB;have aM:=lS (P:=l.prog) (w:=w) (base:=base) T (dmL cq);have a0:=oh (P:=l.prog) (w:=w) (base:=base) T (dmL dd) aM;have am:=lW (P:=l.prog) (w:=w) (base:=base) T (dmL cQ) a0;have ah:=lB (P:=l.prog) (w:=w) (base:=base) T (dmL cE) a0;have aD:=lK (P:=l.prog) (w:=w) (base:=base) T (dmL bn);have bi:=pe (P:=l.prog) (w:=w) (base:=base) T (dmL cC) aD;have a2:=jx (P:=l.prog) (w:=w) (base:=base) T (dmL dk);have ay:=kR (P:=l.prog) (w:=w) (base:=base) T (dmL dj) a2;have ar:=pf (P:=l.prog) (w:=w) (base:=base) T (dmL c5) ay;have ap:=nP (P:=l.prog) (w:=w) (base:=base) T (dmL cV) ay;have aJ:=mD (P:=l.prog) (w:=w) (base:=base) T (dmL bn);have bd:=pv (P:=l.prog) (w:=w) (base:=base) T (dmL cO) aJ;have Fm:=va (P:=l.prog) (w:=w) (base:=base) T (dfL X G dT);have Fl:=we (P:=l.prog) (w:=w) (base:=base) T (dfL X G ee) Fm;have a4:=kB (P:=l.prog) (w:=w) (base:=base) T (dmL cx);have aX:=mO (P:=l.prog) (w:=w) (base:=base) T (dmL c9) a4;have aR:=mR (P:=l.prog) (w:=w) (base:=base) T (dmL cI) Fl Fm aX;have aw:=px (P:=l.prog) (w:=w) (base:=base) T (dmL cu) aR;have aq:=mM (P:=l.prog) (w:=w) (base:=base) T (dmL cp) Fl Fc;have aE:=lM (P:=l.prog) (w:=w) (base:=base) T (dmL bn);have a9:=lf (P:=l.prog) (w:=w) (base:=base) T (dmL de) aE;have af:=kA (P:=l.prog) (w:=w) (base:=base) T (dmL cT);have Fi:Fn l.prog w K mg base "finds_value" 21 ["cell","rooms","holders","tried"] (ke 20):=vH T em 20
 have ag:=lq (P:=l.prog) (w:=w) (base:=base) T (dmL dg) Fi;have aF:=lO (P:=l.prog) (w:=w) (base:=base) T (dmL bn);have aZ:=mX (P:=l.prog) (w:=w) (base:=base) T (dmL c6) aF;have a3:=qp (P:=l.prog) (w:=w) (base:=base) T (dmL c1);have aQ:=tU (P:=l.prog) (w:=w) (base:=base) T (dmL cP);have ao:=om (P:=l.prog) (w:=w) (base:=base) T (dmL dc) a3 aQ;have an:=mo (P:=l.prog) (w:=w) (base:=base) T (dmL cY) a3 aQ;have Ff:=mW (P:=l.prog) (w:=w) (base:=base) T (dfL X G dZ) a9 aZ bd aA bi a7;have aH:=mj (P:=l.prog) (w:=w) (base:=base) T (dmL bn);have aV:=mQ (P:=l.prog) (w:=w) (base:=base) T (dmL co) aH Ff;have ax:=jC (P:=l.prog) (w:=w) (base:=base) T (dmL cU);have ak:=gk (P:=l.prog) (w:=w) (base:=base) T (dmL cJ);have a1:=nB (P:=l.prog) (w:=w) (base:=base) T (dmL df) ax ak ag ao aw am ar ai af an aq ah ap ad;have az:=me (P:=l.prog) (w:=w) (base:=base) T (dmL cv) ax ak ag ao aw am ar ai af an aq ah ap ad;have Fd:=yk (P:=l.prog) (w:=w) (base:=base) T (dfL X G dD) Ff aV;have bt:=pT (P:=l.prog) (w:=w) (base:=base) T (dmL cF) Fp;have bC:=uR (P:=l.prog) (w:=w) (base:=base) T (dmL di) Fv;have bM:=vv (P:=l.prog) (w:=w) (base:=base) T (dmL dl) Fz;have b7:=rG (P:=l.prog) (w:=w) (base:=base) T (dmL cw) Fs;have bP:=vX (P:=l.prog) (w:=w) (base:=base) T (dmL cy) Fx;have bv:=pW (P:=l.prog) (w:=w) (base:=base) T (dmL c2) Fo;have bJ:=uy (P:=l.prog) (w:=w) (base:=base) T (dmL cD) FI;have FK:=wQ (P:=l.prog) (w:=w) (base:=base) T (dfL X G dv) Fd bt bC bM b7 bP bv bJ;have Fh:=qc (P:=l.prog) (w:=w) (base:=base) T (dfL X G dy) Fd ag ao aw am ar ai a1;have Fg:=nA (P:=l.prog) (w:=w) (base:=base) T (dfL X G dU) Fd af an aq ah ap ad az;have Fk:=lc (P:=l.prog) (w:=w) (base:=base) T (dfL X G ef);have Fj:=qZ (P:=l.prog) (w:=w) (base:=base) T (dfL X G dO);have Ft:=rg (P:=l.prog) (w:=w) (base:=base) T (dfL X G eE) Fq Fr FF Fj FK Fh Fg;exact Gi T (qj et en er) FH Fe FG Fd Fk Ft Fh Fg ag ao aw am ar ai a1 af an aq ah ap ad az
theorem IE {l:PySem.W.OpenLaw} {q:Program} {d:DefRec} {K:Params->fy} (Y:l.most=some 63) (B:d.params.defaults=[])
  (hY : ∀(w:World) (h:Heap),YP w h->(K w.params).In h)
  (F : ∀(w:World) (mg:Str->Option Value) (fa:Addr) (h:Heap),(K w.params).In h->h.Ns md mg->mg d.name=some (.ref fa) ->
   ∃fd:FuncData,(∀(s:Shared) (u:Value),BindsTo s fd ⟨[u],[]⟩ [("_law_script",u)])/\∀base:Heap,(K w.params).In base->base.Ns md mg->ji l.prog w (K w.params) mg base CX0 45 fa fd ["_law_script"] (yK (K w.params))) :
  PySem.W.WalkO q loose XP YP l.row.toRowW d [] (λf vs=>PySem.call f vs) :=
 L2.C2 (n:=63) (k:=45) (x := "_law_script") (CX:=λ_=>CX0) (sp:=λw=>yK (K w.params)) Y ∅ B ⟨rfl,∅,∅⟩ hY F (λ_ _ a ns hl _ L=>⟨a,ns,rfl,L,hl,λ_=>rfl⟩) λ_ _ _ _ _ z=>z
end Lw
variable {W:Lw.Wi} {Ws:List Lw.Wx} {dat:Lw.jp}
open PySem PySem.W PyProof.Rows
local macro_rules | `(tactic| ctx_has kj $ids*) => `(tactic| ($[case $ids:ident => (change _ = _; k_is)];*))
local macro_rules | `(tactic| ctx_has kc $ids*) => `(tactic| ($[case $ids:ident => (constructor; (all_goals k_is))];*))
local macro_rules | `(tactic| ctx_has km $ids*) => `(tactic| ($[case $ids:ident => (refine' Lw.dmI ⟨?a, ?i, ?k⟩ ?l ?c ?k; (case a => k_is); (case i => k_is); (case l => k_is); (case c => k_is); (case k => k_is))];*))
local macro_rules | `(tactic| ctx_has kn $ids*) => `(tactic| ($[case $ids:ident => (refine' Lw.dmI ⟨?m, ?a, ?i, ?n⟩ ?l ?c ?k; (case m => k_is); (case a => k_is); (case i => k_is); (case n => k_is); (case l => k_is); (case c => k_is); (case k => k_is))];*))
local macro_rules | `(tactic| ctx_has kq $ids*) => `(tactic| ($[case $ids:ident => (refine' Lw.dmI ⟨?s, ?r, ?a, ?k⟩ ?l ?c ?k; (case s => k_is); (case r => k_is); (case a => k_is); (case l => k_is); (case c => k_is); (case k => k_is))];*))
local macro_rules | `(tactic| ctx_has kk) => `(tactic| (refine' Lw.dfI ?a ?l ?c ?k; (case a => k_is); (case l => k_is); (case c => k_is); (case k => k_is)))
local macro_rules | `(tactic| ctx_has kd $ids*) => `(tactic| ($[case $ids:ident => ctx_has kk];*))
local macro_rules | `(tactic| o_head $H) => do
  let hw:=Lean.mkIdent `hw
  let hc:=Lean.mkIdent `hc
  `(tactic| (refine holds_open (q:=Lw.jk) (hY:=Hook.of $H) (hYk:=Hook.keeps $H) (YP:=Hook.says $H) (XP:=XL Lw.jk List.nil) (Xt:=Lw.hX)
                Lw.hl (λs e=>xl_of s (Bool.and_eq_true_iff.mp e).1) XL.keeps (by rfl) (by rfl) (by rfl)
                (λs e=>recFacts_of (Bool.and_eq_true_iff.mp e).2) (by rfl) (by assumption) (by decide+kernel)
                ⟨rfl,rfl,rfl,rfl,rfl,by decide+kernel⟩ ?$hw ?$hc))
set_option maxHeartbeats 0 in
theorem PySem.Challenge.cw_seekhall_k20_whole_wishes_by_all_filling_holds : PySem.Challenge.rw_seekhall_k20_whole_wishes_by_all_filling.Holds := by
  w_on;refine PySem.W.holds_law Lw.wsd (λsaid=>?_);o_head (kHook Lw.Em.heap_1 Lw.hAs Lw.hAe);(case hw=>w_witness2)
  k_fill
  refine Lw.IE (l:=PySem.Challenge.rw_seekhall_k20_whole_wishes_by_all_filling) rfl rfl (λw h Y=>PySem.W.kIn_of Y) ?F
  case F =>
    intro w mg fa h KX G hmg
    refine' Lw.Gs KX G hmg ?aC_Wish ?aC_Unlike ?cl_Unlike ?nf_Unlike_wish ?nf_Unlike_cells ?aC_Many ?cl_Many ?nf_Many_wish ?nf_Many_among ?nf_Many_cells ?nf_Many_low ?nf_Many_high ?aC_Sum ?cl_Sum ?nf_Sum_wish ?nf_Sum_terms ?nf_Sum_low ?nf_Sum_high ?aC_Table ?cl_Table ?nf_Table_wish ?nf_Table_cells ?nf_Table_rows ?aC_Way ?cl_Way ?nf_Way_wish ?nf_Way_cells ?nf_Way_ends ?nf_Way_leads ?aC_Behind ?cl_Behind ?nf_Behind_wish ?nf_Behind_cells ?nf_Behind_gap ?aC_Same ?cl_Same ?nf_Same_wish ?nf_Same_cell ?nf_Same_among ?nf_Same_inner ?d0 ?d1 ?d2 ?d3 ?d4 ?d5 ?d6 ?d7 ?d8 ?d9 ?d10 ?d11 ?d12 ?d13 ?d14 ?d15 ?d16 ?d17 ?d18 ?d19 ?d20 ?d21 ?d22 ?d23 ?d24 ?d25 ?mc26 ?mi27 ?mm28 ?mm29 ?mi30 ?mm31 ?mm32 ?mm33 ?mm34 ?mi35 ?mm36 ?mm37 ?mm38 ?mm39 ?mi40 ?d41 ?d42 ?mm43 ?mm44 ?mm45 ?mm46 ?mm47 ?mi48 ?mm49 ?d50 ?mm51 ?mi52 ?mm53 ?mm54 ?mm55 ?mm56 ?d57 ?mi58 ?mm59 ?mm60 ?mm61 ?mm62 ?d63 ?mm64 ?mm65 ?mm66 ?mm67 ?mm68 ?mm69 ?mm70 ?d71 ?d72 ?d73 ?d74 ?d75 ?d76 ?a77 ?l77 ?c77 ?k77 ?z0 ?z1 ?z2 ?z3 ?z4 ?z5 ?z6 ?z7 ?z8 ?z9 ?z10 ?z11 ?z12 ?z13 ?z14 ?z15 ?z16 ?z17 ?nd7 ?xa7 ?xn7 ?xt7 ?xm7 ?xk7 ?xw7 ?aC_KEEPERS ?tl_KEEPERS ?tk_KEEPERS ?tx_KEEPERS_unlike ?tx_KEEPERS_many ?tx_KEEPERS_sum ?tx_KEEPERS_table ?tx_KEEPERS_way ?tx_KEEPERS_behind ?tx_KEEPERS_same
    ctx_has kj aC_Wish aC_Unlike aC_Many aC_Sum aC_Table aC_Way aC_Behind aC_Same
    ctx_has kc cl_Unlike cl_Many cl_Sum cl_Table cl_Way cl_Behind cl_Same
    ctx_has km mm28 mm29 mm31 mm32 mm33 mm34 mm36 mm37 mm38 mm39 mm43 mm44 mm45 mm46 mm47 mm49 mm51 mm53 mm54 mm55 mm56 mm59 mm60 mm61 mm62 mm64 mm65 mm66 mm67 mm68 mm69 mm70
    ctx_has kn mi27 mi30 mi35 mi40 mi48 mi52 mi58
    ctx_has kq mc26
    ctx_has kd d0 d1 d2 d3 d4 d5 d6 d7 d8 d9 d10 d11 d12 d13 d14 d15 d16 d17 d18 d19 d20 d21 d22 d23 d24 d25 d41 d42 d50 d57 d63 d71 d72 d73 d74 d75 d76
    ctx_has kj nf_Unlike_wish nf_Unlike_cells nf_Many_wish nf_Many_among nf_Many_cells nf_Many_low nf_Many_high nf_Sum_wish nf_Sum_terms nf_Sum_low nf_Sum_high nf_Table_wish nf_Table_cells nf_Table_rows nf_Way_wish nf_Way_cells nf_Way_ends nf_Way_leads nf_Behind_wish nf_Behind_cells nf_Behind_gap nf_Same_wish nf_Same_cell nf_Same_among nf_Same_inner a77 l77 c77 k77 z0 z1 z2 z3 z4 z5 z6 z7 z8 z9 z10 z11 z12 z13 z14 z15 z16 z17
    (case nd7=>decide)
    (case xa7=>kernel_rfl)
    (case xn7=>k_is)
    (case xt7=>k_is)
    (case xm7=>kernel_rfl)
    (case xk7=>kernel_rfl)
    (case xw7=>kernel_rfl)
    ctx_has kj aC_KEEPERS
    ctx_has kj tl_KEEPERS
    (case tk_KEEPERS=>k_keys)
    ctx_has kj tx_KEEPERS_unlike tx_KEEPERS_many tx_KEEPERS_sum tx_KEEPERS_table tx_KEEPERS_way tx_KEEPERS_behind tx_KEEPERS_same
